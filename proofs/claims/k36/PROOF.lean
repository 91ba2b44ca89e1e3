import PyProof.Rows.All
import Wide.All
import OpenK.AllK
import Wide.FinOn
import Lean
import PyProof.EqAt
import PyProof.EqKinds
import PyProof.TupleCall
import PySem.Challenge.RW_bendproof_k36_one_of_three
set_option Elab.async false
set_option linter.all false
set_option maxRecDepth 100000
set_option maxHeartbeats 4000000
local macro_rules | `(tactic| omega) => `(tactic| first | lia | omega (splitDisjunctions := true))
namespace L2
open PySem
def Y6 (s:Stmt) (j:Nat):Stmt:=match s with
 | .ClassDef _ _ _ body _ _ _ _ _ _ _=>body.getD j (.Pass ⟨0,0,0,0⟩)
 | _=>.Pass ⟨0,0,0,0⟩
def ww (s:Stmt):Arguments:=match s with
 | .FunctionDef _ a _ _ _ _ _ _ _ _=>a
 | _=>{ posonlyargs:=[],args:=[],vararg:=none,kwonlyargs:=[],kw_defaults:=[],kwarg:=none,defaults:=[] }
def yw (s:Stmt):List Stmt:=match s with
 | .FunctionDef _ _ b _ _ _ _ _ _ _=>b
 | _=>[]
def qQ (s:Stmt):Scope:=match s with
 | .FunctionDef _ _ _ _ _ _ sc _ _ _=>sc
 | _=>{ kind:=.function,names:=[],isGenerator:=false,isCoroutine:=false }
end L2
namespace BP
open PySem L2
def top (i:Nat):Stmt:=PySem.Challenge.pw_bendproof_k36_one_of_three.main.body.getD i (.Pass ⟨0,0,0,0⟩)
abbrev sy9:Stmt:=top 39
abbrev JW:Stmt:=top 38
abbrev syl:Stmt:=top 40
abbrev yJ:Stmt:=top 52
abbrev xW:Stmt:=top 41
abbrev kQ:Stmt:=top 44
abbrev kK:Stmt:=top 53
abbrev vW:Stmt:=top 55
abbrev syw:Stmt:=top 21
abbrev xY:Stmt:=top 22
abbrev Jy:Stmt:=top 16
abbrev yK:Stmt:=Y6 (top 18) 2
abbrev zJ:Stmt:=Y6 (top 18) 1
abbrev ZW:Stmt:=top 24
abbrev Q3:Stmt:=Y6 (top 18) 6
abbrev v6:Stmt:=top 17
abbrev vj:Stmt:=top 23
abbrev syo:Stmt:=top 25
abbrev yY:Stmt:=top 26
abbrev szu:Stmt:=top 27
abbrev szw:Stmt:=top 9
abbrev W1:Stmt:=top 11
abbrev syq:Stmt:=top 12
abbrev sy0:Stmt:=top 8
abbrev sys:Stmt:=top 10
abbrev vY:Stmt:=Y6 (top 32) 1
abbrev jV:Stmt:=Y6 (top 32) 2
abbrev yX:Stmt:=Y6 (top 32) 3
abbrev yk:Stmt:=Y6 (top 32) 4
abbrev jJ:Stmt:=Y6 (top 32) 5
abbrev jK:Stmt:=top 13
abbrev vQ:Stmt:=top 31
abbrev j6:Stmt:=Y6 (top 18) 0
abbrev szx:Stmt:=top 19
abbrev v5:Stmt:=top 20
abbrev wx:Stmt:=Y6 (top 32) 0
abbrev syu:Stmt:=top 28
abbrev j5:Stmt:=top 29
abbrev YZ:Stmt:=top 33
abbrev szz:Stmt:=top 35
abbrev Q9:Stmt:=top 56
abbrev sy4:Stmt:=top 54
abbrev syk:Stmt:=top 37
abbrev kW:Stmt:=top 47
abbrev Zx:Stmt:=top 49
abbrev syi:Stmt:=top 42
abbrev sy7:Stmt:=top 43
abbrev Z7:Stmt:=top 48
abbrev sy2:Stmt:=top 46
abbrev ZJ:Stmt:=top 45
abbrev sy6:Stmt:=top 50
abbrev v8:Stmt:=top 51
abbrev sy1:Stmt:=top 57
def view:Program:={ PySem.Challenge.pw_bendproof_k36_one_of_three with main:={ PySem.Challenge.pw_bendproof_k36_one_of_three.main with body:=[top 57] } }
def others:List Str:=[Str.ofString "_wall",Str.ofString "BendError",Str.ofString "NoRatio",Str.ofString "NOUGHT",Str.ofString "ONE",Str.ofString "MINUS_ONE",Str.ofString "is_whole",Str.ofString "common",Str.ofString "ratio",Str.ofString "times",Str.ofString "over",Str.ofString "over_one_bottom",Str.ofString "ROUGH_BITS",Str.ofString "swept",Str.ofString "least_quotient",Str.ofString "Tableau",Str.ofString "fitness",Str.ofString "seat_variables",Str.ofString "set_guide",Str.ofString "best_step",Str.ofString "mending_steps",Str.ofString "go_on",Str.ofString "mend",Str.ofString "climbing_steps",Str.ofString "climb",Str.ofString "rough",Str.ofString "likely_heads",Str.ofString "whole_line",Str.ofString "Quest",Str.ofString "begun",Str.ofString "highest",Str.ofString "_law_whole",Str.ofString "_law_cell_at",Str.ofString "_law_mixed",Str.ofString "_law_wide",Str.ofString "_law_part",Str.ofString "_law_sum",Str.ofString "_law_many",Str.ofString "_law_taken",Str.ofString "_law_dot",Str.ofString "_law_below",Str.ofString "_law_ratios",Str.ofString "_law_mix",Str.ofString "_law_prices_good",Str.ofString "_law_keeps",Str.ofString "_law_right",Str.ofString "_law_row_numbers",Str.ofString "_law_shares",Str.ofString "_law_copy",Str.ofString "_law_plan",Str.ofString "_law_row"]
theorem map_pair {α β γ:Type} {o:Option α} {f:α→β} {g:α→γ} {x:β} {y:γ} (h1:o.map f=some x) (h2:o.map g=some y):o.map (fun s=>(f s,g s))=some (x,y):=by
 cases o with
 | none=>cases h1
 | some s =>
  have a:=Option.some.inj h1;have b:=Option.some.inj h2;rw [← a,← b];rfl
open PySem.W in
def Seen (r:OpenRow) (q:Program) (ls:List Str) (N:Nat):Prop:=∀ w,(openEnds treeTable r.prog w N).map (fun s=>openSeen q ls (importedModules r.prog.main.body) (fun s=>xlAt q [] s&&recOk r.toRowW.records s) true s)=some (openGood q ls)
open PySem.W in
theorem left_two {r:OpenRow} {q:Program} {ls:List Str} {N:Nat} {α:Type} {Yf:Shared→α} {Ya:World→α} (A:Seen r q ls N) (B:∀ w,(openEnds treeTable r.prog w N).map Yf=some (Ya w)) :
  LeftO r.prog q ls (fun s=>xlAt q [] s&&recOk r.toRowW.records s) Yf Ya N:=fun w=>map_pair (A w) (B w)
open PySem.W in
theorem head {r:OpenRow} {q:Program} {ls:List Str} {d:DefRec} {kwd:List (Str×Expr)} (H:Hook) (N:Nat)
  (A:Seen r q ls N) (B:∀ w,(openEnds treeTable r.prog w N).map H.obs=some (H.val w))
  (df:defOf q r.name=some (d,kwd)) (pd:r.prog.theDef r.name=some (d.params,d.body,d.scope))
  (kw:kwWritten? d.params.kwonlyargs d.params.kw_defaults=some kwd) (wr:(!r.writes||r.records.isEmpty)=true) (sd:r.wellSaid=true)
  (ok:(chainsOk q&&opensWell r.prog&&(frees r.toRowW&&r.within.isEmpty))=true) (br:r.prog.bare) (pr:r.toRowW.promised)
  (cl:WalkO q ls (XL q []) H.says r.toRowW d kwd fun f vs=>PySem.call f vs):r.Holds :=
 have both:∀ s:Shared,(xlAt q [] s&&recOk r.toRowW.records s)=true→xlAt q [] s=true∧recOk r.toRowW.records s=true:=fun s e=>by simpa using e
 holds_open (left_two A B) H.of H.keeps (fun s e=>xl_of s (both s e).1) XL.keeps df pd kw (fun s e=>recFacts_of (both s e).2) wr sd ok br pr cl
open PySem.W in
noncomputable def topG (st:SharedT→Thread→Option (SharedT×Thread)) (ok:Thread→Bool) (N:Nat):SharedT→Thread→Option SharedT :=
 Nat.rec (fun _ _=>none) (fun _ go s t=>cond (through t) (some s) (cond (ok t) ((st s t).bind fun x=>go x.1 x.2) none)) N
open PySem.W in
theorem topG_of {tb:String→Option Builtin} {p:Program} {w:World} {m:Nat} {ann:Option Value} (n:Nat):∀ (s z:SharedT) (t:Thread),topG (stepT (denote tb) p w) (stepOk m ann) n s t=some z→topRun tb p w m ann n s.abs t=some z.abs:=by
 induction n with
 | zero=>intro s z t h; cases h
 | succ n ih =>
  intro s z t h
  replace h:cond (through t) (some s) (cond (stepOk m ann t) ((stepT (denote tb) p w s t).bind fun x=>topG (stepT (denote tb) p w) (stepOk m ann) n x.1 x.2) none)=some z:=h
  unfold topRun
  revert h
  cases through t
  ·cases stepOk m ann t
   ·exact fun h=>nomatch h
   ·cases e:stepT (denote tb) p w s t
    ·exact fun h=>nomatch h
    ·intro h
     rw [stepT_spec e];exact ih _ _ _ h
  ·intro h
   rw [Option.some.inj h]
open PySem.W in
noncomputable def startT (P:Params) (os:OsState):SharedT :=
 ⟨List.rec (motive:=fun _=>BT→Nat→BT) (fun T _=>T) (fun o _ go T n=>go (T.ins n o) (n+1)) (boot_heap P).objs.toList .nil 0,11,(boot_heap P).life,#[],boot_drawn,boot_toks,os⟩
open PySem.W in
theorem start_abs (P:Params) (os:OsState):(startT P os).abs=⟨boot_heap P,#[],boot_drawn,boot_toks,os⟩:=by kernel_rfl
open PySem.W in
noncomputable abbrev runT (p:Program) (N:Nat) (w:World) (os:OsState):Option SharedT :=
 topG (stepT (denote treeTable) p w) (stepOk 11 ((boot_heap w.params).nsMap mainGlobals "__annotations__")) N (startT w.params os) (topStub p)
open PySem.W in
noncomputable def Calm (p:Program) (w:World) (s:Shared):Bool:=staticsOk (importedModules p.main.body) (boot_heap w.params) s.heap&&namesBound p s.heap&&gensDone s&&laidKept (boot_heap w.params) s.heap
open PySem.W in
def Ends (p:Program) (N:Nat):Prop:=∀ w:World,∃ os s,runT p N w os=some s∧openEnds treeTable p w N=some s.abs
open PySem.W in
theorem ends_of {p:Program} {N:Nat} (e:opening p=plainProg p.main.scope.names) (hN:Nat.ble 600 N=true) (f:∀ s,fenceModules? p s=some s)
  (A:∀ w os,(runT p N w os).map (fun s=>Calm p w s.abs)=some true):Ends p N:=by
 intro w;obtain ⟨⟨h,gs,d,k,os⟩,e1,e2⟩:=Option.map_eq_some_iff.mp (boot_open e hN f w);obtain ⟨s,e3,e4⟩:=Option.map_eq_some_iff.mp (A w os);refine ⟨os,s,e3,?_⟩;obtain ⟨rfl,rfl,rfl,rfl⟩:h=boot_heap w.params∧gs=Array.mk []∧d=boot_drawn∧k=boot_toks:=by simpa using e2
 have r:=topG_of N _ _ _ e3;rw [start_abs] at r;unfold openEnds;rw [e1];show topFrom treeTable p w N _=_;unfold topFrom;rw [show ((boot_heap w.params).isNs mainGlobals&&(Array.mk []:Array GenState).size==0)=true by kernel_rfl,show (boot_heap w.params).objs.size=11 by rfl];dsimp only;rw [r];show (match Calm p w s.abs with | true=>some s.abs | false=>none)=_;rw [e4]
open PySem.W in
theorem look_of {p:Program} {N:Nat} {α:Type} {f:Shared→α} {v:World→α} (E:Ends p N) (A:∀ w os,(runT p N w os).map (fun s=>f s.abs)=some (v w)) (w:World):(openEnds treeTable p w N).map f=some (v w):=by
 obtain ⟨os,s,e1,e2⟩:=E w;rw [e2,← A w os,e1];rfl
open PySem.W in
def getT (s:SharedT) (a:Addr):Option Obj:=cond (Nat.blt a s.n) (alive ((s.tree.get a).getD default)) none
open PySem.W in
theorem getT_eq (s:SharedT):s.abs.heap.get?=getT s:=by
 funext a
 unfold getT Heap.get?;rw [show s.abs.heap.objs[a]?=_ from absHeap_at s.tree s.n s.life a]
 by_cases h:a<s.n
 ·rw [if_pos h,show Nat.blt a s.n=true from Nat.ble_eq_true_of_le h]
  show (match some ((s.tree.get a).getD default) with | some ⟨_,_,.freed,_⟩=>none | o=>o)=alive ((s.tree.get a).getD default);generalize (s.tree.get a).getD default=o;obtain ⟨c,d,dt,sl⟩:=o
  cases dt <;> rfl
 ·rw [if_neg h]
  cases q:Nat.blt a s.n
  ·rfl
  ·exact absurd (Nat.le_of_ble_eq_true q) h
open PySem.W in
theorem look_km {p:Program} {N:Nat} {K:Params→Frag} {as:List Addr} {e:∀ P,as=(K P).map (·.1)} {ts:List Addr} (E:Ends p N) (A:∀ w os,(runT p N w os).map (fun s=>(as.map (getT s),ts.map (getT s)))=some ((K w.params).map fun p=>some p.2,ts.map fun _=>some (tabObj #[]))) (w:World):(openEnds treeTable p w N).map (kmHook K as e ts).obs=some ((kmHook K as e ts).val w):=by
 refine look_of E (fun w os=>?_) w;refine Eq.trans ?_ (A w os);exact congrArg (fun f=>Option.map f (runT p N w os)) (funext fun s=>by show (as.map s.abs.heap.get?,ts.map s.abs.heap.get?)=_; rw [getT_eq])
set_option maxHeartbeats 0 in
theorem plainly:Ends (PySem.Challenge.rw_bendproof_k36_one_of_three).row.prog 6000:=by
 refine ends_of (by kernel_rfl) rfl (fun s=>by kernel_rfl) ?_;intro w os
 delta runT Calm
 rw [PySem.W.Fast.te14364793385576792824,PySem.W.Fast.te10156331382660048174,PySem.W.Fast.te11892475500146522536,PySem.W.Fast.te6613529449190102663,PySem.W.Fast.te8920871248978507458,PySem.W.Fast.te5923862056798008813]
 kernel_rfl
set_option maxHeartbeats 0 in
theorem seen:Seen (PySem.Challenge.rw_bendproof_k36_one_of_three).row view others 6000:=by
 refine look_of plainly ?_;intro w os
 delta runT
 rw [PySem.W.Fast.te14364793385576792824,PySem.W.Fast.te10156331382660048174,PySem.W.Fast.te11892475500146522536,PySem.W.Fast.te6613529449190102663,PySem.W.Fast.te8920871248978507458,PySem.W.Fast.te5923862056798008813,PySem.W.Fast.te4187177175401517315]
 delta PySem.W.Fast.tw4187177175401517315 PySem.W.openGood
 dsimp only
 kernel_rfl
def codeVq (vs:Array Value) (tb:Addr):Bool:=match (vs[11]?:Option Value),vs.getD 11 .none,vs.getD 18 .none,vs.getD 7 .none,vs.getD 9 .none,vs.getD 10 .none with
 | some (.ref p),.ref q,.str _ _,.int _ _,.bool _,.int _ _=>p==tb&&q==tb
 | _,_,_,_,_,_=>false
def FnP (K:PySem.W.Frag) (x q:Str) (st:Stmt) (f:Addr):Prop:=∃ (oc:Value) (od an:Option Addr) (sl:Array (Option Value)) (kV dc pm cd ct:Value),K.lookup f=some ⟨oc,od,.func (PySem.W.fnOf x q (ww st) (yw st) (qQ st) .none kV dc pm an cd ct),sl⟩∧PySem.W.codeIn K cd q=true∧PySem.W.keepIn K (.ref f)=true
def PF (K:PySem.W.Frag) (x:Str) (st:Stmt):Prop:=∃ f,PySem.W.nsIn K mainGlobals x=some (some (.ref f))∧True∧FnP K x x st f
def PM (K:PySem.W.Frag) (C:Addr) (m q:Str) (st:Stmt):Prop:=∃ f,PySem.W.findIn K (.ref C) m=some (some (.ref f))∧PySem.W.isFn K (.ref f)=true∧FnP K m q st f
theorem PF.of {K:PySem.W.Frag} {x:Str} {st:Stmt} {f:Addr} {oc:Value} {od an:Option Addr} {sl:Array (Option Value)} {kV dc pm cd ct:Value} (a:PySem.W.nsIn K mainGlobals x=some (some (.ref f))) (l:K.lookup f=some ⟨oc,od,.func (PySem.W.fnOf x x (ww st) (yw st) (qQ st) .none kV dc pm an cd ct),sl⟩) (c:PySem.W.codeIn K cd x=true) (k:PySem.W.keepIn K (.ref f)=true):PF K x st:=⟨f,a,trivial,_,_,_,_,_,_,_,_,_,l,c,k⟩
theorem PM.of {K:PySem.W.Frag} {C:Addr} {m q:Str} {st:Stmt} {f:Addr} {oc:Value} {od an:Option Addr} {sl:Array (Option Value)} {kV dc pm cd ct:Value} (a:PySem.W.findIn K (.ref C) m=some (some (.ref f))) (i:PySem.W.isFn K (.ref f)=true) (l:K.lookup f=some ⟨oc,od,.func (PySem.W.fnOf m q (ww st) (yw st) (qQ st) .none kV dc pm an cd ct),sl⟩) (c:PySem.W.codeIn K cd q=true) (k:PySem.W.keepIn K (.ref f)=true):PM K C m q st:=⟨f,a,i,_,_,_,_,_,_,_,_,_,l,c,k⟩
def Pins (K:PySem.W.Frag) (tb:Addr):Prop:=∀ C:Prop,(∀ {CC_Tableau:Addr} {CC_Quest:Addr} {f34:Addr} {od34 an34:Option Addr} {sl34:Array (Option Value)} {oc34 kV34 dc34 pm34 ct34:Value} {CDL:Addr} {oeL:Option Addr} {vsL:Array Value} {slL:Array (Option Value)} {gg_NOUGHT:Addr} {go_NOUGHT:Option Addr} {gn_NOUGHT:Nat} {gs_NOUGHT:Array (Option Value)} {gt0_NOUGHT gt1_NOUGHT:Tok} {gg_ONE:Addr} {go_ONE:Option Addr} {gn_ONE:Nat} {gs_ONE:Array (Option Value)} {gt0_ONE gt1_ONE:Tok} {tk_ROUGH_BITS:Tok} {gg_MINUS_ONE:Addr} {go_MINUS_ONE:Option Addr} {gn_MINUS_ONE:Nat} {gs_MINUS_ONE:Array (Option Value)} {gt0_MINUS_ONE gt1_MINUS_ONE:Tok}
  (gTableau:PySem.W.nsIn K mainGlobals "Tableau" = some (some (.ref CC_Tableau))) (gQuest:PySem.W.nsIn K mainGlobals "Quest" = some (some (.ref CC_Quest))) (a34:PySem.W.nsIn K mainGlobals "seat_variables" = some (some (.ref f34))) (l34:K.lookup f34=some ⟨oc34,od34,.func (PySem.W.fnOf "seat_variables" "seat_variables" (ww v5) (yw v5) (qQ v5) .none kV34 dc34 pm34 an34 (.ref CDL) ct34),sl34⟩) (c34:PySem.W.codeIn K (.ref CDL) "seat_variables" = true) (k34:PySem.W.keepIn K (.ref f34)=true) (lkL:K.lookup CDL=some ⟨.type "code",oeL,.fields vsL,slL⟩) (vL:codeVq vsL tb=true) (nL:K.lookup tb=none) (z0:PySem.W.nsIn K mainGlobals "len" = some none) (z1:PySem.W.nsIn K mainGlobals "range" = some none) (z2:PySem.W.nsIn K mainGlobals "enumerate" = some none) (z3:PySem.W.nsIn K mainGlobals "int" = some none) (z4:PySem.W.nsIn K mainGlobals "abs" = some none) (z5:PySem.W.nsIn K mainGlobals "divmod" = some none) (z6:PySem.W.nsIn K mainGlobals "all" = some none) (z7:PySem.W.nsIn K mainGlobals "list" = some none) (z8:PySem.W.nsIn K mainGlobals "zip" = some none) (z9:PySem.W.nsIn K mainGlobals "isinstance" = some none) (z10:PySem.W.nsIn K mainGlobals "bool" = some none) (z11:PySem.W.nsIn K mainGlobals "max" = some none) (z12:PySem.W.nsIn K mainGlobals "tuple" = some none) (z13:PySem.W.nsIn K mainGlobals "any" = some none) (z14:PySem.W.nsIn K mainGlobals "str" = some none) (z15:PySem.W.nsIn K mainGlobals "reversed" = some none) (pgTableau:PySem.W.plainGet K CC_Tableau Str.empty=true) (hdTableau:PySem.W.hasDictIn K CC_Tableau=true) (poTableau:PySem.W.plainOver K CC_Tableau=true) (saTableau:PySem.W.findIn K (.ref CC_Tableau) "__setattr__" = some (some (.builtin "object.__setattr__"))) (mkTableau:PySem.W.makesIn K CC_Tableau=true) (kcTableau:PySem.W.keepIn K (.ref CC_Tableau)=true) (naTableau_rooms:PySem.W.findIn K (.ref CC_Tableau) "rooms" = some none) (naTableau_bottom:PySem.W.findIn K (.ref CC_Tableau) "bottom" = some none) (naTableau_lines:PySem.W.findIn K (.ref CC_Tableau) "lines" = some none) (naTableau_names:PySem.W.findIn K (.ref CC_Tableau) "names" = some none) (naTableau_heads:PySem.W.findIn K (.ref CC_Tableau) "heads" = some none) (naTableau_goal:PySem.W.findIn K (.ref CC_Tableau) "goal" = some none) (naTableau_guide:PySem.W.findIn K (.ref CC_Tableau) "guide" = some none) (pgQuest:PySem.W.plainGet K CC_Quest Str.empty=true) (hdQuest:PySem.W.hasDictIn K CC_Quest=true) (poQuest:PySem.W.plainOver K CC_Quest=true) (saQuest:PySem.W.findIn K (.ref CC_Quest) "__setattr__" = some (some (.builtin "object.__setattr__"))) (mkQuest:PySem.W.makesIn K CC_Quest=true) (kcQuest:PySem.W.keepIn K (.ref CC_Quest)=true) (naQuest_tableau:PySem.W.findIn K (.ref CC_Quest) "tableau" = some none) (naQuest_many:PySem.W.findIn K (.ref CC_Quest) "many" = some none) (naQuest_scales:PySem.W.findIn K (.ref CC_Quest) "scales" = some none) (naQuest_aim:PySem.W.findIn K (.ref CC_Quest) "aim" = some none) (qNOUGHT:PySem.W.nsIn K mainGlobals "NOUGHT" = some (some (.ref gg_NOUGHT))) (qlNOUGHT:K.lookup gg_NOUGHT=some ⟨.type "tuple",go_NOUGHT,.seq #[.int 0 gt0_NOUGHT,.int 1 gt1_NOUGHT] gn_NOUGHT,gs_NOUGHT⟩) (qONE:PySem.W.nsIn K mainGlobals "ONE" = some (some (.ref gg_ONE))) (qlONE:K.lookup gg_ONE=some ⟨.type "tuple",go_ONE,.seq #[.int 1 gt0_ONE,.int 1 gt1_ONE] gn_ONE,gs_ONE⟩) (qROUGH_BITS:PySem.W.nsIn K mainGlobals "ROUGH_BITS" = some (some (.int 64 tk_ROUGH_BITS))) (qMINUS_ONE:PySem.W.nsIn K mainGlobals "MINUS_ONE" = some (some (.ref gg_MINUS_ONE))) (qlMINUS_ONE:K.lookup gg_MINUS_ONE=some ⟨.type "tuple",go_MINUS_ONE,.seq #[.int (-1) gt0_MINUS_ONE,.int 1 gt1_MINUS_ONE] gn_MINUS_ONE,gs_MINUS_ONE⟩) (h0:PF K "_law_mixed" sy9) (h1:PF K "_law_cell_at" JW) (h2:PF K "_law_wide" syl) (h3:PF K "_law_row_numbers" yJ) (h4:PF K "_law_part" xW) (h5:PF K "_law_taken" kQ) (h6:PF K "_law_shares" kK) (h7:PF K "_law_plan" vW) (h8:PF K "set_guide" syw) (h9:PF K "best_step" xY) (h10:PF K "swept" Jy) (h11:PM K CC_Tableau "without_head" "Tableau.without_head" yK) (h12:PM K CC_Tableau "exchange" "Tableau.exchange" zJ) (h13:PF K "go_on" ZW) (h14:PM K CC_Tableau "room_lines" "Tableau.room_lines" Q3) (h15:PF K "least_quotient" v6) (h16:PF K "mending_steps" vj) (h17:PF K "mend" syo) (h18:PF K "climbing_steps" yY) (h19:PF K "climb" szu) (h20:PF K "common" szw) (h21:PF K "times" W1) (h22:PF K "over" syq) (h23:PF K "is_whole" sy0) (h24:PF K "ratio" sys) (h25:PM K CC_Quest "corner" "Quest.corner" vY) (h26:PM K CC_Quest "prices_by" "Quest.prices_by" jV) (h27:PM K CC_Quest "empty_prices" "Quest.empty_prices" yX) (h28:PM K CC_Quest "endless_way" "Quest.endless_way" yk) (h29:PM K CC_Quest "ended" "Quest.ended" jJ) (h30:PF K "over_one_bottom" jK) (h31:PF K "whole_line" vQ) (h32:PM K CC_Tableau "__init__" "Tableau.__init__" j6) (h33:PF K "fitness" szx) (h35:PM K CC_Quest "__init__" "Quest.__init__" wx) (h36:PF K "rough" syu) (h37:PF K "likely_heads" j5) (h38:PF K "begun" YZ) (h39:PF K "highest" szz) (h40:PF K "_law_row" Q9) (h41:PF K "_law_copy" sy4) (h42:PF K "_law_whole" syk) (h43:PF K "_law_ratios" kW) (h44:PF K "_law_prices_good" Zx) (h45:PF K "_law_sum" syi) (h46:PF K "_law_many" sy7) (h47:PF K "_law_mix" Z7) (h48:PF K "_law_below" sy2) (h49:PF K "_law_dot" ZJ) (h50:PF K "_law_keeps" sy6) (h51:PF K "_law_right" v8) (h52:PF K "law" sy1),C)→C
end BP
section
open PySem PySem.W PyProof.Rows
local macro_rules | `(tactic| o_head $H) => `(tactic| refine BP.head (q := BP.view) $H 6000 BP.seen ?_ rfl rfl rfl rfl (by assumption) (by decide +kernel) ⟨rfl, rfl, rfl, rfl, rfl, by decide +kernel⟩ ?_ ?_)
set_option maxRecDepth 100000 in
set_option maxHeartbeats 0 in
theorem BP.early (fin:∀ {q:Program} {loose:List Str} {XP:(Str→Option Value)→Heap→Prop} {YP:World→Heap→Prop} {d:DefRec} {K:Params→PySem.W.Frag} {tb:Addr},d.params.defaults=[]→d.name = "law" → (∀ (w:World) (h:Heap),YP w h→(K w.params).In h)→(∀ (w:World) (h:Heap),YP w h→h.get? tb=some (PySem.W.tabObj #[]))→(∀ w:World,BP.Pins (K w.params) tb)→PySem.W.WalkO q loose XP YP (PySem.Challenge.rw_bendproof_k36_one_of_three).row.toRowW d [] (fun f vs=>PySem.call f vs)):PySem.Challenge.rw_bendproof_k36_one_of_three.Holds:=by
 w_on; o_law; k_head
 ·refine BP.look_km BP.plainly ?_
  intro w os
  delta BP.runT
  rw [PySem.W.Fast.te14364793385576792824,PySem.W.Fast.te10156331382660048174,PySem.W.Fast.te11892475500146522536,PySem.W.Fast.te6613529449190102663,PySem.W.Fast.te8920871248978507458]
  kernel_rfl
 ·w_witness2
 k_fill
 refine fin rfl rfl (fun w h Y=>PySem.W.km_in_of Y) (fun w h Y=>PySem.W.km_tabs_of Y _ (List.Mem.head _)) ?F
 case F =>
  intro w C k;refine' k ?gTableau ?gQuest ?a34 ?l34 ?c34 ?k34 ?lkL ?vL ?nL ?z0 ?z1 ?z2 ?z3 ?z4 ?z5 ?z6 ?z7 ?z8 ?z9 ?z10 ?z11 ?z12 ?z13 ?z14 ?z15 ?pgTableau ?hdTableau ?poTableau ?saTableau ?mkTableau ?kcTableau ?naTableau_rooms ?naTableau_bottom ?naTableau_lines ?naTableau_names ?naTableau_heads ?naTableau_goal ?naTableau_guide ?pgQuest ?hdQuest ?poQuest ?saQuest ?mkQuest ?kcQuest ?naQuest_tableau ?naQuest_many ?naQuest_scales ?naQuest_aim ?qNOUGHT ?qlNOUGHT ?qONE ?qlONE ?qROUGH_BITS ?qMINUS_ONE ?qlMINUS_ONE ?h0 ?h1 ?h2 ?h3 ?h4 ?h5 ?h6 ?h7 ?h8 ?h9 ?h10 ?h11 ?h12 ?h13 ?h14 ?h15 ?h16 ?h17 ?h18 ?h19 ?h20 ?h21 ?h22 ?h23 ?h24 ?h25 ?h26 ?h27 ?h28 ?h29 ?h30 ?h31 ?h32 ?h33 ?h35 ?h36 ?h37 ?h38 ?h39 ?h40 ?h41 ?h42 ?h43 ?h44 ?h45 ?h46 ?h47 ?h48 ?h49 ?h50 ?h51 ?h52
  (case gTableau=>k_is)
  (case gQuest=>k_is)
  (case a34=>k_is)
  (case l34=>k_is)
  (case c34=>k_is)
  (case k34=>k_is)
  (case lkL=>k_is)
  (case vL=>kernel_rfl)
  (case nL=>kernel_rfl)
  (case z0=>k_is)
  (case z1=>k_is)
  (case z2=>k_is)
  (case z3=>k_is)
  (case z4=>k_is)
  (case z5=>k_is)
  (case z6=>k_is)
  (case z7=>k_is)
  (case z8=>k_is)
  (case z9=>k_is)
  (case z10=>k_is)
  (case z11=>k_is)
  (case z12=>k_is)
  (case z13=>k_is)
  (case z14=>k_is)
  (case z15=>k_is)
  (case pgTableau=>k_is)
  (case hdTableau=>k_is)
  (case poTableau=>k_is)
  (case saTableau=>k_is)
  (case mkTableau=>k_is)
  (case kcTableau=>k_is)
  (case naTableau_rooms=>k_is)
  (case naTableau_bottom=>k_is)
  (case naTableau_lines=>k_is)
  (case naTableau_names=>k_is)
  (case naTableau_heads=>k_is)
  (case naTableau_goal=>k_is)
  (case naTableau_guide=>k_is)
  (case pgQuest=>k_is)
  (case hdQuest=>k_is)
  (case poQuest=>k_is)
  (case saQuest=>k_is)
  (case mkQuest=>k_is)
  (case kcQuest=>k_is)
  (case naQuest_tableau=>k_is)
  (case naQuest_many=>k_is)
  (case naQuest_scales=>k_is)
  (case naQuest_aim=>k_is)
  (case qNOUGHT=>k_is)
  (case qlNOUGHT=>k_is)
  (case qONE=>k_is)
  (case qlONE=>k_is)
  (case qROUGH_BITS=>k_is)
  (case qMINUS_ONE=>k_is)
  (case qlMINUS_ONE=>k_is)
  all_goals first | (refine' PF.of ?a ?l ?c ?k; (case a=>k_is); (case l=>k_is); (case c=>k_is); (case k=>k_is)) | (refine' PM.of ?a ?i ?l ?c ?k; (case a=>k_is); (case i=>k_is); (case l=>k_is); (case c=>k_is); (case k=>k_is))
end
theorem A1:type_of% @List.getD_eq_getElem?_getD.{0}:=@List.getD_eq_getElem?_getD
theorem A2:type_of% @List.getElem?_append_right.{0}:=@List.getElem?_append_right
theorem A3:type_of% @List.getElem?_eq_some_iff.{0}:=@List.getElem?_eq_some_iff
theorem A4:type_of% @List.getElem?_append_left.{0}:=@List.getElem?_append_left
theorem A5:type_of% @List.getElem?_take_of_lt.{0}:=@List.getElem?_take_of_lt
theorem A6:type_of% @Int.mul_fdiv_cancel_left:=@Int.mul_fdiv_cancel_left
theorem A7:type_of% @List.getElem?_eq_getElem.{0}:=@List.getElem?_eq_getElem
theorem A8:type_of% @List.take_of_length_le.{0}:=@List.take_of_length_le
theorem A9:type_of% @Nat.le_mul_of_pos_left:=@Nat.le_mul_of_pos_left
theorem Aa:type_of% @List.getElem?_set_self.{0}:=@List.getElem?_set_self
theorem Ab:type_of% @List.length_singleton.{0}:=@List.length_singleton
theorem Ac:type_of% @List.mem_append_right.{0}:=@List.mem_append_right
theorem Ad:type_of% @List.length_replicate.{0}:=@List.length_replicate
theorem Ae:type_of% @List.getElem?_eq_none.{0}:=@List.getElem?_eq_none
theorem Af:type_of% @List.mem_of_getElem?.{0}:=@List.mem_of_getElem?
theorem Ag:type_of% @List.getElem?_of_mem.{0}:=@List.getElem?_of_mem
theorem Ah:type_of% @List.mem_append_left.{0}:=@List.mem_append_left
theorem Ai:type_of% @Nat.pow_le_pow_right:=@Nat.pow_le_pow_right
theorem Aj:type_of% @List.getElem?_set_ne.{0}:=@List.getElem?_set_ne
theorem Ak:type_of% @List.length_append.{0}:=@List.length_append
theorem Al:type_of% @List.mem_singleton.{0}:=@List.mem_singleton
theorem Am:type_of% @List.mem_cons_self.{0}:=@List.mem_cons_self
theorem An:type_of% @Nat.lt_of_lt_of_le:=@Nat.lt_of_lt_of_le
theorem Ao:type_of% @Nat.lt_of_le_of_lt:=@Nat.lt_of_le_of_lt
theorem Ap:type_of% @Int.natAbs_natCast:=@Int.natAbs_natCast
theorem Aq:type_of% @Rat.num_divInt_den:=@Rat.num_divInt_den
theorem Ar:type_of% @List.length_range:=@List.length_range
theorem As:type_of% @Rat.divInt_eq_div:=@Rat.divInt_eq_div
theorem At:type_of% @List.getElem_mem.{0}:=@List.getElem_mem
theorem Au:type_of% @List.length_take.{0}:=@List.length_take
theorem Av:type_of% @List.length_map.{0,0}:=@List.length_map
theorem Aw:type_of% @List.mem_append.{0}:=@List.mem_append
theorem Ax:type_of% @List.map_append.{0,0}:=@List.map_append
theorem Ay:type_of% @Rat.intCast_mul:=@Rat.intCast_mul
theorem Az:type_of% @Nat.not_lt_zero:=@Nat.not_lt_zero
theorem B0:type_of% @Option.some.inj.{0}:=@Option.some.inj
theorem B4:type_of% @Int.natAbs_mul:=@Int.natAbs_mul
theorem Ba:type_of% @Nat.le_trans:=@Nat.le_trans
theorem Bb:type_of% @Rat.div_def:=@Rat.div_def
abbrev Bc:=PySem.W.Frag
namespace L2
open PySem PySem.Spec PyProof.Rows
abbrev Key:=Sum Int Str
def keyIs:Key→Value→Bool
 | .inl k,v=>Value.isInt k v
 | .inr x,v=>Value.isStrOf x v
def keyH (w:World):Key→Int
 | .inl k=>hashInt k
 | .inr x=>hashStr w x
theorem wk:∀ {k:Key} {v:Value},keyIs k v=true→(∃ i t,k=Sum.inl i∧v=Value.int i t)∨(∃ x t,k=Sum.inr x∧v=Value.str x t)
 | .inl i,v,h=>by
  obtain ⟨t,e⟩:=Value.isInt_shape (k:=i) (v:=v) h;exact .inl ⟨i,t,rfl,e⟩
 | .inr x,v,h=>by
  obtain ⟨t,e⟩:=Value.isStrOf_shape (x:=x) (v:=v) h;exact .inr ⟨x,t,rfl,e⟩
theorem key_ll (a b:Int):decide ((Sum.inl a:Key)=Sum.inl b)=(a==b):=by
 by_cases e:a=b
 ·subst e; simp
 ·have h:¬ (Sum.inl a:Key)=Sum.inl b:=fun q=>e (Sum.inl.inj q)
  rw [decide_eq_false h];exact (beq_eq_false_iff_ne.mpr e).symm
theorem key_rr (a b:Str):decide ((Sum.inr a:Key)=Sum.inr b)=decide (a=b):=by
 by_cases e:a=b
 ·subst e; simp
 ·have h:¬ (Sum.inr a:Key)=Sum.inr b:=fun q=>e (Sum.inr.inj q)
  rw [decide_eq_false h,decide_eq_false e]
theorem key_lr (a:Int) (b:Str):decide ((Sum.inl a:Key)=Sum.inr b)=false:=decide_eq_false (fun q=>nomatch q)
theorem key_rl (a:Str) (b:Int):decide ((Sum.inr a:Key)=Sum.inl b)=false:=decide_eq_false (fun q=>nomatch q)
def mixKind (prog:Program) (w:World):PySem.KeyKind prog w Key where
 is:=keyIs
 hash:=keyH w
 inj:=fun v a b ha hb=>by
  rcases wk ha with ⟨i,t,rfl,rfl⟩ | ⟨x,t,rfl,rfl⟩
  ·rcases wk hb with ⟨j,u,rfl,e⟩ | ⟨y,u,rfl,e⟩
   ·injection e with e1 _; rw [e1]
   ·exact nomatch e
  ·rcases wk hb with ⟨j,u,rfl,e⟩ | ⟨y,u,rfl,e⟩
   ·exact nomatch e
   ·injection e with e1 _; rw [e1]
 byValue:=fun k v h=>by
  rcases wk h with ⟨i,t,rfl,rfl⟩ | ⟨x,t,rfl,rfl⟩ <;> rfl
 pyHash:=fun hv h=>by
  rcases wk hv with ⟨i,t,rfl,rfl⟩ | ⟨x,t,rfl,rfl⟩
  ·exact wpAny_pyHash_int h
  ·exact wpAny_pyHash_str h
 eqBool:=fun hu hv h=>by
  rcases wk hu with ⟨i,t,rfl,rfl⟩ | ⟨x,t,rfl,rfl⟩
  ·rcases wk hv with ⟨j,u,rfl,rfl⟩ | ⟨y,u,rfl,rfl⟩
   ·rw [key_ll] at h; exact wpAny_eqBool_int h
   ·rw [key_lr] at h; exact SeqAt.EqAt.int_str i t y u _ _ _ _ h
  ·rcases wk hv with ⟨j,u,rfl,rfl⟩ | ⟨y,u,rfl,rfl⟩
   ·rw [key_rl] at h; exact SeqAt.EqAt.str_int x t j u _ _ _ _ h
   ·rw [key_rr] at h; exact wpAny_eqBool_str h
 «strs»:=fun k x t v h=>by
  rcases wk h with ⟨i,u,rfl,e⟩ | ⟨y,u,rfl,e⟩
  ·exact nomatch e
  ·injection e with e1 _
   subst e1
   cases v <;> rfl
end L2
namespace L2
open PySem PySem.Spec PyProof.Rows
inductive V where
 | non | bl (b:Bool) | int (i:Int) | str (x:Str) | byt (b:Array UInt8) | flt (b:UInt64) | ref (a:Addr) | ty (n:String)
 deriving DecidableEq
def RelV:V→Value→Prop
 | .non,u=>u=Value.none
 | .bl b,u=>u=Value.bool b
 | .int i,u=>∃ t,u=Value.int i t
 | .str x,u=>∃ t,u=Value.str x t
 | .byt b,u=>∃ t,u=Value.bytes b t
 | .flt b,u=>∃ t,u=Value.float b t
 | .ref a,u=>u=Value.ref a
 | .ty n,u=>u=Value.type n
abbrev Vals:List V→List Value→Prop:=Paired RelV
theorem Vals.length {xs:List V} {us:List Value} (r:Vals xs us):xs.length=us.length:=Paired.length r
theorem Vals.get:∀ {xs:List V} {us:List Value} {i:Nat} {x:V},Vals xs us→xs[i]?=some x→∃ u,us[i]?=some u∧RelV x u
 | _,_,_,_,.nil,e=>by simp at e
 | _,_,0,_,.cons r _,e=>by simp at e; subst e; exact ⟨_,rfl,r⟩
 | _,_,i+1,x,.cons _ t,e=>by
  obtain ⟨u,h1,h2⟩:=Vals.get (i:=i) (x:=x) t (by simpa using e);exact ⟨u,by simpa using h1,h2⟩
theorem Vals.set {x:V} {u:Value} (r:RelV x u):∀ {xs:List V} {us:List Value} (i:Nat),Vals xs us→Vals (xs.set i x) (us.set i u)
 | _,_,_,.nil=>.nil
 | _,_,0,.cons _ t=>.cons r t
 | _,_,i+1,.cons q t=>.cons q (Vals.set r i t)
theorem Vals.append:∀ {xs ys:List V} {us ws:List Value},Vals xs us→Vals ys ws→Vals (xs++ys) (us++ws)
 | _,_,_,_,.nil,s=>s
 | _,_,_,_,.cons r t,s=>.cons r (Vals.append t s)
theorem Vals.take:∀ {xs:List V} {us:List Value} (n:Nat),Vals xs us→Vals (xs.take n) (us.take n)
 | _,_,0,_=>.nil
 | _,_,_+1,.nil=>.nil
 | _,_,n+1,.cons r t=>.cons r (Vals.take n t)
theorem Vals.drop:∀ {xs:List V} {us:List Value} (n:Nat),Vals xs us→Vals (xs.drop n) (us.drop n)
 | _,_,0,r=>r
 | _,_,_+1,.nil=>.nil
 | _,_,n+1,.cons _ t=>Vals.drop n t
def RelO:Option V→Option Value→Prop
 | some v,some u=>RelV v u
 | none,none=>True
 | _,_=>False
def KV {κ:Type}:List (κ×V)→List (κ×Value)→Prop:=Paired fun (p:κ×V) (q:κ×Value)=>p.1=q.1∧RelV p.2 q.2
def kV:Key→V
 | .inl i=>.int i
 | .inr x=>.str x
inductive HO where
 | lst (xs:List V)
 | tup (xs:List V)
 | dK (kvs:List (Key×V)) | dT (kvs:List (List Key×V))
 | set (S:Int→Bool) (n:Nat)
 | ins (C dx:Addr) (fs:List (Str×V))
 | own (x:Addr)
 | xd (fs:List (Str×V))
 | met (f x:Addr)
 | rng (lo hi:Int)
 | frz (o:Obj) (u:HO)
 | tbl (ps:Array Value)
 | ext (φ:Heap→Prop)
abbrev Hp:=Addr→Option HO
def upd (H:Hp) (a:Addr) (o:HO):Hp:=fun b=>if b=a then some o else H b
theorem qj {H:Hp} {a:Addr} {o:HO}:upd H a o a=some o:=by unfold upd; rw [if_pos rfl]
theorem zZ {H:Hp} {a b:Addr} {o:HO} (h:b≠a):upd H a o b=H b:=by unfold upd; rw [if_neg h]
theorem ne_of {H:Hp} {a b:Addr} {o u:HO} (h:H a=some o) (h':H b=some u) (d:o≠u):a≠b:=by
 intro e; subst e; rw [h] at h'; exact d (B0 h')
theorem qV {H:Hp} {a b:Addr} {o:HO} (h:H a=some o) (h':H b=none):a≠b:=by
 intro e; subst e; rw [h] at h'; cases h'
section
variable (P:Program) (w:World)
def ObjOk (H:Hp) (h:Heap) (a:Addr):HO→Prop
 | .lst xs=>xs.length≤sizeLine∧∃ (its:List Value) (n:Nat),Vals xs its∧h.get? a=some { cls:=.type "list",data:=.seq its.toArray n }
 | .tup xs=>xs.length≤sizeLine∧∃ its:List Value,Vals xs its∧IsTup h a its.toArray
 | .dK kvs=>kvs.length≤sizeLine∧(a==sysModules)=false∧∃ vs,KV kvs vs∧h.DictOf (mixKind P w) a vs
 | .dT kvs=>kvs.length≤sizeLine∧(a==sysModules)=false∧∃ xs:List (List Key×Addr×Value),Paired (fun (p:List Key×V) (q:List Key×Addr×Value)=>p.1=q.1∧H q.2.1=some (.tup (p.1.map kV))∧RelV p.2 q.2.2) kvs xs∧∃ o es ep,h.get? a=some o∧o.ExactDict∧o.data=.dict es ep∧es.toList=xs.map (entryOfKey (tupleKind (mixKind P w)))∧(xs.map (·.1)).Nodup
 | .set S n=>h.SetOf (intKind P w) a S n
 | .ins C dx fs=>H dx=some (.own a)∧fs.length≤1000∧dx≠a∧h.get? a=some (PySem.W.instObj C dx)∧∃ mA,h.Ns1 dx mA∧(∀ f,RelO (fs.lookup f) (mA f))∧PySem.Within mA (fs.map (·.1))
 | .own _=>∃ o,h.get? a=some o
 | .xd fs=>∃ mA,h.Ns1 a mA∧∀ f,RelO (fs.lookup f) (mA f)
 | .rng lo hi=>∃ t u v,h.get? a=some { cls:=.type "range",data:=.fields #[.int lo t,.int hi u,.int 1 v] }
 | .frz o u=>h.get? a=some o∧ObjOk H h a u
 | .tbl ps=>h.get? a=some { cls:=.none,data:=.fields ps }
 | .met f x=>h.get? a=some (PySem.W.methodObj (.ref f) (.ref x))
 | .ext φ=>φ h∧(∃ o,h.get? a=some o)∧∀ h1 h2:Heap,φ h1→(∀ o,h1.get? a=some o→h2.get? a=some o)→φ h2
def HOk (H:Hp) (h:Heap):Prop:=∀ a o,H a=some o→ObjOk P w H h a o
end
section
variable {P:Program} {w:World} {H H':Hp} {h h':Heap} {a:Addr} {o:HO}
theorem ObjOk.lt (x:ObjOk P w H h a o):a<h.objs.size:=by
 cases o with
 | lst xs=>obtain ⟨_,_,_,_,e⟩:=x; exact Heap.lt_size e
 | tup xs=>obtain ⟨_,_,_,p⟩:=x; exact p.lt
 | dK kvs=>obtain ⟨_,_,_,_,o,_,_,e,_⟩:=x; exact Heap.lt_size e
 | dT kvs=>obtain ⟨_,_,_,_,o,_,_,e,_⟩:=x; exact Heap.lt_size e
 | set S n=>obtain ⟨o,_,_,_,e,_⟩:=x; exact Heap.lt_size e
 | ins C dx fs=>obtain ⟨_,_,_,e,_⟩:=x; exact Heap.lt_size e
 | own y=>obtain ⟨_,e⟩:=x; exact Heap.lt_size e
 | xd fs=>obtain ⟨_,⟨_,_,_,e,_⟩,_⟩:=x; exact Heap.lt_size e
 | rng lo hi=>obtain ⟨_,_,_,e⟩:=x; exact Heap.lt_size e
 | frz ob u=>obtain ⟨e,_⟩:=x; exact Heap.lt_size e
 | tbl ps=>exact Heap.lt_size (show h.get? a=some _ from x)
 | met f y=>exact Heap.lt_size (show h.get? a=some _ from x)
 | ext φ=>obtain ⟨_,⟨_,e⟩,_⟩:=x; exact Heap.lt_size e
theorem Paired.mapP {α β:Type} {F G:α→β→Prop}:∀ {l₁:List α} {l₂:List β},Paired F l₁ l₂→(∀ a b,F a b→G a b)→Paired G l₁ l₂
 | _,_,.nil,_=>.nil
 | _,_,.cons r t,f=>.cons (f _ _ r) (Paired.mapP t f)
theorem ObjOk.stay (x:ObjOk P w H h a o) (k:∀ b u,(b=a∨H b=some (.own a))→h.get? b=some u→h'.get? b=some u)
  (ho:∀ b,H b=some (.own a)→H' b=some (.own a)) (ht:∀ b xs,H b=some (.tup xs)→H' b=some (.tup xs)):ObjOk P w H' h' a o:=by
 induction o with
 | lst xs=>obtain ⟨z,its,n,r,e⟩:=x; exact ⟨z,its,n,r,k _ _ (.inl rfl) e⟩
 | tup xs=>obtain ⟨z,its,r,ob,e,c⟩:=x; exact ⟨z,its,r,ob,k _ _ (.inl rfl) e,c⟩
 | dK kvs=>obtain ⟨z,y,vs,r,ob,es,ep,e,c⟩:=x; exact ⟨z,y,vs,r,ob,es,ep,k _ _ (.inl rfl) e,c⟩
 | dT kvs =>
  obtain ⟨z,y,xs,r,ob,es,ep,e,c⟩:=x;exact ⟨z,y,xs,Paired.mapP r fun p q z=>⟨z.1,ht _ _ z.2.1,z.2.2⟩,ob,es,ep,k _ _ (.inl rfl) e,c⟩
 | set S n=>obtain ⟨ob,es,ep,t,e,c⟩:=x; exact ⟨ob,es,ep,t,k _ _ (.inl rfl) e,c⟩
 | ins C dx fs =>
  obtain ⟨d,z,ne,e,mA,⟨od,es,ep,e2,c⟩,r⟩:=x;exact ⟨ho _ d,z,ne,k _ _ (.inl rfl) e,mA,⟨od,es,ep,k _ _ (.inr d) e2,c⟩,r⟩
 | own y=>obtain ⟨ob,e⟩:=x; exact ⟨ob,k _ _ (.inl rfl) e⟩
 | xd fs=>obtain ⟨mA,⟨od,es,ep,e,c⟩,r⟩:=x; exact ⟨mA,⟨od,es,ep,k _ _ (.inl rfl) e,c⟩,r⟩
 | rng lo hi=>obtain ⟨t,u,v,e⟩:=x; exact ⟨t,u,v,k _ _ (.inl rfl) e⟩
 | frz ob u ih=>obtain ⟨e,q⟩:=x; exact ⟨k _ _ (.inl rfl) e,ih q⟩
 | tbl ps =>
  have e:h.get? a=some { cls:=.none,data:=.fields ps }:=x;show h'.get? a=some { cls:=.none,data:=.fields ps };exact k a _ (.inl rfl) e
 | met f y =>
  have e:h.get? a=some (PySem.W.methodObj (.ref f) (.ref y)):=x;show h'.get? a=some (PySem.W.methodObj (.ref f) (.ref y));exact k a _ (.inl rfl) e
 | ext φ=>obtain ⟨p,⟨o,e⟩,st⟩:=x; exact ⟨st _ _ p fun o q=>k _ _ (.inl rfl) q,⟨o,k _ _ (.inl rfl) e⟩,st⟩
theorem HOk.lt (x:HOk P w H h) (e:H a=some o):a<h.objs.size:=(x a o e).lt
theorem HOk.fresh (x:HOk P w H h) (e:h.objs.size≤a):H a=none:=by
 cases q:H a with
 | none=>rfl
 | some u=>exact absurd (An (x.lt q) e) (Nat.lt_irrefl _)
theorem HOk.kept (x:HOk P w H h) (k:∀ b u,h.get? b=some u→h'.get? b=some u):HOk P w H h':=fun a o e =>
 (x a o e).stay (fun b u _ q=>k b u q) (fun _ q=>q) fun _ _ q=>q
theorem HOk.laid (x:HOk P w H h) (k:∀ b u,h.get? b=some u→h'.get? b=some u) (hp:h.objs.size≤a) (new:ObjOk P w (upd H a o) h' a o):HOk P w (upd H a o) h':=fun b u e=>by
 have hn:=x.fresh hp
 by_cases hb:b=a
 ·subst hb; rw [qj] at e; cases e; exact new
 ·rw [zZ hb] at e
  exact (x b u e).stay (fun c v _ q=>k c v q) (fun c q=>by rw [zZ (qV q hn)]; exact q) fun c xs q=>by rw [zZ (qV q hn)]; exact q
end
def Rd (H:Hp) (a:Addr) (u:HO):Prop:=H a=some u∨∃ o,H a=some (.frz o u)
theorem Rd.ok {P:Program} {w:World} {H:Hp} {h:Heap} {a:Addr} {u:HO} (r:Rd H a u) (x:HOk P w H h):ObjOk P w H h a u:=by
 rcases r with r | ⟨o,r⟩
 ·exact x a u r
 ·obtain ⟨_,q⟩:=x a _ r
  exact q
def Mut:Option HO→Prop
 | some (.lst _)=>True
 | some (.dK _)=>True
 | some (.dT _)=>True
 | some (.set _ _)=>True
 | some (.ins _ _ _)=>True
 | some (.ext _)=>True
 | _=>False
section
variable {P:Program} {w:World} {H:Hp} {h h':Heap} {x e:Addr} {o':HO}
theorem HOk.write (ok:HOk P w H h) (mu:Mut (H x)) (he:e=x∨H e=some (.own x)) (k:∀ b u,b≠e→h.get? b=some u→h'.get? b=some u) (heo:∃ u,h'.get? e=some u)
  (new:ObjOk P w (upd H x o') h' x o'):HOk P w (upd H x o') h':=fun b u q=>by
 have nown:∀ c y,H c=some (.own y)→c≠x:=fun c y r z=>by subst z; rw [r] at mu; exact mu
 have ntup:∀ c xs,H c=some (.tup xs)→c≠x:=fun c xs r z=>by subst z; rw [r] at mu; exact mu
 by_cases hb:b=x
 ·subst hb; rw [qj] at q; cases q; exact new
 ·rw [zZ hb] at q
  by_cases hbe:b=e
  ·have q':H b=some (.own x):=by
    rcases he with z | z
    ·exact absurd (hbe.trans z) hb
    ·rw [hbe]; exact z
   rw [q] at q'; cases q';obtain ⟨v,hv⟩:=heo;exact ⟨v,by rw [hbe]; exact hv⟩
  ·refine (ok b u q).stay (fun c v hc r=>k c v ?_ r) (fun c r=>by rw [zZ (nown c b r)]; exact r) fun c xs r=>by rw [zZ (ntup c xs r)]; exact r
   rcases hc with rfl | hc
   ·exact hbe
   ·rintro rfl
    rcases he with z | z
    ·exact nown c b hc z
    ·rw [hc] at z; cases z; exact hb rfl
end
structure Un (fs ex:List Addr) (H H':Hp) (h h':Heap):Prop where
 keep:∀ b o,h.get? b=some o→H b=none→b∉fs→b∉ex→h'.get? b=some o
 slot:∀ b o,h.get? b=some o→H b=none→b∈fs→b∉ex→∃ sl,h'.get? b=some { o with slots:=sl }
 free:∀ b o,h.get? b=some o→H b=none→b∉ex→H' b=none
 there:∀ b o,h.get? b=some o→b∉ex→∃ o',h'.get? b=some o'
 tups:∀ b xs,H b=some (.tup xs)→H' b=some (.tup xs)
 frzs:∀ b o u,H b=some (.frz o u)→H' b=some (.frz o u)
 tbls:∀ b ps,H b=some (.tbl ps)→∃ more,H' b=some (.tbl (ps++more))
section
variable {fs fs' ex ex':List Addr} {H H1 H2:Hp} {h h1 h2 h':Heap} {a x e:Addr} {o:HO}
theorem Un.any (u:Un fs ex H H1 h h1) {b:Addr} {ob:Obj} (q:h.get? b=some ob) (n:H b=none) (hx:b∉ex):∃ sl,h1.get? b=some { ob with slots:=sl }:=by
 by_cases hb:b∈fs
 ·exact u.slot b ob q n hb hx
 ·exact ⟨ob.slots,u.keep b ob q n hb hx⟩
theorem Un.kept (k:∀ b u,h.get? b=some u→h'.get? b=some u):Un fs ex H H h h' :=
 ⟨fun b ob q _ _ _=>k b ob q,fun b ob q _ _ _=>⟨ob.slots,k b ob q⟩,fun _ _ _ n _=>n,fun b ob q _=>⟨ob,k b ob q⟩,fun _ _ q=>q,fun _ _ _ q=>q,fun _ ps q=>⟨#[],by rw [q]; simp⟩⟩
theorem Un.refl:Un fs ex H H h h:=Un.kept fun _ _ q=>q
theorem Un.laid (k:∀ b u,h.get? b=some u→h'.get? b=some u) (hp:h.objs.size≤a) (hn:H a=none):Un fs ex H (upd H a o) h h' where
 keep:=fun b u q _ _ _=>k b u q
 slot:=fun b u q _ _ _=>⟨u.slots,k b u q⟩
 free:=fun b u q n _=>by rw [zZ (Nat.ne_of_lt (An (Heap.lt_size q) hp))]; exact n
 there:=fun b u q _=>⟨u,k b u q⟩
 tups:=fun b xs q=>by rw [zZ (qV q hn)]; exact q
 frzs:=fun b u xs q=>by rw [zZ (qV q hn)]; exact q
 tbls:=fun b ps q=>⟨#[],by rw [zZ (qV q hn),q]; simp⟩
theorem Un.write (mu:Mut (H x)) (he:e=x∨H e=some (.own x)) (k:∀ b u,b≠e→h.get? b=some u→h'.get? b=some u) (heo:∃ u,h'.get? e=some u):Un fs ex H (upd H x o) h h':=by
 have hx:∀ b,H b=none→b≠x:=fun b n z=>by subst z; rw [n] at mu; exact mu
 have hb:∀ b,H b=none→b≠e:=fun b n z=>by
  subst z
  rcases he with r | r
  ·exact hx b n r
  ·rw [n] at r; cases r
 have hm:∀ b u,H b=some u→¬ Mut (some u)→b≠x:=fun b u q nm z=>by subst z; rw [q] at mu; exact nm mu
 refine ⟨fun b u q n _ _=>k b u (hb b n) q,fun b u q n _ _=>⟨u.slots,k b u (hb b n) q⟩,fun b u q n _=>by rw [zZ (hx b n)]; exact n,fun b u q _=>?_,fun b xs q=>by rw [zZ (hm b _ q fun z=>z)]; exact q,fun b u xs q=>by rw [zZ (hm b _ q fun z=>z)]; exact q,fun b ps q=>⟨#[],by rw [zZ (hm b _ q fun z=>z),q]; simp⟩⟩
 by_cases hbe:b=e
 ·subst hbe; exact heo
 ·exact ⟨u,k b u hbe q⟩
end
def trk (h:Heap) (H:Hp):List Addr:=(List.range h.objs.size).filter fun a=>(H a).isSome
def hidT (h:Heap) (H:Hp):Heap:=PySem.W.hideAll h (trk h H)
theorem hidT_size (h:Heap) (H:Hp):(hidT h H).objs.size=h.objs.size:=PySem.W.hideAll_size _ _
theorem hidT_get {h:Heap} {H:Hp} {b:Addr} {o:Obj} (e:h.get? b=some o) (n:H b=none):(hidT h H).get? b=some o :=
 PySem.W.hideAll_get _ e fun hm=>by
  have q:(H b).isSome=true:=(List.mem_filter.mp hm).2;rw [n] at q; simp at q
theorem of_hidT {h:Heap} {H:Hp} {b:Addr} {o:Obj} (e:(hidT h H).get? b=some o):h.get? b=some o∧H b=none:=by
 have e':h.get? b=some o:=PySem.W.of_hideAll (trk h H) e;refine ⟨e',?_⟩
 cases q:H b with
 | none=>rfl
 | some x =>
  have hm:b∈trk h H:=List.mem_filter.mpr ⟨List.mem_range.mpr (Heap.lt_size e'),by simp [q]⟩;have z:(hidT h H).get? b=none:=PySem.W.hideAll_none (trk h H) hm;rw [z] at e; cases e
def allNews (g h:Heap) (L:Addr):List (Addr×Obj):=(List.range h.objs.size).filterMap fun a=>if a=L∨(g.get? a).isSome=true then none else (h.get? a).map fun o=>(a,o)
def rest (g h:Heap) (L d:Addr):List (Addr×Obj):=(allNews g h L).filter fun p=>decide (p.1≠d)
end L2
namespace L2
open PySem PySem.Spec PyProof.Rows
structure Mod (K:Bc) (mg:Str→Option Value) (base:Heap):Prop where
 kin:K.In base
 glob:base.Ns mainGlobals mg
 blt:∃ mb,base.Ns builtinsNs mb∧∀ x:Str,x ≠ "__name__" → mb x=bootBuiltins x
 nolimit:base.NoLimit
structure Cx where
 prog:Program
 w:World
 K:Bc
 mg:Str→Option Value
 base:Heap
 A:Around
 N:List Str
 s₀:Shared
 H₀:Hp
 env:Env
 outer:List Env
 stack:List Env
 ex:List Addr
 fn:Str→Bool
 calm:Bool
 pn:List (Addr×Obj)
 xe:Value→Shared→Prop
def frs (l:List Env):List Addr:=l.filterMap (·.frame)
abbrev Cx.fs (X:Cx):List Addr:=frs X.outer
def Vis (sc:Scope) (x:Str):Prop:=sc.names.lookup x=some .local∨sc.names.lookup x=some .cell∨sc.names.lookup x=some .free
def Loc (sc:Scope) (x:Str):Prop:=sc.names.lookup x=some .local∨sc.names.lookup x=some .cell
def Look (env:Env) (h:Heap) (m:Str→Option Value) (x:Str) (u:Value):Prop :=
 (env.kindOf x=some .local∧m x=some u)∨((env.kindOf x=some .cell∨env.kindOf x=some .free)∧∃ c,env.cells.lookup x=some c∧h.IsCell c (some u))
structure Cx.Ok (X:Cx):Prop where
 mod:Mod X.K X.mg X.base
 kind:X.env.scope.kind=.function
 glob:X.env.globals=mainGlobals
 blt:X.env.builtins=builtinsNs
 above:X.s₀.heap.objs.size≤X.env.locals
 inj:∀ x y c,X.env.cells.lookup x=some c→X.env.cells.lookup y=some c→x=y
 has:∀ x,(X.env.kindOf x=some .cell∨X.env.kindOf x=some .free)→∃ c,X.env.cells.lookup x=some c
 cab:∀ x c,X.fn x=true→X.env.cells.lookup x=some c→X.s₀.heap.objs.size≤c
 hd:X.calm=true→X.A.handled=none
 frames:X.A.frames=some X.stack
 stk:X.stack=X.outer∨(X.stack=X.env::X.outer∧X.env.frame=some X.env.locals)
 exf:∀ b∈X.ex,b≠X.env.locals∧∀ x c,X.env.cells.lookup x=some c→c≠b
 bs:∀ b o,X.base.get? b=some o→X.s₀.heap.get? b=some o∧X.H₀ b=none
 bsz:X.base.objs.size≤X.s₀.heap.objs.size
 noex:∀ b o,X.base.get? b=some o→b∉X.ex
 exfs:∀ b∈X.ex,b∉X.fs
 funs:X.s₀.heap.FunFrames X.base X.outer
 frf:∀ b∈X.fs,X.H₀ b=none
structure Inv (X:Cx) (pins:List (Addr×Obj)) (σ:List (Option V)) (H:Hp) (s:Shared):Prop where
 ok:X.Ok
 os:s.os=X.s₀.os
 bare:AllBare s.gens
 base:Un X.fs X.ex X.H₀ H X.s₀.heap s.heap
 loc:∃ m,s.heap.Ns X.env.locals m∧∀ (i:Nat) (x:Str) (v:V),X.N[i]?=some x→σ[i]?=some (some v)→Vis X.env.scope x→∃ u,RelV v u∧Look X.env s.heap m x u
 cell:∀ x c,X.env.cells.lookup x=some c→∃ v,s.heap.IsCell c v
 free:H X.env.locals=none
 freeC:∀ x c,X.env.cells.lookup x=some c→H c=none
 pin:∀ p∈X.pn++pins,s.heap.get? p.1=some p.2∧H p.1=none∧p.1≠X.env.locals∧p.1∉X.fs∧∀ v,p.2.data≠.cell v
 hok:HOk X.prog X.w H s.heap
 len:σ.length=X.N.length
section
variable {X:Cx} {pins:List (Addr×Obj)} {σ:List (Option V)} {H H':Hp} {s:Shared} {h':Heap}
theorem Cx.Ok.nofr (ok:X.Ok) {b:Addr} {o:Obj} (e:X.base.get? b=some o):b∉X.fs:=fun hb=>by
 have:=(ok.funs.mem hb).1;rw [e] at this; cases this
theorem Inv.bs (I:Inv X pins σ H s):∀ b o,X.base.get? b=some o→s.heap.get? b=some o∧H b=none:=fun b o e =>
 ⟨I.base.keep b o (I.ok.bs b o e).1 (I.ok.bs b o e).2 (I.ok.nofr e) (I.ok.noex b o e),I.base.free b o (I.ok.bs b o e).1 (I.ok.bs b o e).2 (I.ok.noex b o e)⟩
theorem Inv.bk (I:Inv X pins σ H s):∀ b o,X.base.get? b=some o→s.heap.get? b=some o:=fun b o e=>(I.bs b o e).1
theorem Inv.mod (I:Inv X pins σ H s):Mod X.K X.mg X.base:=I.ok.mod
theorem Inv.kIn (I:Inv X pins σ H s):X.K.In s.heap:=I.ok.mod.kin.keeps I.bk
theorem Inv.nolimit (I:Inv X pins σ H s):s.heap.NoLimit:=I.ok.mod.nolimit.keeps I.bk
theorem Inv.lt (I:Inv X pins σ H s):X.env.locals<s.heap.objs.size:=let ⟨_,hn,_⟩:=I.loc; hn.lt
theorem Inv.sz (I:Inv X pins σ H s):X.s₀.heap.objs.size≤s.heap.objs.size:=Ba I.ok.above (Nat.le_of_lt I.lt)
theorem Inv.nofs (I:Inv X pins σ H s) {a:Addr} (h:s.heap.objs.size≤a):a∉X.fs:=fun hb=>by
 obtain ⟨_,o,ho,_⟩:=I.ok.funs.mem hb;exact absurd (An (Heap.lt_size ho) (Ba I.sz h)) (Nat.lt_irrefl _)
theorem Inv.cne (I:Inv X pins σ H s):∀ x c,X.env.cells.lookup x=some c→c≠X.env.locals:=fun x c e z=>by
 obtain ⟨v,o,ho,hd⟩:=I.cell x c e;obtain ⟨m,⟨o',es,ep,ho',hd',_⟩,_⟩:=I.loc;rw [z,ho'] at ho; cases ho; rw [hd'] at hd; cases hd
theorem Inv.funs (I:Inv X pins σ H s):s.heap.FunFrames X.base X.outer:=by
 have all:∀ (l:List Env),(∀ b∈frs l,b∈X.fs)→X.s₀.heap.FunFrames X.base l→s.heap.FunFrames X.base l:=by
  intro l
  induction l with
  | nil=>intro _ _; trivial
  | cons env r ih =>
   intro hs hl;obtain ⟨hk,⟨L,o,hf,hn,ho,hd⟩,hr⟩:=hl;have hL:L∈X.fs:=hs L (by unfold frs; rw [List.filterMap_cons,hf]; exact Am);obtain ⟨sl,e⟩:=I.base.slot L o ho (I.ok.frf L hL) hL fun z=>I.ok.exfs L z hL
   exact ⟨hk,⟨L,_,hf,hn,e,hd⟩,ih (fun b hb=>hs b (by unfold frs; rw [List.filterMap_cons,hf]; exact List.mem_cons_of_mem _ hb)) hr⟩
 exact all X.outer (fun _ hb=>hb) I.ok.funs
theorem Inv.stack (I:Inv X pins σ H s):s.heap.FunFrames X.base X.stack:=by
 rcases I.ok.stk with e | ⟨e,hf⟩
 ·rw [e]; exact I.funs
 ·rw [e]
  obtain ⟨m,hn,_⟩:=I.loc;refine .cons (by rw [I.ok.kind]; decide) hf hn ?_ I.funs;exact Heap.get?_none_of_le (Ba I.ok.bsz I.ok.above)
theorem Inv.stkSub (I:Inv X pins σ H s):∀ b∈frs X.stack,b∈X.env.locals::X.fs:=fun b hb=>by
 rcases I.ok.stk with e | ⟨e,hf⟩
 ·rw [e] at hb; exact List.mem_cons_of_mem _ hb
 ·rw [e] at hb
  unfold frs at hb;rw [List.filterMap_cons,hf] at hb;exact hb
theorem Inv.stkFree (I:Inv X pins σ H s):∀ b∈frs X.stack,H b=none:=fun b hb=>by
 rcases List.mem_cons.mp (I.stkSub b hb) with e | hb
 ·rw [e]; exact I.free
 ·obtain ⟨_,o,ho,_⟩:=I.ok.funs.mem hb
  exact I.base.free b o ho (I.ok.frf b hb) fun z=>I.ok.exfs b z hb
theorem Inv.step {g':Array GenState} {t':Nat} {d':Drawn} {ch:List Addr} (I:Inv X pins σ H s)
  (hch:∀ b∈ch,(b∈X.ex∨X.s₀.heap.objs.size≤b)∧b≠X.env.locals∧(∀ x c,X.env.cells.lookup x=some c→c≠b)∧∀ p∈X.pn++pins,p.1≠b)
  (keep:∀ b o,b≠X.env.locals→b∉X.fs→b∉ch→s.heap.get? b=some o→H b=none→h'.get? b=some o)
  (slot:∀ b o,b≠X.env.locals→b∈X.fs→b∉ch→s.heap.get? b=some o→H b=none→∃ sl,h'.get? b=some { o with slots:=sl }) (free:∀ b o,b∉ch→s.heap.get? b=some o→H b=none→H' b=none)
  (there:∀ b o,b∉ch→s.heap.get? b=some o→∃ o',h'.get? b=some o')
  (tups:∀ b xs,H b=some (.tup xs)→H' b=some (.tup xs)) (frzs:∀ b o u,H b=some (.frz o u)→H' b=some (.frz o u)) (tbls:∀ b ps,H b=some (.tbl ps)→∃ more,H' b=some (.tbl (ps++more)))
  (ns:∀ m,s.heap.Ns X.env.locals m→h'.Ns X.env.locals m) (hok:HOk X.prog X.w H' h') (hg:AllBare g') :
  Inv X pins σ H' { s with heap:=h',gens:=g',drawn:=d',toks:=t' }:=by
 have neL:∀ b o,X.s₀.heap.get? b=some o→b≠X.env.locals:=fun b o e=>Nat.ne_of_lt (An (Heap.lt_size e) I.ok.above)
 have neC:∀ b o,X.s₀.heap.get? b=some o→b∉X.ex→b∉ch:=fun b o e hx hb=>by
  rcases (hch b hb).1 with z | z
  ·exact hx z
  ·exact absurd (An (Heap.lt_size e) z) (Nat.lt_irrefl _)
 have cellK:∀ x c,X.env.cells.lookup x=some c→∀ v,s.heap.IsCell c v→h'.IsCell c v:=fun x c e v ⟨o,ho,hd⟩=>by
  have nch:c∉ch:=fun z=>(hch c z).2.2.1 x c e rfl
  by_cases hc:c∈X.fs
  ·obtain ⟨sl,q⟩:=slot c o (I.cne x c e) hc nch ho (I.freeC x c e)
   exact ⟨_,q,hd⟩
  ·exact ⟨o,keep c o (I.cne x c e) hc nch ho (I.freeC x c e),hd⟩
 refine ⟨I.ok,I.os,hg,⟨fun b o e n hb hx=>?_,fun b o e n hb hx=>?_,fun b o e n hx=>?_,fun b o e hx=>?_,fun b xs e=>tups b xs (I.base.tups b xs e),fun b o xs e=>frzs b o xs (I.base.frzs b o xs e),fun b ps e=>?_⟩,?_,fun x c e=>?_,?_,fun x c e=>?_,fun p hp=>?_,hok,I.len⟩
 ·exact keep b o (neL b o e) hb (neC b o e hx) (I.base.keep b o e n hb hx) (I.base.free b o e n hx)
 ·obtain ⟨sl,e1⟩:=I.base.slot b o e n hb hx
  obtain ⟨sl',e2⟩:=slot b _ (neL b o e) hb (neC b o e hx) e1 (I.base.free b o e n hx);exact ⟨sl',e2⟩
 ·obtain ⟨o',e1⟩:=I.base.there b o e hx
  exact free b o' (neC b o e hx) e1 (I.base.free b o e n hx)
 ·obtain ⟨o',e1⟩:=I.base.there b o e hx
  exact there b o' (neC b o e hx) e1
 ·obtain ⟨m1,e1⟩:=I.base.tbls b ps e
  obtain ⟨m2,e2⟩:=tbls b _ e1;exact ⟨m1++m2,by rw [e2,Array.append_assoc]⟩
 ·obtain ⟨m,hn,hl⟩:=I.loc
  refine ⟨m,ns m hn,fun i x v e1 e2 e3=>?_⟩;obtain ⟨u,r,l⟩:=hl i x v e1 e2 e3;refine ⟨u,r,?_⟩
  rcases l with l | ⟨k,c,e,z⟩
  ·exact .inl l
  ·exact .inr ⟨k,c,e,cellK x c e _ z⟩
 ·obtain ⟨v,z⟩:=I.cell x c e
  exact ⟨v,cellK x c e v z⟩
 ·obtain ⟨m,⟨o,_,_,ho,_⟩,_⟩:=I.loc
  exact free _ o (fun z=>(hch _ z).2.1 rfl) ho I.free
 ·obtain ⟨v,o,ho,hd⟩:=I.cell x c e
  exact free c o (fun z=>(hch c z).2.2.1 x c e rfl) ho (I.freeC x c e)
 ·obtain ⟨e,n,ne,nf,d⟩:=I.pin p hp
  have nch:p.1∉ch:=fun z=>(hch p.1 z).2.2.2 p hp rfl
  exact ⟨keep p.1 p.2 ne nf nch e n,free p.1 p.2 nch e n,ne,nf,d⟩
theorem Inv.un {t':Nat} (I:Inv X pins σ H s) (u:Un X.fs [] H H' s.heap h') (hok:HOk X.prog X.w H' h'):Inv X pins σ H' { s with heap:=h',toks:=t' }:=by
 obtain ⟨m,⟨o,es,ep,ho,r⟩,_⟩:=id I.loc;obtain ⟨sl,hL⟩:=u.any ho I.free (by simp);exact I.step (g':=s.gens) (d':=s.drawn) (ch:=[]) (fun _ z=>nomatch z) (fun b o _ hb _ e n=>u.keep b o e n hb (by simp)) (fun b o _ hb _ e n=>u.slot b o e n hb (by simp)) (fun b o _ e n=>u.free b o e n (by simp)) (fun b o _ e=>u.there b o e (by simp)) u.tups u.frzs u.tbls (fun m' hm=>by
  obtain ⟨o',es',ep',ho',r'⟩:=hm;rw [ho] at ho'; cases ho';exact ⟨_,es',ep',hL,r'⟩) hok I.bare
theorem Inv.call {g':Array GenState} {t':Nat} {d':Drawn} {ch:List Addr} (I:Inv X pins σ H s) (u:Un (frs X.stack) ch H H' s.heap h') (hok:HOk X.prog X.w H' h') (hg:AllBare g')
  (hch:∀ b∈ch,(b∈X.ex∨X.s₀.heap.objs.size≤b)∧b≠X.env.locals∧(∀ x c,X.env.cells.lookup x=some c→c≠b)∧∀ p∈X.pn++pins,p.1≠b) :
  Inv X pins σ H' { s with heap:=h',gens:=g',drawn:=d',toks:=t' }:=by
 obtain ⟨m,⟨o,es,ep,ho,r⟩,_⟩:=id I.loc;obtain ⟨sl,hL⟩:=u.any ho I.free fun z=>(hch _ z).2.1 rfl
 exact I.step (ch:=ch) hch (fun b o hL hb hc e n=>u.keep b o e n (fun z=>(List.mem_cons.mp (I.stkSub b z)).elim hL hb) hc) (fun b o _ _ hc e n=>u.any e n hc) (fun b o hc e n=>u.free b o e n hc) (fun b o hc e=>u.there b o e hc) u.tups u.frzs u.tbls (fun m' hm=>by
  obtain ⟨o',es',ep',ho',r'⟩:=hm;rw [ho] at ho'; cases ho';exact ⟨_,es',ep',hL,r'⟩) hok hg
theorem Inv.turned {t':Nat} {it:Addr} (I:Inv X pins σ H s) (k:∀ b o,b≠it→s.heap.get? b=some o→h'.get? b=some o) (hn:H it=none) (hL:it≠X.env.locals)
  (h1:it∈X.ex∨X.s₀.heap.objs.size≤it) (h2:∀ x c,X.env.cells.lookup x=some c→c≠it) (h3:∀ p∈X.pn++pins,p.1≠it):Inv X pins σ H { s with heap:=h',toks:=t' }:=by
 have nit:∀ b u,H b=some u→b≠it:=fun b u e z=>by rw [z,hn] at e; cases e
 refine I.step (g':=s.gens) (d':=s.drawn) (ch:=[it]) (fun b hb=>?_) (fun b o _ _ hc e _=>k b o (fun z=>hc (by simp [z])) e) (fun b o _ _ hc e _=>⟨o.slots,k b o (fun z=>hc (by simp [z])) e⟩) (fun _ _ _ _ n=>n)
  (fun b o hc e=>⟨o,k b o (fun z=>hc (by simp [z])) e⟩) (fun _ _ e=>e) (fun _ _ _ e=>e) (fun b ps e=>⟨#[],by rw [e]; simp⟩) (fun m hm=>?_) (fun b u e=>?_) I.bare
 ·have e:b=it:=by simpa using hb
  subst e;exact ⟨h1,hL,h2,h3⟩
 ·obtain ⟨o,es,ep,ho,r⟩:=hm
  exact ⟨o,es,ep,k _ o (Ne.symm hL) ho,r⟩
 ·refine (I.hok b u e).stay (fun c v hc q=>k c v ?_ q) (fun _ q=>q) fun _ _ q=>q
  rcases hc with z | z
  ·rw [z]; exact nit b u e
  ·exact nit c _ z
theorem Inv.tok (I:Inv X pins σ H s) (t:Nat):Inv X pins σ H { s with toks:=t }:=I.un (h':=s.heap) (t':=t) Un.refl I.hok
theorem Inv.kept {t':Nat} (I:Inv X pins σ H s) (k:∀ b u,s.heap.get? b=some u→h'.get? b=some u):Inv X pins σ H { s with heap:=h',toks:=t' }:=I.un (Un.kept k) (I.hok.kept k)
theorem Inv.laid {a:Addr} {o:HO} {t':Nat} (I:Inv X pins σ H s) (k:∀ b u,s.heap.get? b=some u→h'.get? b=some u) (hp:s.heap.objs.size≤a) (new:ObjOk X.prog X.w (upd H a o) h' a o) :
  Inv X pins σ (upd H a o) { s with heap:=h',toks:=t' }:=I.un (Un.laid k hp (I.hok.fresh hp)) (I.hok.laid k hp new)
theorem Inv.write {x e:Addr} {o:HO} {t':Nat} (I:Inv X pins σ H s) (mu:Mut (H x)) (he:e=x∨H e=some (.own x)) (k:∀ b u,b≠e→s.heap.get? b=some u→h'.get? b=some u) (heo:∃ u,h'.get? e=some u)
  (new:ObjOk X.prog X.w (upd H x o) h' x o):Inv X pins σ (upd H x o) { s with heap:=h',toks:=t' }:=I.un (Un.write mu he k heo) (I.hok.write mu he k heo new)
theorem Inv.weak {σ':List (Option V)} (I:Inv X pins σ H s) (hl:σ'.length=σ.length) (w:∀ (i:Nat) v,σ'[i]?=some (some v)→σ[i]?=some (some v)):Inv X pins σ' H s :=
 ⟨I.ok,I.os,I.bare,I.base,let ⟨m,hn,hl'⟩:=I.loc; ⟨m,hn,fun i x v e1 e2 e3=>hl' i x v e1 (w i v e2) e3⟩,I.cell,I.free,I.freeC,I.pin,I.hok,hl.trans I.len⟩
theorem Inv.pins_of {pins':List (Addr×Obj)} (I:Inv X pins σ H s) (h:∀ p∈pins',s.heap.get? p.1=some p.2∧H p.1=none∧p.1≠X.env.locals∧p.1∉X.fs∧∀ v,p.2.data≠.cell v):Inv X pins' σ H s :=
 ⟨I.ok,I.os,I.bare,I.base,I.loc,I.cell,I.free,I.freeC,fun p hp=>(Aw.mp hp).elim (fun z=>I.pin p (Ah _ z)) (h p),I.hok,I.len⟩
theorem nodup_ix {N:List Str} (hN:N.Nodup) {i j:Nat} {x:Str} (a:N[i]?=some x) (b:N[j]?=some x):i=j:=by
 obtain ⟨h1,e1⟩:=A3.mp a;obtain ⟨h2,e2⟩:=A3.mp b;exact (List.getElem_inj hN).mp (e1.trans e2.symm)
theorem store_ok2 {M:Model} {A:Around} {E:Value→Shared→Prop} {i:Nat} {x:Str} {v:V} {u:Value} {Q:Unit→Shared→Prop} (I:Inv X pins σ H s) (hN:X.N.Nodup) (hi:X.N[i]?=some x) (hx:Loc X.env.scope x) (r:RelV v u)
  (h:∀ s',Inv X pins (σ.set i (some v)) H s'→(∃ a,Heap.SameBut a s.heap s'.heap∧(a=X.env.locals∨X.env.cells.lookup x=some a))→Q () s') (hf:X.fn x=true∨X.env.scope.names.lookup x=some .local:=by first | exact .inl rfl | exact .inr rfl | assumption):wpAny M A (storeName X.env x u) Q E s:=by
 obtain ⟨m,hn,hl⟩:=id I.loc;have hcls:(X.env.scope.kind==.class||(X.env.scope.kind==.module&&X.env.locals != X.env.globals))=false:=by rw [I.ok.kind]; rfl
 have hiσ:i<σ.length:=by rw [I.len]; exact (A3.mp hi).1
 have cne:=I.cne;have tracked:∀ {a:Addr} {h':Heap},(∃ o,s.heap.get? a=some o∧H a=none)→Heap.SameBut a s.heap h'→HOk X.prog X.w H h':=fun {a h'} ha hs b ob e=>by
  obtain ⟨_,_,hfree⟩:=ha;refine (I.hok b ob e).stay (fun c w' hc q=>(hs.2 c ?_).trans q) (fun _ q=>q) fun _ _ q=>q
  rintro rfl
  rcases hc with rfl | hc
  ·rw [hfree] at e; cases e
  ·rw [hfree] at hc; cases hc
 rcases hx with hk | hk
 ·refine wpAny_storeName_local hk hn (fun h' hn' hs=>?_) hcls
  obtain ⟨oL,_,_,hoL,_⟩:=id hn;refine h _ ⟨I.ok,I.os,I.bare,⟨fun b o e n hb hx=>?_,fun b o e n hb hx=>?_,I.base.free,fun b o e hx=>?_,I.base.tups,I.base.frzs,I.base.tbls⟩,⟨_,hn',fun j y v' e1 e2 e3=>?_⟩,fun y c e=>?_,I.free,I.freeC,fun p hp=>?_,tracked ⟨oL,hoL,I.free⟩ hs,by simpa using I.len⟩ ⟨_,hs,.inl rfl⟩
  ·exact (hs.2 b (Nat.ne_of_lt (An (Heap.lt_size e) I.ok.above))).trans (I.base.keep b o e n hb hx)
  ·obtain ⟨sl,e1⟩:=I.base.slot b o e n hb hx
   exact ⟨sl,(hs.2 b (Nat.ne_of_lt (An (Heap.lt_size e) I.ok.above))).trans e1⟩
  ·obtain ⟨o',e1⟩:=I.base.there b o e hx
   exact ⟨o',(hs.2 b (Nat.ne_of_lt (An (Heap.lt_size e) I.ok.above))).trans e1⟩
  ·by_cases hj:j=i
   ·subst hj
    rw [hi] at e1; cases e1;rw [Aa hiσ] at e2
    cases e2
    exact ⟨u,r,.inl ⟨hk,by simp⟩⟩
   ·rw [Aj (Ne.symm hj)] at e2
    obtain ⟨u',r',q⟩:=hl j y v' e1 e2 e3;refine ⟨u',r',?_⟩
    rcases q with ⟨k,e⟩ | ⟨k,c,e,z⟩
    ·refine .inl ⟨k,?_⟩
     have:y≠x:=fun e=>hj (nodup_ix hN e1 (e ▸ hi))
     simp [this,e]
    ·exact .inr ⟨k,c,e,z.sameBut hs (cne y c e)⟩
  ·obtain ⟨w',z⟩:=I.cell y c e
   exact ⟨w',z.sameBut hs (cne y c e)⟩
  ·obtain ⟨e,n,ne,nf,d⟩:=I.pin p hp
   exact ⟨(hs.2 p.1 ne).trans e,n,ne,nf,d⟩
 ·have hfn:X.fn x=true:=by
   rcases hf with z | z
   ·exact z
   ·rw [z] at hk; cases hk
  obtain ⟨c,hc⟩:=I.ok.has x (.inl hk);obtain ⟨w',z⟩:=I.cell x c hc;refine wpAny_storeName_cell I.ok.kind hk hc z (fun h' hc' hs=>?_);obtain ⟨oc,hoc,hocd⟩:=id z;refine h { s with heap:=h' } ⟨I.ok,I.os,I.bare,⟨fun b o e n hb hx=>?_,fun b o e n hb hx=>?_,I.base.free,fun b o e hx=>?_,I.base.tups,I.base.frzs,I.base.tbls⟩,⟨m,hn.sameBut hs (Ne.symm (cne x c hc)),fun j y v' e1 e2 e3=>?_⟩,fun y c' e=>?_,I.free,I.freeC,fun p hp=>?_,tracked ⟨oc,hoc,I.freeC x c hc⟩ hs,by simpa using I.len⟩ ⟨c,hs,.inr hc⟩
  ·exact (hs.2 b (Nat.ne_of_lt (An (Heap.lt_size e) (I.ok.cab x c hfn hc)))).trans (I.base.keep b o e n hb hx)
  ·obtain ⟨sl,e1⟩:=I.base.slot b o e n hb hx
   exact ⟨sl,(hs.2 b (Nat.ne_of_lt (An (Heap.lt_size e) (I.ok.cab x c hfn hc)))).trans e1⟩
  ·obtain ⟨o',e1⟩:=I.base.there b o e hx
   exact ⟨o',(hs.2 b (Nat.ne_of_lt (An (Heap.lt_size e) (I.ok.cab x c hfn hc)))).trans e1⟩
  ·by_cases hj:j=i
   ·subst hj
    rw [hi] at e1; cases e1;rw [Aa hiσ] at e2
    cases e2
    exact ⟨u,r,.inr ⟨.inl hk,c,hc,hc'⟩⟩
   ·rw [Aj (Ne.symm hj)] at e2
    obtain ⟨u',r',q⟩:=hl j y v' e1 e2 e3;refine ⟨u',r',?_⟩
    rcases q with q | ⟨k,c',e,z'⟩
    ·exact .inl q
    ·refine .inr ⟨k,c',e,z'.sameBut hs ?_⟩
     rintro rfl;exact hj (nodup_ix hN e1 (I.ok.inj _ _ _ e hc ▸ hi))
  ·by_cases hcc:c'=c
   ·subst hcc; exact ⟨_,hc'⟩
   ·obtain ⟨w2,z2⟩:=I.cell y c' e
    exact ⟨w2,z2.sameBut hs hcc⟩
  ·obtain ⟨e,n,ne,nf,d⟩:=I.pin p hp
   refine ⟨(hs.2 p.1 ?_).trans e,n,ne,nf,d⟩;intro q;rw [q,hoc] at e;have q':oc=p.2:=B0 e;exact d w' (by rw [← q']; exact hocd)
theorem store_ok {M:Model} {A:Around} {E:Value→Shared→Prop} {i:Nat} {x:Str} {v:V} {u:Value} {Q:Unit→Shared→Prop} (I:Inv X pins σ H s) (hN:X.N.Nodup) (hi:X.N[i]?=some x) (hx:Loc X.env.scope x) (r:RelV v u)
  (h:∀ s',Inv X pins (σ.set i (some v)) H s'→Q () s') (hf:X.fn x=true∨X.env.scope.names.lookup x=some .local:=by first | exact .inl rfl | exact .inr rfl | assumption):wpAny M A (storeName X.env x u) Q E s :=
 store_ok2 I hN hi hx r (fun s' I' _=>h s' I') hf
theorem Inv.call' {s':Shared} {ch:List Addr} (I:Inv X pins σ H s) (ho:s'.os=s.os) (u:Un (frs X.stack) ch H H' s.heap s'.heap) (hok:HOk X.prog X.w H' s'.heap) (hg:AllBare s'.gens)
  (hch:∀ b∈ch,(b∈X.ex∨X.s₀.heap.objs.size≤b)∧b≠X.env.locals∧(∀ x c,X.env.cells.lookup x=some c→c≠b)∧∀ p∈X.pn++pins,p.1≠b):Inv X pins σ H' s':=by
 obtain ⟨h',g',d',t',o'⟩:=s';have e:o'=s.os:=ho;subst e;exact I.call (g':=g') (t':=t') (d':=d') u hok hg hch
end
abbrev XK:=Value→Option Addr→Hp→Prop
abbrev St:=List (Option V)
abbrev VK:=V→Hp→Prop
abbrev TE:=St→Hp→VK→Prop
abbrev TT:=St→Hp→(Bool→Hp→Prop)→Prop
abbrev TA:=St→Hp→(List V→Hp→Prop)→Prop
structure Ends where
 nx:St→Hp→Prop
 rt:VK
 bk:St→Hp→Prop:=fun _ _=>False
 ct:St→Hp→Prop:=fun _ _=>False
abbrev TS:=Ends→St→Hp→Prop
def EP (X:Cx) (pins:List (Addr×Obj)) (σ:St) (Q:VK) (u:Value) (s':Shared):Prop:=∃ v H',Inv X pins σ H' s'∧RelV v u∧Q v H'
def TP (X:Cx) (pins:List (Addr×Obj)) (σ:St) (Q:Bool→Hp→Prop) (b:Bool) (s':Shared):Prop:=∃ H',Inv X pins σ H' s'∧Q b H'
def AP (X:Cx) (pins:List (Addr×Obj)) (σ:St) (Q:List V→Hp→Prop) (us:List Value) (s':Shared):Prop:=∃ vs H',Inv X pins σ H' s'∧Vals vs us∧Q vs H'
def SP (X:Cx) (pins:List (Addr×Obj)) (D:Ends) (f:Flow) (s':Shared):Prop :=
 match f with
 | .next=>∃ σ' H',Inv X pins σ' H' s'∧D.nx σ' H'
 | .brk=>∃ σ' H',Inv X pins σ' H' s'∧D.bk σ' H'
 | .cont=>∃ σ' H',Inv X pins σ' H' s'∧D.ct σ' H'
 | .ret u=>∃ v σ' H',Inv X pins σ' H' s'∧RelV v u∧D.rt v H'
def PE (X:Cx) (e:Expr) (t:TE):Prop :=
 ∀ (pins:List (Addr×Obj)) (s:Shared) (σ:St) (H:Hp) (Q:VK),Inv X pins σ H s→t σ H Q→wpAny (model X.prog X.w) X.A (eval e X.env) (EP X pins σ Q) X.xe s
def PT (X:Cx) (e:Expr) (t:TT):Prop :=
 ∀ (pins:List (Addr×Obj)) (s:Shared) (σ:St) (H:Hp) (Q:Bool→Hp→Prop),Inv X pins σ H s→t σ H Q→wpAny (model X.prog X.w) X.A (isTrue e X.env (eval e X.env)) (TP X pins σ Q) X.xe s
def PW (X:Cx) (e:Expr) (t:TT):Prop :=
 ∀ (whole:Sem Value) (pins:List (Addr×Obj)) (s:Shared) (σ:St) (H:Hp) (Q:Bool→Hp→Prop),Inv X pins σ H s→t σ H Q→wpAny (model X.prog X.w) X.A (isTrue e X.env whole) (TP X pins σ Q) X.xe s
theorem PW.pt {X:Cx} {e:Expr} {t:TT} (h:PW X e t):PT X e t:=h _
def PA (X:Cx) (es:List Expr) (t:TA):Prop :=
 ∀ (pos:Pos) (pins:List (Addr×Obj)) (s:Shared) (σ:St) (H:Hp) (Q:List V→Hp→Prop),Inv X pins σ H s→t σ H Q→wpAny (model X.prog X.w) X.A (spliced (backTo pos (starEach es X.env))) (AP X pins σ Q) X.xe s
def PS (X:Cx) (st:Stmt) (t:TS):Prop :=
 ∀ (pins:List (Addr×Obj)) (s:Shared) (σ:St) (H:Hp) (D:Ends),Inv X pins σ H s→t D σ H→wpAny (model X.prog X.w) X.A (exec st X.env) (SP X pins D) X.xe s
def PSs (X:Cx) (st:List Stmt) (t:TS):Prop :=
 ∀ (pins:List (Addr×Obj)) (s:Shared) (σ:St) (H:Hp) (D:Ends),Inv X pins σ H s→t D σ H→wpAny (model X.prog X.w) X.A (execs st X.env) (SP X pins D) X.xe s
theorem thn {α:Type} {t:Sem α} {Q Q':α→Shared→Prop} {M:Model} {A:Around} {E:Value→Shared→Prop} {s:Shared} (h:wpAny M A t Q E s) (hQ:∀ a s,Q a s→Q' a s):wpAny M A t Q' E s:=wpAny_mono h hQ fun _ _ x=>x
end L2
namespace L2
open PySem PySem.Spec PyProof.Rows
section
variable {X:Cx}
def tVar (i:Nat):TE:=fun σ H Q=>∃ v,σ[i]?=some (some v)∧Q v H
def tC (v:V):TE:=fun _ H Q=>Q v H
theorem pe_var {i:Nat} {x:Str} {pos:Pos} (hN:X.N[i]?=some x) (hv:Vis X.env.scope x) (hd:(x==("__debug__" : Str))=false:=by decide) (hcd:(x==("__classdict__" : Str))=false:=by decide):PE X (.Name x pos) (tVar i):=by
 intro pins s σ H Q I h;obtain ⟨v,e,h⟩:=h;obtain ⟨m,hn,hl⟩:=I.loc;obtain ⟨u,r,l⟩:=hl i x v hN e hv;have fin:EP X pins σ Q u s:=⟨v,H,I,r,h⟩
 rcases l with ⟨hk,hm⟩ | ⟨hk,c,hc,hcell⟩
 ·exact wpAny_Name (wpAny_loadName_local I.ok.kind hk hn hm fin) hd
 ·rcases hk with hk | hk
  ·exact wpAny_Name (wpAny_loadName_cell I.ok.kind hk hc hcell fin) hd
  ·exact wpAny_Name (wpAny_loadName_free I.ok.kind hk hc hcell fin hcd) hd
theorem qz {i j pos}:PE X (.Constant (.int i) j pos) (tC (.int i)):=fun _ _ _ H _ I h=>wpAny_Constant_int ⟨.int i,H,I.tok _,⟨_,rfl⟩,h⟩
theorem pe_bl {b j pos}:PE X (.Constant (.bool b) j pos) (tC (.bl b)):=fun _ _ _ H _ I h=>Constant_bool ⟨.bl b,H,I,rfl,h⟩
theorem kY {j pos}:PE X (.Constant .none j pos) (tC .non):=fun _ _ _ H _ I h=>Constant_none ⟨.non,H,I,rfl,h⟩
theorem pe_str {x j pos}:PE X (.Constant (.str x) j pos) (tC (.str x)):=fun _ _ _ H _ I h=>Calls.Constant_str ⟨.str x,H,I.tok _,⟨_,rfl⟩,h⟩
def Gl (X:Cx) (x:Str):Prop:=X.env.kindOf x=some .globalImplicit
theorem ld_glob {E:Value→Shared→Prop} {pins:List (Addr×Obj)} {s:Shared} {σ:St} {H:Hp} {x:Str} {u:Value} {pos:Pos} {Q:Value→Shared→Prop} (I:Inv X pins σ H s) (hg:Gl X x) (hm:X.mg x=some u) (h:Q u s)
  (hd:(x==("__debug__" : Str))=false:=by decide):wpAny (model X.prog X.w) X.A (eval (.Name x pos) X.env) Q E s :=
 Calls.Name_function_global I.ok.kind hg (Calls.loadGlobal_global (by rw [I.ok.glob]; exact I.mod.glob.keeps I.bk) hm h) hd
theorem V2 {E:Value→Shared→Prop} {pins:List (Addr×Obj)} {s:Shared} {σ:St} {H:Hp} {x:Str} {u:Value} {pos:Pos} {Q:Value→Shared→Prop} (I:Inv X pins σ H s) (hg:Gl X x) (hm:X.mg x=none) (hv:bootBuiltins x=some u) (h:Q u s)
  (hn:x ≠ "__name__" := by decide) (hd:(x==("__debug__" : Str))=false:=by decide):wpAny (model X.prog X.w) X.A (eval (.Name x pos) X.env) Q E s:=by
 obtain ⟨mb,h1,h2⟩:=I.mod.blt;exact Calls.Name_function_global I.ok.kind hg (Calls.loadGlobal_builtin (by rw [I.ok.glob]; exact I.mod.glob.keeps I.bk) hm (by rw [I.ok.blt]; exact h1.keeps I.bk) ((h2 x hn).trans hv) h) hd
theorem YJ {x:Str} {v:V} {u:Value} {pos:Pos} (hg:Gl X x) (hm:X.mg x=some u) (r:RelV v u) (hd:(x==("__debug__" : Str))=false:=by decide):PE X (.Name x pos) (tC v) :=
 fun _ _ _ H _ I h=>ld_glob I hg hm ⟨v,H,I,r,h⟩ hd
theorem JQ {x:Str} {v:V} {u:Value} {pos:Pos} (hg:Gl X x) (hm:X.mg x=none) (hv:bootBuiltins x=some u) (r:RelV v u) (hn:x ≠ "__name__" := by decide) (hd:(x==("__debug__" : Str))=false:=by decide):PE X (.Name x pos) (tC v) :=
 fun _ _ _ H _ I h=>V2 I hg hm hv ⟨v,H,I,r,h⟩ hn hd
variable {a b:Expr} {ta tb:TE} {pos:Pos}
def tB (t:TE):TT:=fun σ H Q=>t σ H fun x H1=>∃ c,x=.bl c∧Q c H1
theorem wV {e:Expr} {t:TE} (h:PE X e t) (he:∀ whole,isTrue e X.env whole=(do let v ← whole; standAt e.pos; holding [v] (truthy v)):=by intro _; rfl):PT X e (tB t):=by
 intro pins s σ H Q I hw;refine isTrue_plain (thn (h pins s σ H _ I hw) fun v s1 ⟨x,H1,I1,r1,q1⟩=>?_) (he _);obtain ⟨d,rfl,q⟩:=q1
 cases r1
 exact wpAny_truthy_bool ⟨H1,I1,q⟩
variable {tA tB':TT} {rest:List Expr}
def tAnd (t u:TT):TT:=fun σ H Q=>t σ H fun c H1=>if c=true then u σ H1 Q else Q false H1
def tOr (t u:TT):TT:=fun σ H Q=>t σ H fun c H1=>if c=true then Q true H1 else u σ H1 Q
def tNot (t:TT):TT:=fun σ H Q=>t σ H fun c H1=>Q (!c) H1
theorem pw_and1 (ha:PT X a tA):PW X (.BoolOp .And [a] pos) tA:=by
 intro wh pins s σ H Q I h;refine isTrue_and (thn (ha pins s σ H Q I h) fun c s1 e=>?_)
 cases c with
 | true=>exact isTrue_and_nil e
 | false=>exact e
theorem QV (ha:PT X a tA):PW X (.BoolOp .Or [a] pos) tA:=by
 intro wh pins s σ H Q I h;refine isTrue_or (thn (ha pins s σ H Q I h) fun c s1 e=>?_)
 cases c with
 | false=>exact isTrue_or_nil e
 | true=>exact e
theorem W3 (ha:PT X a tA) (hb:PW X (.BoolOp .And (b::rest) pos) tB'):PW X (.BoolOp .And (a::b::rest) pos) (tAnd tA tB'):=by
 intro wh pins s σ H Q I h;refine isTrue_and (thn (ha pins s σ H _ I h) fun c s1 ⟨H1,I1,q1⟩=>?_)
 cases c with
 | true=>exact hb wh pins s1 σ H1 Q I1 q1
 | false=>exact ⟨H1,I1,q1⟩
theorem pw_or (ha:PT X a tA) (hb:PW X (.BoolOp .Or (b::rest) pos) tB'):PW X (.BoolOp .Or (a::b::rest) pos) (tOr tA tB'):=by
 intro wh pins s σ H Q I h;refine isTrue_or (thn (ha pins s σ H _ I h) fun c s1 ⟨H1,I1,q1⟩=>?_)
 cases c with
 | true=>exact ⟨H1,I1,q1⟩
 | false=>exact hb wh pins s1 σ H1 Q I1 q1
theorem QW (ha:PT X a tA):PT X (.UnaryOp .Not a pos) (tNot tA):=by
 intro pins s σ H Q I h;exact isTrue_not (ha pins s σ H (fun c H1=>Q (!c) H1) I h)
def tAndV (ta tb:TE):TE:=fun σ H Q=>ta σ H fun x H1=>∃ c,x=.bl c∧if c=true then tb σ H1 Q else Q (.bl false) H1
def tOrV (ta tb:TE):TE:=fun σ H Q=>ta σ H fun x H1=>∃ c,x=.bl c∧if c=true then Q (.bl true) H1 else tb σ H1 Q
def tNotV (ta:TE):TE:=fun σ H Q=>ta σ H fun x H1=>∃ c,x=.bl c∧Q (.bl (!c)) H1
theorem pe_one {op} {t:TE} (h:PE X a t):PE X (.BoolOp op [a] pos) t:=fun pins s σ H Q I hw=>BoolOp_one (h pins s σ H Q I hw)
theorem pe_and (ha:PE X a ta) (hb:PE X (.BoolOp .And (b::rest) pos) tb):PE X (.BoolOp .And (a::b::rest) pos) (tAndV ta tb):=by
 intro pins s σ H Q I h;refine BoolOp_and (thn (ha pins s σ H _ I h) fun v s1 ⟨x,H1,I1,r1,q1⟩=>?_);obtain ⟨c,rfl,q1⟩:=q1
 cases r1
 refine wpAny_truthy_bool ?_
 cases c with
 | true=>exact hb pins s1 σ H1 Q I1 q1
 | false=>exact ⟨.bl false,H1,I1,rfl,q1⟩
theorem pe_or (ha:PE X a ta) (hb:PE X (.BoolOp .Or (b::rest) pos) tb):PE X (.BoolOp .Or (a::b::rest) pos) (tOrV ta tb):=by
 intro pins s σ H Q I h;refine BoolOp_or (thn (ha pins s σ H _ I h) fun v s1 ⟨x,H1,I1,r1,q1⟩=>?_);obtain ⟨c,rfl,q1⟩:=q1
 cases r1
 refine wpAny_truthy_bool ?_
 cases c with
 | false=>exact hb pins s1 σ H1 Q I1 q1
 | true=>exact ⟨.bl true,H1,I1,rfl,q1⟩
theorem pe_not (ha:PE X a ta):PE X (.UnaryOp .Not a pos) (tNotV ta):=by
 intro pins s σ H Q I h;refine UnaryOp_ (thn (ha pins s σ H _ I h) fun v s1 ⟨x,H1,I1,r1,q1⟩=>?_);obtain ⟨c,rfl,q1⟩:=q1
 cases r1
 exact not_of (wpAny_truthy_bool ⟨.bl (!c),H1,I1,rfl,q1⟩)
def tIf (t:TT) (ta tb:TE):TE:=fun σ H Q=>t σ H fun c H1=>if c=true then ta σ H1 Q else tb σ H1 Q
theorem Vx {c:Expr} (hc:PT X c tA) (ha:PE X a ta) (hb:PE X b tb):PE X (.IfExp c a b pos) (tIf tA ta tb):=by
 intro pins s σ H Q I h;refine wpAny_IfExp (thn (hc pins s σ H _ I h) fun d s1 ⟨H1,I1,q1⟩=>?_)
 cases d with
 | true=>exact ha pins s1 σ H1 Q I1 q1
 | false=>exact hb pins s1 σ H1 Q I1 q1
end
end L2
namespace L2
open PySem PySem.Spec PyProof.Rows
def SqL (K:Bc) (H:Hp) (a:Addr) (xs:List V):Prop :=
 Rd H a (.lst xs) ∨
  ∃ (o:Obj) (its:Array Value) (n:Nat),K.lookup a=some o∧o.cls=.type "list" ∧ o.dict=none∧o.data=.seq its n∧its.size≤sizeLine∧Vals xs its.toList
def SqT (K:Bc) (H:Hp) (a:Addr) (xs:List V):Prop :=
 Rd H a (.tup xs) ∨
  ∃ (o:Obj) (its:Array Value) (n:Nat),K.lookup a=some o∧o.cls=.type "tuple" ∧ o.data=.seq its n∧its.size≤sizeLine∧Vals xs its.toList
def absV:Value→Option V
 | .none=>some .non
 | .bool b=>some (.bl b)
 | .int i _=>some (.int i)
 | .str x _=>some (.str x)
 | .bytes b _=>some (.byt b)
 | .float b _=>some (.flt b)
 | .ref a=>some (.ref a)
 | .type n=>some (.ty n)
 | _=>none
theorem RelV.abs {x:V} {u:Value} (r:RelV x u):absV u=some x:=by
 cases x with
 | non=>cases r; rfl
 | bl _=>cases r; rfl
 | int _=>obtain ⟨t,rfl⟩:=r; rfl
 | str _=>obtain ⟨t,rfl⟩:=r; rfl
 | byt _=>obtain ⟨t,rfl⟩:=r; rfl
 | flt _=>obtain ⟨t,rfl⟩:=r; rfl
 | ref _=>cases r; rfl
 | ty _=>cases r; rfl
theorem RelV.inj {x y:V} {u:Value} (r:RelV x u) (q:RelV y u):x=y:=B0 (r.abs.symm.trans q.abs)
theorem Vals.inj:∀ {xs ys:List V} {us:List Value},Vals xs us→Vals ys us→xs=ys
 | _,_,_,.nil,.nil=>rfl
 | _,_,_,.cons r t,.cons r' t'=>by rw [r.inj r',Vals.inj t t']
section
variable {X:Cx} {pins:List (Addr×Obj)} {σ:St} {H:Hp} {s:Shared} {a:Addr} {xs ys:List V}
theorem SqL.of {K:Bc} (h:H a=some (.lst xs)):SqL K H a xs:=.inl (.inl h)
theorem SqT.of {K:Bc} (h:H a=some (.tup xs)):SqT K H a xs:=.inl (.inl h)
theorem Inv.list (I:Inv X pins σ H s) (h:SqL X.K H a xs):∃ its:List Value,Vals xs its∧PlainL s.heap a its.toArray∧xs.length≤sizeLine:=by
 rcases h with h | ⟨o,its,n,hk,hc,hd,hs,hz,r⟩
 ·obtain ⟨z,its,n,r,e⟩:=h.ok I.hok
  exact ⟨its,r,⟨_,n,e,rfl,rfl,rfl⟩,z⟩
 ·refine ⟨its.toList,r,⟨o,n,I.kIn a o hk,hc,hd,by simpa using hs⟩,?_⟩
  have e:=r.length
  simp only [Array.length_toList] at e
  omega
theorem Inv.tuple (I:Inv X pins σ H s) (h:SqT X.K H a xs):∃ its:List Value,Vals xs its∧IsTup s.heap a its.toArray∧xs.length≤sizeLine:=by
 rcases h with h | ⟨o,its,n,hk,hc,hs,hz,r⟩
 ·obtain ⟨z,its,r,p⟩:=h.ok I.hok
  exact ⟨its,r,p,z⟩
 ·refine ⟨its.toList,r,⟨o,I.kIn a o hk,hc,n,by simpa using hs⟩,?_⟩
  have e:=r.length
  simp only [Array.length_toList] at e
  omega
theorem Inv.list_inj (I:Inv X pins σ H s) (h:SqL X.K H a xs) (h':SqL X.K H a ys):xs=ys:=by
 obtain ⟨its,r,⟨o,n,e,_,_,d⟩,_⟩:=I.list h;obtain ⟨its',r',⟨o',n',e',_,_,d'⟩,_⟩:=I.list h';rw [e] at e'; cases e';rw [d] at d'
 injection d' with d1 _
 have:its=its':=by simpa using congrArg Array.toList d1
 subst this;exact r.inj r'
end
abbrev Cx.wish (X:Cx) (E:Value→Shared→Prop):Cx:={ X with xe:=E }
abbrev Cx.nox (X:Cx):Cx:=X.wish fun _ _=>False
theorem Cx.Ok.wish {X:Cx} (ok:X.Ok) (E:Value→Shared→Prop):(X.wish E).Ok :=
 ⟨ok.mod,ok.kind,ok.glob,ok.blt,ok.above,ok.inj,ok.has,ok.cab,ok.hd,ok.frames,ok.stk,ok.exf,ok.bs,ok.bsz,ok.noex,ok.exfs,ok.funs,ok.frf⟩
theorem Cx.Ok.unwish {X:Cx} {E:Value→Shared→Prop} (ok:(X.wish E).Ok):X.Ok :=
 ⟨ok.mod,ok.kind,ok.glob,ok.blt,ok.above,ok.inj,ok.has,ok.cab,ok.hd,ok.frames,ok.stk,ok.exf,ok.bs,ok.bsz,ok.noex,ok.exfs,ok.funs,ok.frf⟩
section
variable {X:Cx} {pins:List (Addr×Obj)} {σ:St} {H:Hp} {s:Shared} {E:Value→Shared→Prop}
theorem Inv.wish (I:Inv X pins σ H s) (E:Value→Shared→Prop):Inv (X.wish E) pins σ H s:=⟨I.ok.wish E,I.os,I.bare,I.base,I.loc,I.cell,I.free,I.freeC,I.pin,I.hok,I.len⟩
theorem Inv.unwish (I:Inv (X.wish E) pins σ H s):Inv X pins σ H s:=⟨I.ok.unwish,I.os,I.bare,I.base,I.loc,I.cell,I.free,I.freeC,I.pin,I.hok,I.len⟩
theorem SP.unwish {D:Ends} {f:Flow} {s':Shared} (h:SP (X.wish E) pins D f s'):SP X pins D f s':=by
 cases f with
 | next=>obtain ⟨σ',H',I,q⟩:=h; exact ⟨σ',H',I.unwish,q⟩
 | brk=>obtain ⟨σ',H',I,q⟩:=h; exact ⟨σ',H',I.unwish,q⟩
 | cont=>obtain ⟨σ',H',I,q⟩:=h; exact ⟨σ',H',I.unwish,q⟩
 | ret u=>obtain ⟨v,σ',H',I,r,q⟩:=h; exact ⟨v,σ',H',I.unwish,r,q⟩
theorem PSs.nox {st:List Stmt} {t:TS} (h:PSs X.nox st t):PSs X st t:=fun pins s σ H D I hw =>
 wpAny_mono (h pins s σ H D (I.wish _) hw) (fun _ _ q=>q.unwish) fun _ _ z=>False.elim z
end
section
variable {X:Cx} {st:Stmt} {rest:List Stmt} {t u:TS} {e:Expr} {te:TE} {pos:Pos}
def tNext:TS:=fun D σ H=>D.nx σ H
def tSeq (t u:TS):TS:=fun D σ H=>t { D with nx:=u D } σ H
theorem y4:PSs X [] tNext:=fun _ _ σ H _ I h=>wpAny_execs_nil ⟨σ,H,I,h⟩
theorem qJ (h1:PS X st t) (h2:PSs X rest u):PSs X (st::rest) (tSeq t u):=by
 intro pins s σ H D I h;refine wpAny_execs_cons (thn (h1 pins s σ H { D with nx:=u D } I h) fun f s1 q=>?_)
 cases f with
 | next =>
  obtain ⟨σ',H',I',q⟩:=q;exact h2 pins s1 σ' H' D I' q
 | ret v=>exact q
 | brk=>exact q
 | cont=>exact q
theorem qX (h1:PS X st t):PSs X [st] t:=by
 intro pins s σ H D I h;refine wpAny_execs_cons (thn (h1 pins s σ H D I h) fun f s1 q=>?_)
 cases f with
 | next=>exact wpAny_execs_nil q
 | ret v=>exact q
 | brk=>exact q
 | cont=>exact q
theorem Inv.quiet {pins:List (Addr×Obj)} {σ:St} {H:Hp} {s:Shared} (I:Inv X pins σ H s):interactive X.env=false:=by simp [interactive,I.ok.kind]
def tDrop (te:TE):TS:=fun D σ H=>te σ H fun _ H1=>D.nx σ H1
theorem QJ (he:PE X e te) (hs:swapsWith e none pos.line X.env=pure false:=by rfl):PS X (.Expr e pos) (tDrop te):=by
 intro pins s σ H D I h;exact wpAny_Expr_any (thn (he pins s σ H _ I h) fun v s1 ⟨x,H1,I1,r1,q1⟩=>⟨σ,H1,I1,q1⟩) I.quiet hs
def tRet (te:TE):TS:=fun D σ H=>te σ H D.rt
theorem zQ (he:PE X e te):PS X (.Return (some e) pos) (tRet te):=by
 intro pins s σ H D I h;exact wpAny_Return_some (thn (he pins s σ H _ I h) fun v s1 ⟨x,H1,I1,r1,q1⟩=>⟨x,σ,H1,I1,r1,q1⟩)
def tIfS (c:TT) (t u:TS):TS:=fun D σ H=>c σ H fun b H1=>if b=true then t D σ H1 else u D σ H1
theorem ps_if {c:Expr} {a b:List Stmt} {tc:TT} (hc:PT X c tc) (ha:PSs X a t) (hb:PSs X b u):PS X (.If c a b pos) (tIfS tc t u):=by
 intro pins s σ H D I h;refine wpAny_If (thn (hc pins s σ H _ I h) fun d s1 ⟨H1,I1,q1⟩=>?_)
 cases d with
 | true=>exact ha pins s1 σ H1 D I1 q1
 | false=>exact hb pins s1 σ H1 D I1 q1
def tNever:TS:=fun _ _ _=>False
theorem ps_never:PS X st tNever:=fun _ _ _ _ _ _ h=>h.elim
end
abbrev TG:=V→St→Hp→(St→Hp→Prop)→Prop
abbrev TGs:=List V→St→Hp→(St→Hp→Prop)→Prop
def PG (X:Cx) (target:Expr) (t:TG):Prop :=
 ∀ (pins:List (Addr×Obj)) (s:Shared) (σ:St) (H:Hp) (v:V) (u:Value) (Q:St→Hp→Prop),Inv X pins σ H s→RelV v u→t v σ H Q→wpAny (model X.prog X.w) X.A (assign target X.env u) (fun _ s'=>∃ σ' H',Inv X pins σ' H' s'∧Q σ' H') X.xe s
def PGs (X:Cx) (ts:List Expr) (t:TGs):Prop :=
 ∀ (pins:List (Addr×Obj)) (s:Shared) (σ:St) (H:Hp) (vs:List V) (us:List Value) (Q:St→Hp→Prop),Inv X pins σ H s→Vals vs us→t vs σ H Q→wpAny (model X.prog X.w) X.A (assignInOrder ((assignEach ts X.env).map (·.2)) us) (fun _ s'=>∃ σ' H',Inv X pins σ' H' s'∧Q σ' H') X.xe s
abbrev TSet:=V→V→V→Hp→(Hp→Prop)→Prop
def PSet (X:Cx) (t:TSet):Prop :=
 ∀ (pins:List (Addr×Obj)) (s:Shared) (σ:St) (H:Hp) (o i v:V) (ov iv u:Value) (Q:Hp→Prop),Inv X pins σ H s→RelV o ov→RelV i iv→RelV v u→t o i v H Q→wpAny (model X.prog X.w) X.A (setItem ov iv u) (fun _ s'=>∃ H',Inv X pins σ H' s'∧Q H') X.xe s
section
variable {X:Cx} {pos:Pos}
def gName (i:Nat):TG:=fun v σ H Q=>Q (σ.set i (some v)) H
theorem qW {i:Nat} {x:Str} (hN:X.N.Nodup) (hi:X.N[i]?=some x) (hx:Loc X.env.scope x) (hf:X.fn x=true∨X.env.scope.names.lookup x=some .local:=by first | exact .inl rfl | exact .inr rfl | assumption):PG X (.Name x pos) (gName i):=by
 intro pins s σ H v u Q I r h;exact wpAny_assign_Name (store_ok I hN hi hx r (fun s' I'=>⟨_,H,I',h⟩) hf)
def gNil:TGs:=fun vs σ H Q=>vs=[]∧Q σ H
def gCons (t:TG) (u:TGs):TGs:=fun vs σ H Q=>∃ v r,vs=v::r∧t v σ H fun σ' H'=>u r σ' H' Q
theorem jy:PGs X [] gNil:=by
 intro pins s σ H vs us Q I r h;obtain ⟨e,h⟩:=h;subst e
 cases r
 exact assignInOrder_nil ⟨σ,H,I,h⟩
theorem zy {e:Expr} {es:List Expr} {t:TG} {u:TGs} (h1:PG X e t) (h2:PGs X es u)
  (hs:(assignEach (e::es) X.env).map (·.2)=assign e X.env::(assignEach es X.env).map (·.2):=by rfl):PGs X (e::es) (gCons t u):=by
 intro pins s σ H vs us Q I r h;obtain ⟨v,vr,e1,h⟩:=h;subst e1
 cases r with
 | cons r rr =>
  rw [hs];refine assignInOrder_cons (thn (h1 pins s σ H _ _ _ I r h) fun _ s1 ⟨σ1,H1,I1,q1⟩=>?_);exact h2 pins s1 σ1 H1 _ _ Q I1 rr q1
def gTup (K:Bc) (n:Nat) (t:TGs):TG:=fun v σ H Q=>∃ a xs,v=.ref a∧SqT K H a xs∧xs.length=n∧t xs σ H Q
theorem vZ {es:List Expr} {k:Nat} {t:TGs} {n:Nat} (hc:X.calm=true) (h:PGs X es t)
  (hn:(assignEach es X.env).length=n:=by rfl) (hst:(assignEach es X.env).findIdx? (·.1)=none:=by rfl):PG X (.Tuple es k pos) (gTup X.K n t):=by
 intro pins s σ H v u Q I r hw;obtain ⟨a,xs,e1,hq,hl,hw⟩:=hw;subst e1
 cases r
 obtain ⟨its,rv,ht,hz⟩:=I.tuple hq;refine assign_Tuple_tuple (I.ok.hd hc) ht (by simp [hn,← hl,rv.length]) hst fun h' hx=>?_
 have I1:Inv X pins σ H { s with heap:=h' }:=I.kept (t':=s.toks) fun b o e=>hx b o (Nat.ne_of_lt (Heap.lt_size e)) e
 exact h pins _ σ H xs _ Q I1 (by simpa using rv) hw
def gSub (to ti:TE) (t:TSet):TG:=fun v σ H Q=>to σ H fun o H1=>ti σ H1 fun i H2=>t o i v H2 fun H3=>Q σ H3
theorem JY {o i:Expr} {to ti:TE} {t:TSet} (ho:PE X o to) (hi:PE X i ti) (hs:PSet X t)
  (ha:∀ v,assign (.Subscript o i pos) X.env v=(do
   let ov ← holding [v] (eval o X.env)
   let iv ← holding [v,ov] (eval i X.env)
   standAt pos
   holding [v,ov,iv] (setItem ov iv v)
   release [v,ov,iv] []):=by intro _; rfl):PG X (.Subscript o i pos) (gSub to ti t):=by
 intro pins s σ H v u Q I r h;rw [ha];refine wpAny_bind (wpAny_holding (thn (ho pins s σ H _ I h) fun ov s1 ⟨x,H1,I1,r1,q1⟩=>?_));refine wpAny_bind (wpAny_holding (thn (hi pins s1 σ H1 _ I1 q1) fun iv s2 ⟨y,H2,I2,r2,q2⟩=>?_));refine wpAny_bind (wpAny_standAt (wpAny_bind (wpAny_holding (thn (hs pins s2 σ H2 x y v ov iv u _ I2 r1 r2 r q2) fun _ s3 ⟨H3,I3,q3⟩=>?_))));exact wpAny_release ⟨σ,H3,I3,q3⟩
def tAsg (te:TE) (g:TG):TS:=fun D σ H=>te σ H fun x H1=>g x σ H1 D.nx
theorem k7 {tg e:Expr} {te:TE} {g:TG} (he:PE X e te) (hg:PG X tg g) (hs:swapsWithSole [tg] e pos.line X.env=pure false:=by rfl) (hw:swappedStores [tg] e X.env=pure none:=by rfl)
  (h1:(assignEach [tg] X.env).map (·.2)=[assign tg X.env]:=by rfl):PS X (.Assign [tg] e pos) (tAsg te g):=by
 intro pins s σ H D I h;refine wpAny_Assign_stores (thn (he pins s σ H _ I h) fun v s1 ⟨x,H1,I1,r1,q1⟩=>?_) hs hw;rw [h1];exact thn (hg pins s1 σ H1 x v _ I1 r1 q1) fun _ s2 q=>q
theorem zq {i:Nat} {x:Str} {e:Expr} {te:TE} {pos':Pos} (hN:X.N.Nodup) (hi:X.N[i]?=some x) (hx:Loc X.env.scope x) (he:PE X e te) (hs:swapsWith e (some (.Name x pos')) pos.line X.env=pure false:=by rfl) (hf:X.fn x=true∨X.env.scope.names.lookup x=some .local:=by first | exact .inl rfl | exact .inr rfl | assumption) :
  PS X (.Assign [.Name x pos'] e pos) (tAsg te (gName i)):=by
 intro pins s σ H D I h;refine wpAny_Assign_Name (thn (he pins s σ H _ I h) fun v s1 ⟨y,H1,I1,r1,q1⟩=>?_) hs;exact store_ok I1 hN hi hx r1 (fun s2 I2=>⟨_,H1,I2,q1⟩) hf
def tPar (i j:Nat) (ta:TA):TS:=fun D σ H=>ta σ H fun vs H1=>∃ v w,vs=[v,w]∧D.nx ((σ.set i (some v)).set j (some w)) H1
theorem ps_par {i j:Nat} {x y:Str} {a b:Expr} {ta:TA} {px py pt:Pos} {kt k2 pt2} (hc:X.calm=true) (hN:X.N.Nodup) (hi:X.N[i]?=some x) (hj:X.N[j]?=some y) (hij:i≠j)
  (hx:X.env.scope.names.lookup x=some .local) (hy:X.env.scope.names.lookup y=some .local) (ha:PA X [a,b] ta)
  (hw:swappedStores [.Tuple [.Name x px,.Name y py] kt pt] (.Tuple [a,b] k2 pt2) X.env=pure (some [x,y]))
  (hs:swapsWithSole [.Tuple [.Name x px,.Name y py] kt pt] (.Tuple [a,b] k2 pt2) pos.line X.env=pure false:=by rfl) :
  PS X (.Assign [.Tuple [.Name x px,.Name y py] kt pt] (.Tuple [a,b] k2 pt2) pos) (tPar i j ta):=by
 intro pins s σ H D I h;rw [exec_Assign_arm];refine wpAny_bind (wpAny_standAt ?_);rw [hs];refine wpAny_bind (wpAny_pure ?_);rw [if_neg (by decide)];refine wpAny_bind (Tuple_ (thn (ha _ pins s σ H _ I h) fun us s1 ⟨vs,H1,I1,r1,q1⟩=>?_));obtain ⟨v,w,e1,q1⟩:=q1;subst e1;obtain ⟨u1,u2,rfl,rv,rw'⟩:∃ u1 u2,us=[u1,u2]∧RelV v u1∧RelV w u2:=by
  cases r1 with
  | cons p q =>
   cases q with
   | cons p' q' =>
    cases q'
    exact ⟨_,_,rfl,p,p'⟩
 refine wpAny_newObj_type ?_ (by show 2≤sizeLine; decide);have I2:Inv X pins σ H1 { s1 with heap:=s1.heap.push { cls:=.type "tuple",data:=.seq [u1,u2].toArray } }:=I1.kept (t':=s1.toks) fun b o e=>Heap.get?_push_of_some _ e
 rw [hw];refine wpAny_bind (wpAny_pure ?_);show wpAny (model X.prog X.w) X.A (do rule "assign.swapped-stores"; let items ← unpackItems (.ref s1.heap.objs.size) 2 none; assignInOrder [fun v=>bindName X.env y v,fun v=>bindName X.env x v] items.reverse; pure Flow.next) _ _ _;refine wpAny_bind (wpAny_rule (wpAny_bind (unpackItems_tuple (items:=#[u1,u2]) (I.ok.hd hc) (IsTup.new s1.heap _) fun h' hx'=>?_)));have I3:=I2.kept (h':=h') (t':=s1.toks) fun b o e=>hx' b o (Nat.ne_of_lt (Heap.lt_size e)) e
 show wpAny _ _ (assignInOrder [fun v=>bindName X.env y v,fun v=>bindName X.env x v] [u2,u1] >>= fun _=>pure Flow.next) _ _ _;refine wpAny_bind (assignInOrder_cons (wpAny_bindName (store_ok I3 hN hj (.inl hy) rw' (fun s2 I4=>?_) (.inr hy))));refine assignInOrder_cons (wpAny_bindName (store_ok I4 hN hi (.inl hx) rv (fun s3 I5=>assignInOrder_nil (wpAny_pure ?_)) (.inr hx)));rw [List.set_comm _ _ (Ne.symm hij)] at I5;exact ⟨_,H1,I5,q1⟩
end
section
variable {X:Cx} {pos:Pos}
def tWhile (c:TT) (tb:TS):TS:=fun D σ H=>∃ W:Nat→St→Hp→Prop,(∃ m,W m σ H)∧∀ m σ H,W m σ H→c σ H fun b H1=>if b=true then ∃ N:St→Hp→Prop,(∀ σ' H',N σ' H'→∃ m',m'<m∧W m' σ' H')∧tb { D with nx:=N,ct:=N,bk:=D.nx } σ H1 else D.nx σ H1
theorem ps_while {c:Expr} {body:List Stmt} {tc:TT} {tb:TS} (hp:PassesOwn (model X.prog X.w) X.A X.env X.xe) (hc:PT X c tc) (hb:PSs X body tb):PS X (.While c body [] pos) (tWhile tc tb):=by
 intro pins s σ H D I h;obtain ⟨W,⟨m0,w0⟩,turn⟩:=h;refine wpAny_While (codeAny_whileLoop (fun n s'=>∃ σ' H',Inv X pins σ' H' s'∧W n σ' H') ?_ m0 ⟨σ,H,I,w0⟩);rintro n s1 ⟨σ1,H1,I1,w1⟩;refine wpAny_passesOwn hp (thn (hc pins s1 σ1 H1 _ I1 (turn n σ1 H1 w1)) fun b s2 ⟨H2,I2,q2⟩=>?_)
 cases b with
 | true =>
  obtain ⟨N,hN,q2⟩:=q2;rw [if_pos rfl];refine wpAny_passesOwn hp (thn (hb pins s2 σ1 H2 _ I2 q2) fun f s3 q3=>?_)
  cases f with
  | next =>
   obtain ⟨σ3,H3,I3,n3⟩:=q3;obtain ⟨m',hm,w3⟩:=hN σ3 H3 n3;exact ⟨m',hm,σ3,H3,I3,w3⟩
  | cont =>
   obtain ⟨σ3,H3,I3,n3⟩:=q3;obtain ⟨m',hm,w3⟩:=hN σ3 H3 n3;exact ⟨m',hm,σ3,H3,I3,w3⟩
  | brk=>exact q3
  | ret v=>exact q3
 | false =>
  rw [if_neg Bool.false_ne_true];exact wpAny_execs_nil ⟨σ1,H2,I2,q2⟩
end
structure It where
 go:Nat→Hp→Prop
 yld:Nat→Hp→V→Hp→Prop
 stop:Nat→Hp→Prop
def FpOk (X:Cx) (pins:List (Addr×Obj)) (H:Hp) (b:Addr):Prop :=
 H b=none∧b≠X.env.locals∧b∉X.fs∧(b∈X.ex∨X.s₀.heap.objs.size≤b)∧(∀ x c,X.env.cells.lookup x=some c→c≠b)∧∀ p∈X.pn++pins,p.1≠b
theorem Inv.fpOk {X:Cx} {pins:List (Addr×Obj)} {σ:St} {H H':Hp} {s:Shared} {b:Addr} (I:Inv X pins σ H s) (hb:s.heap.objs.size≤b) (hn:H' b=none):FpOk X pins H' b:=by
 refine ⟨hn,Nat.ne_of_gt (An I.lt hb),I.nofs hb,.inr (Ba I.sz hb),fun x c e z=>?_,fun p hp z=>?_⟩
 ·obtain ⟨v,q⟩:=I.cell x c e
  exact absurd (An q.lt (by rw [z]; exact hb)) (Nat.lt_irrefl _)
 ·exact absurd (An (Heap.lt_size (I.pin p hp).1) (by rw [z]; exact hb)) (Nat.lt_irrefl _)
structure Turn (P:Program) (w:World) (K:Bc) (tg:Expr) (J:It) (fp:List Addr) (it:Addr) (tn:Nat→Heap→Prop):Prop where
 mem:it∈fp
 obj:∀ i h,tn i h→∀ b∈fp,∃ o,h.get? b=some o∧∀ v,o.data≠.cell v
 keep:∀ i h h',tn i h→(∀ b∈fp,∀ o,h.get? b=some o→h'.get? b=some o)→tn i h'
 item:∀ (X:Cx),X.prog=P→X.w=w→X.K=K→X.calm=true→∀ (i:Nat) (pins:List (Addr×Obj)) (s:Shared) (σ:St) (H:Hp) (E:Value→Shared→Prop),Inv X pins σ H s→(∀ b∈fp,FpOk X pins H b)→tn i s.heap→J.go i H→wpAny (model P w) X.A (pyNext (.ref it)) (fun r s1=>∃ u,r=some u∧wpAny (model P w) X.A (letOwnedTupleGo tg (.ref it) u) (fun _ s2=>∃ x H',Inv X pins σ H' s2∧RelV x u∧J.yld i H x H'∧tn (i+1) s2.heap∧∀ b∈fp,H' b=none) E s1) E s
 done:∀ (X:Cx),X.prog=P→X.w=w→X.K=K→X.calm=true→∀ (i:Nat) (pins:List (Addr×Obj)) (s:Shared) (σ:St) (H:Hp) (E:Value→Shared→Prop),Inv X pins σ H s→(∀ b∈fp,FpOk X pins H b)→tn i s.heap→J.stop i H→wpAny (model P w) X.A (pyNext (.ref it)) (fun r s1=>r=none∧Inv X pins σ H s1) E s
 self:∀ (A:Around) (i:Nat) (s:Shared) (Q:Value→Shared→Prop) (E:Value→Shared→Prop),tn i s.heap→Q (.ref it) s→wpAny (model P w) A (pyIter (.ref it)) Q E s
abbrev TI:=St→Hp→(It→Hp→Prop)→Prop
def PIE (X:Cx) (pins:List (Addr×Obj)) (σ:St) (tg:Expr) (R:It→Hp→Prop) (itv:Value) (s2:Shared):Prop :=
 ∃ (it:Addr) (fp:List Addr) (tn:Nat→Heap→Prop) (J:It) (H':Hp),itv=.ref it∧Inv X pins σ H' s2∧Turn X.prog X.w X.K tg J fp it tn∧tn 0 s2.heap∧(∀ b∈fp,FpOk X pins H' b)∧R J H'
def PI (X:Cx) (tg iter:Expr) (wi:TI):Prop :=
 ∀ (pins:List (Addr×Obj)) (s:Shared) (σ:St) (H:Hp) (R:It→Hp→Prop),Inv X pins σ H s→wi σ H R→wpAny (model X.prog X.w) X.A (eval iter X.env) (fun v s1=>wpAny (model X.prog X.w) X.A (pyIter v) (PIE X pins σ tg R) X.xe s1) X.xe s
theorem go_of {M:Model} {A:Around} {E:Value→Shared→Prop} {s:Shared} {tg:Expr} {it:Addr} {u:Value} {o:Obj} {n:String} {vs:Array Value} {Q:Unit→Shared→Prop} (ho:s.heap.get? it=some o) (hc:o.cls=.type n) (hd:o.data=.fields vs)
    (hn:["enumerate", "zip", "dict_itemiterator", "dict_reverseitemiterator", "odict_iterator", "itertools.zip_longest", "itertools.pairwise"].contains n=false) (hQ:Q () s):wpAny M A (letOwnedTupleGo tg (.ref it) u) Q E s:=by
  unfold letOwnedTupleGo
  cases tg <;> first
    | exact wpAny_pure hQ
    | (cases u <;> first
        | exact wpAny_pure hQ
        | (refine wpAny_bind (wpAny_load ho ?_)
           rw [hc,hd];show wpAny M A (if (["enumerate", "zip", "dict_itemiterator", "dict_reverseitemiterator", "odict_iterator", "itertools.zip_longest", "itertools.pairwise"].contains n&&vs[0]?==some (rawInt _))=true then _ else _) Q E s;rw [if_neg (by intro h; rw [hn,Bool.false_and] at h; cases h)];exact wpAny_pure hQ))
def Itl (K:Bc) (a:Addr):It :=
 ⟨fun i H=>∃ xs x,SqL K H a xs∧xs[i]?=some x,fun i H x H'=>H'=H∧∀ xs,SqL K H a xs→xs[i]?=some x,fun i H=>∃ xs,SqL K H a xs∧xs.length≤i⟩
def Itr (lo:Int) (n:Nat):It:=⟨fun i _=>i<n,fun i H x H'=>H'=H∧x=.int (lo+i),fun i _=>n≤i⟩
theorem turn_list {P:Program} {w:World} {K:Bc} {tg:Expr} (a it:Addr):Turn P w K tg (Itl K a) [it] it (fun i h=>h.IsListIter it a i) where
 mem:=by simp
 obj:=fun i h st b hb=>by
  have e:b=it:=by simpa using hb
  subst e;obtain ⟨o,e,c,d⟩:=st;exact ⟨o,e,fun v z=>by rw [d] at z; cases z⟩
 keep:=fun i h h' st k=>st.at fun o e=>k it (by simp) o e
 item:=by
  intro X hP hw hK hc i pins s σ H E I hf st hg;subst hP hw hK;obtain ⟨xs,x,hq,hx⟩:=hg;obtain ⟨its,rv,p,hz⟩:=I.list hq;obtain ⟨u,hu,ru⟩:=rv.get hx;obtain ⟨f0,f1,f2,f3,f4,f5⟩:=hf it (by simp);refine wpAny_pyNext_list_item st p.isList (x:=u) (by simpa using hu) fun h' st' sb=>?_
  have I1:Inv X pins σ H { s with heap:=h' }:=I.turned (t':=s.toks) (fun b o hb e=>(sb.2 b hb).trans e) f0 f1 f3 f4 f5;obtain ⟨o,e,c,d⟩:=id st';exact ⟨u,rfl,go_of (s:={ s with heap:=h' }) e c d (by decide) ⟨x,H,I1,ru,⟨rfl,fun ys hy=>by rw [I.list_inj hy hq]; exact hx⟩,st',fun b hb=>(hf b hb).1⟩⟩
 done:=by
  intro X hP hw hK hc i pins s σ H E I hf st hg;subst hP hw hK;obtain ⟨xs,hq,hx⟩:=hg;obtain ⟨its,rv,p,hz⟩:=I.list hq;obtain ⟨f0,f1,f2,f3,f4,f5⟩:=hf it (by simp);have hl:=rv.length;exact wpAny_pyNext_list_end (I.ok.hd hc) st p.isList (by simp; omega) fun h' eb=>⟨rfl,I.turned (t':=s.toks) (fun b o hb e=>eb b o hb e) f0 f1 f3 f4 f5⟩
 self:=fun _ _ _ _ _ st h=>wpAny_pyIter_listiter st h
theorem turn_range {P:Program} {w:World} {K:Bc} {tg:Expr} (it:Addr) (lo:Int) (n:Nat):Turn P w K tg (Itr lo n) [it] it (fun i h=>IsRangeIter h it (lo+(i:Nat)*1) ((n:Int) - (i:Nat)) 1) where
 mem:=by simp
 obj:=fun i h st b hb=>by
  have e:b=it:=by simpa using hb
  subst e;exact ⟨_,st,fun v z=>by
   have z':Data.fields _=Data.cell v:=z
   cases z'⟩
 keep:=fun i h h' st k=>k it (by simp) _ st
 item:=by
  intro X hP hw hK hc i pins s σ H E I hf st hg;subst hP hw hK;obtain ⟨f0,f1,f2,f3,f4,f5⟩:=hf it (by simp);have W:=Walks.range (prog:=X.prog) (w:=X.w) (I.ok.hd hc) it lo 1 n;refine W.item i s _ _ hg st fun v h' tk hv st' kk=>?_
  obtain ⟨t,rfl⟩:=hv;have I1:Inv X pins σ H { s with heap:=h',toks:=tk }:=I.turned (fun b o hb e=>kk b o (by simpa using hb) e) f0 f1 f3 f4 f5;refine ⟨_,rfl,go_of (s:={ s with heap:=h',toks:=tk }) (n := "range_iterator") st' rfl rfl (by decide) ⟨.int (lo+i),H,I1,⟨t,?_⟩,⟨rfl,rfl⟩,st',fun b hb=>(hf b hb).1⟩⟩;rw [Int.mul_one]
 done:=by
  intro X hP hw hK hc i pins s σ H E I hf st hg;subst hP hw hK;obtain ⟨f0,f1,f2,f3,f4,f5⟩:=hf it (by simp);exact wpAny_pyNext_range_end (I.ok.hd hc) st (by have:n≤i:=hg; omega) fun h' eb=>⟨rfl,I.turned (t':=s.toks) (fun b o hb e=>eb b o hb e) f0 f1 f3 f4 f5⟩
 self:=fun _ _ _ _ _ st h=>wpAny_pyIter_rangeiter st h
end L2
namespace L2
open PySem PySem.Spec PyProof.Rows
section
variable {X:Cx} {tg:Expr}
def iList (K:Bc) (tl:TE):TI:=fun σ H R=>tl σ H fun x H1=>∃ a,x=.ref a∧(∃ xs,SqL K H1 a xs)∧R (Itl K a) H1
theorem yW {l:Expr} {tl:TE} (hl:PE X l tl):PI X tg l (iList X.K tl):=by
 intro pins s σ H R I h;refine thn (hl pins s σ H _ I h) fun v s1 ⟨x,H1,I1,r1,q1⟩=>?_
 obtain ⟨a,e,⟨xs,hq⟩,q⟩:=q1;subst e
 cases r1
 obtain ⟨its,rv,p,hz⟩:=I1.list hq;refine wpAny_pyIter_list p.isList ?_;refine ⟨s1.heap.objs.size,[s1.heap.objs.size],_,_,H1,rfl,I1.kept (t':=s1.toks) fun b o e=>Heap.get?_push_of_some _ e,turn_list a _,⟨_,Heap.get?_push_size _ rfl,rfl,rfl⟩,fun b hb=>?_,q⟩;have e:b=s1.heap.objs.size:=by simpa using hb
 subst e;exact I1.fpOk (Nat.le_refl _) (I1.hok.fresh (Nat.le_refl _))
theorem range_it {pins:List (Addr×Obj)} {σ:St} {H:Hp} {s:Shared} {R:It→Hp→Prop} {E:Value→Shared→Prop} {lo hi:Int} {t u v:Tok} {tk:Nat} (I:Inv X pins σ H s) (h1 : -(2^62)≤lo) (h2:lo<2^62) (h3 : -(2^62)≤hi) (h4:hi<2^62)
  (q:R (Itr lo (hi - lo).toNat) H):wpAny (model X.prog X.w) X.A (pyIter (.ref s.heap.objs.size)) (PIE X pins σ tg R) E { s with heap:=s.heap.push { cls:=.type "range",data:=.fields #[.int lo t,.int hi u,.int 1 v] },toks:=tk }:=by
 refine wpAny_pyIter_range (IsRange.new ..) (small_one h1 h2 h3 h4) ?_;have I1:Inv X pins σ H { s with heap:=s.heap.push { cls:=.type "range",data:=.fields #[.int lo t,.int hi u,.int 1 v] },toks:=tk }:=I.kept fun b o e=>Heap.get?_push_of_some _ e
 refine ⟨(s.heap.push { cls:=.type "range",data:=.fields #[.int lo t,.int hi u,.int 1 v] }).objs.size,[(s.heap.push { cls:=.type "range",data:=.fields #[.int lo t,.int hi u,.int 1 v] }).objs.size],_,_,H,rfl,I1.kept (t':=tk) fun b o e=>Heap.get?_push_of_some _ e,turn_range _ lo (hi - lo).toNat,?_,fun b hb=>?_,q⟩
 ·have e1:lo+((0:Nat):Int)*1=lo:=by simp
  have e2:(((hi - lo).toNat:Nat):Int) - ((0:Nat):Int)=Builtin.Range.rangeSize lo hi 1:=by rw [rangeSize_one]; split <;> omega
  show IsRangeIter _ _ (lo+((0:Nat):Int)*1) ((((hi - lo).toNat:Nat):Int) - ((0:Nat):Int)) 1;rw [e1,e2];exact Heap.get?_push_size _ rfl
 ·have e:b=(s.heap.push { cls:=.type "range",data:=.fields #[.int lo t,.int hi u,.int 1 v] }).objs.size:=by simpa using hb
  subst e;exact I1.fpOk (Nat.le_refl _) (I1.hok.fresh (Nat.le_refl _))
def iRng1 (ta:TA):TI:=fun σ H R=>ta σ H fun vs H1=>∃ j:Int,vs=[.int j] ∧ -(2^62)≤j∧j<2^62∧R (Itr 0 j.toNat) H1
theorem pi_range1 {a:Expr} {ta:TA} {p pos:Pos} (hg:Gl X "range") (hm:X.mg "range" = none) (ha:PA X [a] ta) (hs:starEach [a] X.env=[(false,eval a X.env)]:=by rfl):PI X tg (.Call (.Name "range" p) [a] [] pos) (iRng1 ta):=by
 intro pins s σ H R I h;refine Call_ (V2 I hg hm boot_range (PyProof.Rows.callWith_type1 (thn (ha pos pins s σ H _ I h) fun us s1 ⟨vs,H1,I1,r1,q1⟩=>?_) hs rfl));obtain ⟨j,e,q1,q2,q⟩:=q1;subst e
 cases r1 with
 | cons r rr =>
  cases rr
  obtain ⟨t,rfl⟩:=r;exact call_range_1 (range_it I1 (by omega) (by omega) q1 q2 (by simpa using q))
def tFor (wi:TI) (g:TG) (tb:TS):TS:=fun D σ H=>wi σ H fun J H1=>∃ W:Nat→Nat→St→Hp→Prop,(∃ m,W 0 m σ H1)∧∀ i m σ H,W i m σ H→(J.stop i H∧D.nx σ H)∨(J.go i H∧∃ N:St→Hp→Prop,(∀ σ' H',N σ' H'→∃ m',m'<m∧W (i+1) m' σ' H')∧∀ x H',J.yld i H x H'→g x σ H' fun σ2 H2=>tb { D with nx:=N,ct:=N,bk:=D.nx } σ2 H2)
def pinsAt (fp:List Addr) (h:Heap):List (Addr×Obj):=fp.filterMap fun b=>(h.get? b).map fun o=>(b,o)
theorem mem_pinsAt {fp:List Addr} {h:Heap} {b:Addr} {o:Obj} (hb:b∈fp) (e:h.get? b=some o):(b,o)∈pinsAt fp h:=List.mem_filterMap.mpr ⟨b,hb,by rw [e]; rfl⟩
theorem of_pinsAt {fp:List Addr} {h:Heap} {p:Addr×Obj} (hp:p∈pinsAt fp h):p.1∈fp∧h.get? p.1=some p.2:=by
 obtain ⟨b,hb,e⟩:=List.mem_filterMap.mp hp
 cases q:h.get? b with
 | none=>rw [q] at e; cases e
 | some o =>
  rw [q] at e;have e':(b,o)=p:=B0 e;subst e';exact ⟨hb,q⟩
theorem Inv.pinned {pins:List (Addr×Obj)} {σ:St} {H:Hp} {s:Shared} {fp:List Addr} (I:Inv X pins σ H s) (hf:∀ b∈fp,FpOk X pins H b) (ho:∀ b∈fp,∃ o,s.heap.get? b=some o∧∀ v,o.data≠.cell v):Inv X (pins++pinsAt fp s.heap) σ H s :=
 I.pins_of fun p hp=>(Aw.mp hp).elim (fun z=>I.pin p (Ac _ z)) fun z=>by
  obtain ⟨hb,e⟩:=of_pinsAt z;obtain ⟨f0,f1,f2,_⟩:=hf p.1 hb;obtain ⟨o,e',d⟩:=ho p.1 hb;rw [e] at e'; cases e';exact ⟨e,f0,f1,f2,d⟩
theorem Inv.unpinned {pins pl:List (Addr×Obj)} {σ:St} {H:Hp} {s:Shared} (I:Inv X (pins++pl) σ H s):Inv X pins σ H s:=I.pins_of fun p hp=>I.pin p (Ac _ (Ah _ hp))
theorem Q4 {iter:Expr} {body:List Stmt} {wi:TI} {g:TG} {tb:TS} {pos:Pos} (hp:PassesOwn (model X.prog X.w) X.A X.env X.xe) (hc:X.calm=true) (hi:PI X tg iter wi) (hg:PG X tg g) (hb:PSs X body tb)
  (hs:∀ x,foldedSetIterable iter X.env x=pure x:=by intro _; rfl):PS X (.For tg iter body [] pos) (tFor wi g tb):=by
 intro pins s σ H D I h;refine wpAny_For (thn (hi pins s σ H _ I h) fun v s1 h1=>thn h1 fun itv s2 h2=>?_) hs;obtain ⟨it,fp,tn,J,H2,e,I2,T,st2,f2,W,⟨m0,w0⟩,turn⟩:=h2;subst e;have stat:∀ {H':Hp},(∀ b∈fp,H' b=none)→∀ b∈fp,FpOk X pins H' b:=fun hn b hb=>⟨hn b hb,(f2 b hb).2⟩
 refine codeAny_forLoop_any (fun n s'=>∃ i σ' H',Inv X pins σ' H' s'∧tn i s'.heap∧(∀ b∈fp,H' b=none)∧W i n σ' H') ?_ m0 ⟨0,σ,H2,I2,st2,fun b hb=>(f2 b hb).1,w0⟩;rintro n s3 ⟨i,σ3,H3,I3,st3,fr3,w3⟩
 rcases turn i n σ3 H3 w3 with ⟨stop,qn⟩ | ⟨go,N,hN,step⟩
 ·refine wpAny_passesOwn hp (thn (T.done X rfl rfl rfl hc i pins s3 σ3 H3 X.xe I3 (stat fr3) st3 stop) fun r s4 ⟨hr,I4⟩=>?_)
  subst hr;exact wpAny_execs_nil ⟨σ3,H3,I4,qn⟩
 ·refine wpAny_passesOwn hp (thn (T.item X rfl rfl rfl hc i pins s3 σ3 H3 X.xe I3 (stat fr3) st3 go) fun r s4 ⟨u,hr,h4⟩=>?_)
  subst hr;refine wpAny_passesOwn hp (thn h4 fun _ s5 ⟨x,H5,I5,r5,y5,st5,fr5⟩=>?_);have I5':=I5.pinned (stat fr5) (T.obj _ _ st5);refine wpAny_passesOwn hp (thn (hg _ s5 σ3 H5 x u _ I5' r5 (step x H5 y5)) fun _ s6 ⟨σ6,H6,I6,q6⟩=>?_);refine wpAny_passesOwn hp (thn (hb _ s6 σ6 H6 _ I6 q6) fun f s7 q7=>?_);have again:∀ {σ7:St} {H7:Hp},Inv X (pins++pinsAt fp s5.heap) σ7 H7 s7→N σ7 H7→∃ m,m<n∧∃ i σ' H',Inv X pins σ' H' s7∧tn i s7.heap∧(∀ b∈fp,H' b=none)∧W i m σ' H':=fun {σ7 H7} I7 n7=>by
   obtain ⟨m',hm,w7⟩:=hN σ7 H7 n7;refine ⟨m',hm,i+1,σ7,H7,I7.unpinned,T.keep _ _ _ st5 fun b hb o e=>(I7.pin (b,o) (Ac _ (Ac _ (mem_pinsAt hb e)))).1,fun b hb=>?_,w7⟩;obtain ⟨o,e,d⟩:=T.obj _ _ st5 b hb;exact (I7.pin (b,o) (Ac _ (Ac _ (mem_pinsAt hb e)))).2.1
  cases f with
  | next=>obtain ⟨σ7,H7,I7,n7⟩:=q7; exact again I7 n7
  | cont=>obtain ⟨σ7,H7,I7,n7⟩:=q7; exact again I7 n7
  | brk=>obtain ⟨σ7,H7,I7,q7⟩:=q7; exact ⟨σ7,H7,I7.unpinned,q7⟩
  | ret v=>obtain ⟨x7,σ7,H7,I7,r7,q7⟩:=q7; exact ⟨x7,σ7,H7,I7.unpinned,r7,q7⟩
end
theorem for_range {lo:Int} {n:Nat} {g:TG} {tb:TS} {D:Ends} {σ:St} {H:Hp} (Pv:Nat→St→Hp→Prop) (h0:Pv 0 σ H)
  (hs:∀ i σ H,i<n→Pv i σ H→g (.int (lo+i)) σ H fun σ2 H2=>tb { D with nx:=Pv (i+1),ct:=Pv (i+1),bk:=D.nx } σ2 H2) (hd:∀ σ H,Pv n σ H→D.nx σ H) :
  ∃ W:Nat→Nat→St→Hp→Prop,(∃ m,W 0 m σ H)∧∀ i m σ H,W i m σ H→((Itr lo n).stop i H∧D.nx σ H)∨((Itr lo n).go i H∧∃ N:St→Hp→Prop,(∀ σ' H',N σ' H'→∃ m',m'<m∧W (i+1) m' σ' H')∧∀ x H',(Itr lo n).yld i H x H'→g x σ H' fun σ2 H2=>tb { D with nx:=N,ct:=N,bk:=D.nx } σ2 H2):=by
 refine ⟨fun i m σ H=>m=n - i∧i≤n∧Pv i σ H,⟨n,by simp,Nat.zero_le _,h0⟩,?_⟩;rintro i m σ H ⟨rfl,hi,p⟩
 by_cases hlt:i<n
 ·refine .inr ⟨hlt,Pv (i+1),fun σ' H' p'=>⟨n - (i+1),by omega,rfl,hlt,p'⟩,fun x H' y=>?_⟩
  obtain ⟨e,y⟩:=y;subst e y;exact hs i σ _ hlt p
 ·have e:i=n:=by omega
  subst e;exact .inl ⟨Nat.le_refl _,hd σ H p⟩
theorem while_by {c:TT} {tb:TS} {D:Ends} {σ:St} {H:Hp} (Pv:St→Hp→Prop) (μ:St→Hp→Nat) (h0:Pv σ H)
  (hs:∀ σ H,Pv σ H→c σ H fun b H1=>if b=true then tb { D with nx:=fun σ' H'=>Pv σ' H'∧μ σ' H'<μ σ H,ct:=fun σ' H'=>Pv σ' H'∧μ σ' H'<μ σ H,bk:=D.nx } σ H1 else D.nx σ H1)
  (mono:∀ σ H Q Q',(∀ b H1,Q b H1→Q' b H1)→c σ H Q→c σ H Q'):tWhile c tb D σ H:=by
 refine ⟨fun m σ H=>m=μ σ H∧Pv σ H,⟨_,rfl,h0⟩,?_⟩;rintro m σ H ⟨rfl,p⟩;refine mono σ H _ _ (fun b H1 q=>?_) (hs σ H p)
 cases b with
 | true=>exact ⟨_,fun σ' H' ⟨p',l⟩=>⟨_,l,rfl,p'⟩,q⟩
 | false=>exact q
end L2
namespace L2
open PySem PySem.Spec PyProof.Rows
abbrev R2:=V→V→Hp→VK→Prop
def OpR (X:Cx) (f:Value→Value→Sem Value) (r:R2):Prop :=
 ∀ (pins:List (Addr×Obj)) (s:Shared) (σ:St) (H:Hp) (x y:V) (v u:Value) (Q:VK),Inv X pins σ H s→RelV x v→RelV y u→r x y H Q→wpAny (model X.prog X.w) X.A (f v u) (EP X pins σ Q) X.xe s
def UnR (X:Cx) (f:Value→Sem Value) (r:V→Hp→VK→Prop):Prop :=
 ∀ (pins:List (Addr×Obj)) (s:Shared) (σ:St) (H:Hp) (x:V) (v:Value) (Q:VK),Inv X pins σ H s→RelV x v→r x H Q→wpAny (model X.prog X.w) X.A (f v) (EP X pins σ Q) X.xe s
def CallR (X:Cx) (f:Value) (r:List V→Hp→VK→Prop):Prop :=
 ∀ (pins:List (Addr×Obj)) (s:Shared) (σ:St) (H:Hp) (xs:List V) (us:List Value) (Q:VK),Inv X pins σ H s→Vals xs us→r xs H Q→wpAny (model X.prog X.w) X.A (call f us) (EP X pins σ Q) X.xe s
def tOp (r:R2) (ta tb:TE):TE:=fun σ H Q=>ta σ H fun x H1=>tb σ H1 fun y H2=>r x y H2 Q
def tUn (r:V→Hp→VK→Prop) (ta:TE):TE:=fun σ H Q=>ta σ H fun x H1=>r x H1 Q
def rI (C:Int→Int→Prop) (g:Int→Int→V):R2:=fun x y H Q=>∃ i j,x=.int i∧y=.int j∧C i j∧Q (g i j) H
def rI0 (g:Int→Int→V):R2:=fun x y H Q=>∃ i j,x=.int i∧y=.int j∧Q (g i j) H
def rU (g:Int→V):V→Hp→VK→Prop:=fun x H Q=>∃ i,x=.int i∧Q (g i) H
section
variable {X:Cx} {a b c:Expr} {ta tb tc:TE} {pos:Pos}
theorem binT (ha:PE X a ta) (hb:PE X b tb) {pins:List (Addr×Obj)} {s:Shared} {σ:St} {H:Hp} {R:V→V→Hp→Prop} (I:Inv X pins σ H s)
  (h:ta σ H fun x H1=>tb σ H1 fun y H2=>R x y H2) {Q:Value→Shared→Prop} {f:Value→Value→Sem Value}
  (hf:∀ v u s2 x y H2,Inv X pins σ H2 s2→RelV x v→RelV y u→R x y H2→wpAny (model X.prog X.w) X.A (f v u) Q X.xe s2) :
  wpAny (model X.prog X.w) X.A (eval a X.env) (fun v s₁=>wpAny (model X.prog X.w) X.A (eval b X.env) (fun u s₂=>wpAny (model X.prog X.w) X.A (f v u) Q X.xe s₂) X.xe s₁) X.xe s:=by
 refine thn (ha pins s σ H _ I h) fun v s1 ⟨x,H1,I1,r1,q1⟩=>?_
 refine thn (hb pins s1 σ H1 _ I1 q1) fun u s2 ⟨y,H2,I2,r2,q2⟩=>?_
 exact hf v u s2 x y H2 I2 r1 r2 q2
theorem pe_op {op:Operator} {r:R2} (ho:OpR X (binaryOp op) r) (ha:PE X a ta) (hb:PE X b tb):PE X (.BinOp a op b pos) (tOp r ta tb):=by
 intro pins s σ H Q I h;exact wpAny_BinOp (binT ha hb I h fun v u s2 x y H2 I2 rx ry q=>ho pins s2 σ H2 x y v u Q I2 rx ry q)
theorem pe_un {op:UnaryOp} {r:V→Hp→VK→Prop} (ho:UnR X (unaryOp op) r) (ha:PE X a ta):PE X (.UnaryOp op a pos) (tUn r ta):=by
 intro pins s σ H Q I h;exact UnaryOp_ (thn (ha pins s σ H _ I h) fun v s1 ⟨x,H1,I1,r1,q1⟩=>ho pins s1 σ H1 x v Q I1 r1 q1)
theorem opI {f:Value→Value→Sem Value} {C:Int→Int→Prop} {g:Int→Int→Int}
  (rule:∀ (i j:Int) (t u:Tok) (s:Shared) (Q:Value→Shared→Prop) (E:Value→Shared→Prop),C i j→Q (.int (g i j) s.toks) { s with toks:=s.toks+1 }→wpAny (model X.prog X.w) X.A (f (.int i t) (.int j u)) Q E s) :
  OpR X f (rI C fun i j=>.int (g i j)):=by
 intro pins s σ H x y v u Q I rx ry h;obtain ⟨i,j,rfl,rfl,hc,q⟩:=h;obtain ⟨t,rfl⟩:=rx;obtain ⟨t',rfl⟩:=ry;exact rule i j t t' s _ _ hc ⟨.int (g i j),H,I.tok _,⟨_,rfl⟩,q⟩
theorem opI0 {f:Value→Value→Sem Value} {g:Int→Int→Int}
  (rule:∀ (i j:Int) (t u:Tok) (s:Shared) (Q:Value→Shared→Prop) (E:Value→Shared→Prop),Q (.int (g i j) s.toks) { s with toks:=s.toks+1 }→wpAny (model X.prog X.w) X.A (f (.int i t) (.int j u)) Q E s) :
  OpR X f (rI0 fun i j=>.int (g i j)):=by
 intro pins s σ H x y v u Q I rx ry h;obtain ⟨i,j,rfl,rfl,q⟩:=h;obtain ⟨t,rfl⟩:=rx;obtain ⟨t',rfl⟩:=ry;exact rule i j t t' s _ _ ⟨.int (g i j),H,I.tok _,⟨_,rfl⟩,q⟩
theorem opB0 {f:Value→Value→Sem Value} {g:Int→Int→Bool}
  (rule:∀ (i j:Int) (t u:Tok) (s:Shared) (Q:Value→Shared→Prop) (E:Value→Shared→Prop),Q (.bool (g i j)) s→wpAny (model X.prog X.w) X.A (f (.int i t) (.int j u)) Q E s) :
  OpR X f (rI0 fun i j=>.bl (g i j)):=by
 intro pins s σ H x y v u Q I rx ry h;obtain ⟨i,j,rfl,rfl,q⟩:=h;obtain ⟨t,rfl⟩:=rx;obtain ⟨t',rfl⟩:=ry;exact rule i j t t' s _ _ ⟨.bl (g i j),H,I,rfl,q⟩
def CDiv (i j:Int):Prop:=0<j∧j<1073741824
def CPow (i j:Int):Prop:=0≤j∧j≤1000000∧i.natAbs<2^64
theorem two_pow_nn (k:Nat):(0:Int)≤2^k:=by
 rw [two_pow_cast];exact Int.natCast_nonneg _
theorem Qz:OpR X (binaryOp .Add) (rI0 fun i j=>.int (i+j)):=opI0 fun _ _ _ _ _ _ _ q=>add_int q
theorem Yk:OpR X (binaryOp .Sub) (rI0 fun i j=>.int (i - j)):=opI0 fun _ _ _ _ _ _ _ q=>sub_int q
theorem k9:OpR X (binaryOp .Mod) (rI (fun _ j=>0<j) fun i j=>.int (i%j)):=opI fun i j _ _ _ _ _ hc q=>by
 have h1:(0:Int)<j:=hc;exact mod_int' (by omega) (by rw [Int.fmod_eq_emod_of_nonneg i (by omega)]; exact q)
theorem V0:OpR X (binaryOp .Pow) (rI CPow fun i j=>.int (i^j.toNat)):=opI fun _ _ _ _ _ _ _ hc q=>pow_int_small hc.1 hc.2.1 hc.2.2 q
theorem op_shr:OpR X (binaryOp .RShift) (rI (fun _ j=>0≤j) fun i j=>.int (i/2^j.toNat)):=opI fun i j _ _ _ _ _ hc q =>
 rshift_int hc (by rw [Int.fdiv_eq_ediv_of_nonneg i (two_pow_nn _)]; exact q)
theorem unI {f:Value→Sem Value} {g:Int→Int}
  (rule:∀ (i:Int) (t:Tok) (s:Shared) (Q:Value→Shared→Prop) (E:Value→Shared→Prop),Q (.int (g i) s.toks) { s with toks:=s.toks+1 }→wpAny (model X.prog X.w) X.A (f (.int i t)) Q E s) :
  UnR X f (rU fun i=>.int (g i)):=by
 intro pins s σ H x v Q I rx h;obtain ⟨i,rfl,q⟩:=h;obtain ⟨t,rfl⟩:=rx;exact rule i t s _ _ ⟨.int (g i),H,I.tok _,⟨_,rfl⟩,q⟩
theorem wZ:UnR X (unaryOp .USub) (rU fun i=>.int (-i)):=unI fun _ _ _ _ _ q=>neg_int q
end
def scal:V→V→Bool
 | .non,.non=>true | .non,.int _=>true | .int _,.non=>true | .non,.bl _=>true | .bl _,.non=>true | .non,.str _=>true | .str _,.non=>true
 | .int _,.int _=>true | .bl _,.bl _=>true | .str _,.str _=>true | .byt _,.byt _=>true
 | .int _,.str _=>true | .str _,.int _=>true | .bl _,.str _=>true | .str _,.bl _=>true
 | _,_=>false
def rEq:R2:=fun x y H Q=>scal x y=true∧Q (.bl (decide (x=y))) H
def rNe:R2:=fun x y H Q=>scal x y=true∧Q (.bl (!decide (x=y))) H
theorem dec_int {i j:Int}:decide (V.int i=V.int j)=(i==j):=by
 rw [Bool.eq_iff_iff]
 simp
theorem dec_bl {i j:Bool}:decide (V.bl i=V.bl j)=(i==j):=by
 rw [Bool.eq_iff_iff]
 simp
theorem dec_str {i j:Str}:decide (V.str i=V.str j)=(i==j):=by
 rw [Bool.eq_iff_iff]
 simp
theorem dec_byt {i j:Array UInt8}:decide (V.byt i=V.byt j)=(i.toList==j.toList):=by
 rw [Bool.eq_iff_iff]
 cases i
 cases j
 simp
section
variable {X:Cx} {a b c:Expr} {ta tb tc:TE} {pos:Pos}
theorem jq {pins:List (Addr×Obj)} {σ:St} {H:Hp} {s:Shared} {Q:VK} {k k':Bool} (I:Inv X pins σ H s) (q:Q (.bl k) H) (e:k=k'):EP X pins σ Q (.bool k') s:=by
 subst e;exact ⟨.bl k,H,I,rfl,q⟩
theorem op_eq:OpR X (compareOp .Eq) rEq:=by
 intro pins s σ H x y v u Q I rx ry h;obtain ⟨hs,q⟩:=h
 cases x with
 | non =>
  cases rx
  cases y with
  | non=>cases ry; exact PySem.EqNone.eq_none_none (jq I q (by simp))
  | bl j=>cases ry; exact PySem.EqNone.eq_none_bool (jq I q (by simp))
  | int j=>obtain ⟨t',rfl⟩:=ry; exact PySem.EqNone.eq_none_int (jq I q (by simp))
  | str j=>obtain ⟨t',rfl⟩:=ry; exact PySem.EqNone.eq_none_str (jq I q (by simp))
  | _=>exact absurd (show false=true from hs) Bool.false_ne_true
 | bl i =>
  cases rx
  cases y with
  | non=>cases ry; exact PySem.EqNone.eq_bool_none (jq I q (by simp))
  | bl j=>cases ry; exact eq_bool (jq I q dec_bl)
  | str j=>obtain ⟨t',rfl⟩:=ry; exact PySem.EqMixed.eq_bool_str (jq I q (by simp))
  | _=>exact absurd (show false=true from hs) Bool.false_ne_true
 | int i =>
  obtain ⟨t,rfl⟩:=rx
  cases y with
  | non=>cases ry; exact PySem.EqNone.eq_int_none (jq I q (by simp))
  | int j=>obtain ⟨t',rfl⟩:=ry; exact eq_int (jq I q dec_int)
  | str j=>obtain ⟨t',rfl⟩:=ry; exact PySem.EqMixed.eq_int_str (jq I q (by simp))
  | _=>exact absurd (show false=true from hs) Bool.false_ne_true
 | str i =>
  obtain ⟨t,rfl⟩:=rx
  cases y with
  | non=>cases ry; exact PySem.EqNone.eq_str_none (jq I q (by simp))
  | bl j=>cases ry; exact PySem.EqMixed.eq_str_bool (jq I q (by simp))
  | int j=>obtain ⟨t',rfl⟩:=ry; exact PySem.EqMixed.eq_str_int (jq I q (by simp))
  | str j=>obtain ⟨t',rfl⟩:=ry; exact eq_str (jq I q dec_str)
  | _=>exact absurd (show false=true from hs) Bool.false_ne_true
 | byt i =>
  obtain ⟨t,rfl⟩:=rx
  cases y with
  | byt j=>obtain ⟨t',rfl⟩:=ry; exact PySem.W.eq_bytes (jq I q dec_byt)
  | _=>exact absurd (show false=true from hs) Bool.false_ne_true
 | _=>cases y <;> exact absurd (show false=true from hs) Bool.false_ne_true
theorem op_ne:OpR X (compareOp .NotEq) rNe:=by
 intro pins s σ H x y v u Q I rx ry h;obtain ⟨hs,q⟩:=h
 cases x with
 | non =>
  cases rx
  cases y with
  | non=>cases ry; exact PySem.EqNone.ne_none_none (jq I q (by simp))
  | bl j=>cases ry; exact PySem.EqNone.ne_none_bool (jq I q (by simp))
  | int j=>obtain ⟨t',rfl⟩:=ry; exact PySem.EqNone.ne_none_int (jq I q (by simp))
  | str j=>obtain ⟨t',rfl⟩:=ry; exact PySem.EqNone.ne_none_str (jq I q (by simp))
  | _=>exact absurd (show false=true from hs) Bool.false_ne_true
 | bl i =>
  cases rx
  cases y with
  | non=>cases ry; exact PySem.EqNone.ne_bool_none (jq I q (by simp))
  | bl j=>cases ry; exact ne_bool (jq I q (congrArg not dec_bl))
  | str j=>obtain ⟨t',rfl⟩:=ry; exact PySem.EqMixed.ne_bool_str (jq I q (by simp))
  | _=>exact absurd (show false=true from hs) Bool.false_ne_true
 | int i =>
  obtain ⟨t,rfl⟩:=rx
  cases y with
  | non=>cases ry; exact PySem.EqNone.ne_int_none (jq I q (by simp))
  | int j=>obtain ⟨t',rfl⟩:=ry; exact ne_int (jq I q (congrArg not dec_int))
  | str j=>obtain ⟨t',rfl⟩:=ry; exact PySem.EqMixed.ne_int_str (jq I q (by simp))
  | _=>exact absurd (show false=true from hs) Bool.false_ne_true
 | str i =>
  obtain ⟨t,rfl⟩:=rx
  cases y with
  | non=>cases ry; exact PySem.EqNone.ne_str_none (jq I q (by simp))
  | bl j=>cases ry; exact PySem.EqMixed.ne_str_bool (jq I q (by simp))
  | int j=>obtain ⟨t',rfl⟩:=ry; exact PySem.EqMixed.ne_str_int (jq I q (by simp))
  | str j=>obtain ⟨t',rfl⟩:=ry; exact ne_str (jq I q (congrArg not dec_str))
  | _=>exact absurd (show false=true from hs) Bool.false_ne_true
 | byt i =>
  obtain ⟨t,rfl⟩:=rx
  cases y with
  | byt j=>obtain ⟨t',rfl⟩:=ry; exact PySem.W.ne_bytes (jq I q (congrArg not dec_byt))
  | _=>exact absurd (show false=true from hs) Bool.false_ne_true
 | _=>cases y <;> exact absurd (show false=true from hs) Bool.false_ne_true
theorem op_lt:OpR X (compareOp .Lt) (rI0 fun i j=>.bl (decide (i<j))):=opB0 fun _ _ _ _ _ _ _ q=>lt_int q
theorem op_gt:OpR X (compareOp .Gt) (rI0 fun i j=>.bl (decide (j<i))):=opB0 fun _ _ _ _ _ _ _ q=>gt_int q
theorem op_ge:OpR X (compareOp .GtE) (rI0 fun i j=>.bl (decide (j≤i))):=opB0 fun _ _ _ _ _ _ _ q=>ge_int q
theorem V1:OpR X (compareOp .Is) (fun x y H Q=>y=.non∧Q (.bl (decide (x=.non))) H):=by
 intro pins s σ H x y v u Q I rx ry h;obtain ⟨rfl,q⟩:=h
 cases ry
 refine is_none_gen (jq I q ?_)
 cases x <;> first
  | (cases rx; rfl)
  | (obtain ⟨t,rfl⟩:=rx; rfl)
theorem op_notN:OpR X (compareOp .IsNot) (fun x y H Q=>y=.non∧Q (.bl (!decide (x=.non))) H):=by
 intro pins s σ H x y v u Q I rx ry h;obtain ⟨rfl,q⟩:=h
 cases ry
 refine isnot_none_gen (jq I q ?_)
 cases x <;> first
  | (cases rx; rfl)
  | (obtain ⟨t,rfl⟩:=rx; rfl)
theorem zv (b:Expr) {op:CmpOp} (h:op≠.In:=by decide) (h2:op≠.NotIn:=by decide):behindInMarks op b=false:=by
 have e1:(op==CmpOp.In)=false:=by cases op <;> first | rfl | exact absurd rfl h
 have e2:(op==CmpOp.NotIn)=false:=by cases op <;> first | rfl | exact absurd rfl h2
 cases b <;> simp [behindInMarks,e1,e2]
theorem Qq {op:CmpOp} {r:R2} (ho:OpR X (compareOp op) r) (ha:PE X a ta) (hb:PE X b tb) (hm:behindInMarks op b=false):PE X (.Compare a [op] [b] pos) (tOp r ta tb):=by
 intro pins s σ H Q I h;exact wpAny_Compare1 (binT ha hb I h fun v u s2 x y H2 I2 rx ry q=>ho pins s2 σ H2 x y v u Q I2 rx ry q) hm
def tTest (t:TE):TT:=fun σ H Q=>t σ H fun x H'=>∃ k,x=.bl k∧Q k H'
theorem zj {op:CmpOp} {r:R2} (ho:OpR X (compareOp op) r) (ha:PE X a ta) (hb:PE X b tb) (hm:behindInMarks op b=false):PT X (.Compare a [op] [b] pos) (tTest (tOp r ta tb)):=by
 intro pins s σ H Q I h;refine wpAny_isTrue_Compare1 (thn (ha pins s σ H _ I h) fun v s1 ⟨x,H1,I1,r1,q1⟩=>thn (hb pins s1 σ H1 _ I1 q1) fun u s2 ⟨y,H2,I2,r2,q2⟩ =>
  thn (ho pins s2 σ H2 x y v u _ I2 r1 r2 q2) fun c s3 ⟨z,H3,I3,r3,k,e,q3⟩=>?_) hm
 subst e
 cases r3
 exact wpAny_truthy_bool ⟨H3,I3,q3⟩
theorem line63:(sizeLine:Nat)<2^63:=by rw [sizeLine_eq]; decide
theorem vals1 {x:V} {us:List Value} (r:Vals [x] us):∃ u,us=[u]∧RelV x u:=by
 cases r with
 | cons r1 r2=>cases r2; exact ⟨_,rfl,r1⟩
theorem vals2 {x y:V} {us:List Value} (r:Vals [x,y] us):∃ u w',us=[u,w']∧RelV x u∧RelV y w':=by
 cases r with
 | cons r1 r2 =>
  cases r2 with
  | cons r3 r4=>cases r4; exact ⟨_,_,rfl,r1,r3⟩
theorem Zy:CallR X (.builtin "abs") (fun xs H Q=>∃ i,xs=[.int i]∧Q (.int (if i<0 then -i else i)) H):=by
 intro pins s σ H xs us Q I r h;obtain ⟨i,rfl,q⟩:=h;obtain ⟨u,rfl,t,rfl⟩:=vals1 r;exact call_abs_int fun u tk=>⟨.int (if i<0 then -i else i),H,I.tok _,⟨_,rfl⟩,q⟩
theorem call_int1:CallR X (.type "int") (fun xs H Q=>(∃ i,xs=[.int i]∧Q (.int i) H)∨∃ k,xs=[.bl k]∧Q (.int (if k then 1 else 0)) H):=by
 intro pins s σ H xs us Q I r h
 rcases h with ⟨i,rfl,q⟩ | ⟨k,rfl,q⟩
 ·obtain ⟨u,rfl,t,rfl⟩:=vals1 r
  exact call_int_int ⟨.int i,H,I,⟨_,rfl⟩,q⟩
 ·obtain ⟨u,rfl,r1⟩:=vals1 r
  cases r1
  exact call_int_bool ⟨.int (if k then 1 else 0),H,I.tok _,⟨_,rfl⟩,q⟩
theorem Yz:CallR X (.builtin "divmod") (fun xs H Q=>∃ i j,xs=[.int i,.int j]∧CDiv i j∧∀ p,H p=none→Q (.ref p) (upd H p (.tup [.int (i/j),.int (i%j)]))):=by
 intro pins s σ H xs us Q I r h;obtain ⟨i,j,rfl,⟨h1,h2⟩,q⟩:=h;obtain ⟨u,w',rfl,⟨t,rfl⟩,⟨t',rfl⟩⟩:=vals2 r;refine divmod_int (by omega) ?_ (.inl (PyProof.noPylong_small (by omega)));rw [Int.fdiv_eq_ediv_of_nonneg i (by omega),Int.fmod_eq_emod_of_nonneg i (by omega)];have hn:H s.heap.objs.size=none:=I.hok.fresh (Nat.le_refl _);refine ⟨.ref s.heap.objs.size,_,?_,rfl,q _ hn⟩;refine I.laid (fun b o e=>Heap.get?_push_of_some _ e) (Nat.le_refl _) ⟨by simp only [List.length_cons,List.length_nil]; rw [sizeLine_eq]; decide,[.int (i/j) s.toks,.int (i%j) (s.toks+1)],.cons ⟨_,rfl⟩ (.cons ⟨_,rfl⟩ .nil),?_⟩;exact ⟨_,Heap.get?_push_size s.heap rfl,rfl,0,rfl⟩
end
end L2
namespace L2
open PySem PySem.Spec PyProof.Rows
structure ObjM (h:Heap) (x dx C:Addr) (mA:Str→Option Value):Prop where
 obj:h.get? x=some (PySem.W.instObj C dx)
 ns:h.Ns1 dx mA
 ne:dx≠x
theorem lookIn_ns {h:Heap} {dx:Addr} {mA:Str→Option Value} (n:h.Ns1 dx mA):∃ od,h.get? dx=some od∧∀ name,PySem.W.lookIn name od=some (mA name):=by
 obtain ⟨o,es,ep,ho,hd,hk,_,hm⟩:=n;refine ⟨o,ho,fun name=>?_⟩;have e:=hm name;unfold nsFind findBy at e;rw [← Array.find?_toList] at e;unfold PySem.W.lookIn;rw [hd];dsimp only
 split
 ·rename_i y q
  rw [q] at e;exact congrArg some e
 ·rename_i q
  rw [q] at e;have a:es.toList.any (·.refKey)=false:=by
   rw [List.any_eq_false];intro y hy;obtain ⟨z,t,hkey⟩:=hk y (Array.mem_toList_iff.mp hy)
   simp [DictEntry.refKey,hkey]
  have a':¬ es.toList.any (·.refKey)=true:=by rw [a]; exact Bool.false_ne_true
  rw [if_neg a'];exact congrArg some e
theorem ObjM.look {h:Heap} {x dx C:Addr} {mA:Str→Option Value} (I:ObjM h x dx C mA):∃ od,PySem.W.InstAt h x (PySem.W.instObj C dx) C (some od)∧∀ name,PySem.W.lookIn name od=some (mA name) :=
 let ⟨od,ho,hl⟩:=lookIn_ns I.ns
 ⟨od,⟨I.obj,rfl,rfl,ho⟩,hl⟩
section
variable {prog:Program} {w:World} {A:Around} {E:Value→Shared→Prop} {s:Shared} {K:Bc} {x dx C f:Addr} {mA:Str→Option Value} {name:Str} {v:Value}
theorem get_map {expr:Bool} {Q:Value→Shared→Prop} (X:K.In s.heap) (I:ObjM s.heap x dx C mA) (hg:PySem.W.plainGet K C name=true) (hh:PySem.W.hasDictIn K C=true)
  (ha:PySem.W.findIn K (.ref C) name=some none) (hv:mA name=some v) (hv':PySem.W.handedIn v=true) (h:Q v { s with toks:=s.toks+1 }) :
  wpAny (model prog w) A (getAttr (.ref x) name expr) Q E s:=by
 obtain ⟨od,J,hl⟩:=I.look;exact PySem.W.get_value X J (PySem.W.plainGet_of hg).1 (PySem.W.findObj_own hh ha rfl (by rw [hl,hv])) hv' h
theorem get_meth {pl:Sem Bool} {Q:Value×List Value→Shared→Prop} (X:K.In s.heap) (I:ObjM s.heap x dx C mA) (hg:PySem.W.plainGet K C name=true)
  (hf:PySem.W.findIn K (.ref C) name=some (some (.ref f))) (ht:PySem.W.isFn K (.ref f)=true) (hv:mA name=none) (h:Q (.ref f,[.ref x]) s) :
  wpAny (model prog w) A (getMethod (.ref x) name pl) Q E s:=by
 obtain ⟨od,J,hl⟩:=I.look;exact PySem.W.method_fn X J (PySem.W.plainGet_of hg).1 (PySem.W.plainGet_of hg).2 hf (beq_iff_eq.mp ht) (by show (PySem.W.lookIn name od).map (·.isSome)=some false; rw [hl,hv]; rfl) h
theorem set_map {ns:List Str} {Q:Unit→Shared→Prop} (X:K.In s.heap) (I:ObjM s.heap x dx C mA)
  (hs:PySem.W.findIn K (.ref C) "__setattr__" = some (some (.builtin "object.__setattr__"))) (hp:PySem.W.plainOver K C=true) (ht:PySem.W.takerIn K C name=some none) (hh:PySem.W.hasDictIn K C=true)
  (hw:PySem.Within mA ns) (hsz:ns.length≤sizeLine)
  (h:∀ h',ObjM h' x dx C (fun y=>if y=name then some v else mA y)→Heap.SameBut dx s.heap h'→Q () { s with heap:=h',toks:=s.toks+2 }) :
  wpAny (model prog w) A (setAttr (.ref x) name v) Q E s:=by
 obtain ⟨od,J,hl⟩:=I.look;refine PySem.W.set_plain X J hs (PySem.W.osa_open (s:={ s with toks:=s.toks+1 }) (r:=none) X J hp ht fun b=>?_);obtain ⟨cd,hc,hd'⟩:=PySem.W.any_some hh;have hx:s.heap.get? x=some ⟨.ref C,some dx,.plain,#[]⟩:=I.obj;refine wpAny_bind (wpAny_pure (wpAny_bind (wpAny_bind (wpAny_loadPart hx (wpAny_bind (PySem.W.Looks.here (s:={ s with toks:=s.toks+1 }) (PySem.W.looks_clsIn X hc) ?_))))));rw [hd'];refine wpAny_pure (a:=some dx) (wpAny_bind (wpAny_pure (wpAny_bind ?_)));refine wpAny_nsSet1 (s:={ s with toks:=s.toks+1 }) I.ns fun h' hn2 hs2=>?_
 obtain ⟨oD,esD,epD,hoD,hdD,hcD⟩:=hn2.count (PySem.Within.cons name v hw);refine wpAny_bind (wpAny_lookBehind hoD (by rw [hdD]; exact pastItsLine_dict (Ba hcD (by rw [List.length_cons]; omega))) ?_);exact wpAny_pure (h _ ⟨(hs2.2 _ (Ne.symm I.ne)).trans I.obj,hn2,I.ne⟩ hs2)
theorem make_map {R:Result→Shared→Prop} {vs:List Value} {kw:List (Str×Value)} (X:K.In s.heap) (hm:PySem.W.makesIn K C=true)
  (hi:PySem.W.findIn K (.ref C) "__init__" = some (some (.ref f))) (hf:PySem.W.typeIn K (.ref f)=some (.type "function"))
  (h:codeAny (model prog w) (A.under (.builtin "type.__call__" ⟨.ref C::vs,kw⟩)) (.call (.ref f) ⟨.ref (s.heap.objs.size+1)::vs,kw⟩) (PySem.W.InitBack (s.heap.objs.size+1) R)
   { s with heap:=(s.heap.push PySem.W.emptyDict).push (PySem.W.instObj C s.heap.objs.size) }) :
  codeAny (model prog w) A (.call (.ref C) ⟨vs,kw⟩) R s:=by
 obtain ⟨hh,g,d,t,os⟩:=s;exact PySem.W.make_core (PySem.W.makes_of X hm) (PySem.W.looks_findIn X hi) (fun self=>PySem.W.bind_fn X self hf) (.inl rfl) h
end
def putF (f:Str) (v:V):List (Str×V)→List (Str×V)
 | []=>[(f,v)]
 | (g,x)::r=>if g=f then (g,v)::r else (g,x)::putF f v r
theorem lookup_putF (f g:Str) (v:V):∀ fs:List (Str×V),(putF f v fs).lookup g=if g=f then some v else fs.lookup g
 | []=>by
  show List.lookup g [(f,v)]=_
  by_cases h:g=f
  ·have hb:(g==f)=true:=beq_iff_eq.mpr h
   simp only [List.lookup,hb,if_pos h]
  ·have hb:(g==f)=false:=beq_eq_false_iff_ne.mpr h
   simp only [List.lookup,hb,if_neg h]
 | (k,x)::r=>by
  have ih:=lookup_putF f g v r;rw [show putF f v ((k,x)::r)=(if k=f then (k,v)::r else (k,x)::putF f v r) from rfl]
  by_cases hk:k=f
  ·rw [if_pos hk]
   by_cases h:g=k
   ·have hb:(g==k)=true:=beq_iff_eq.mpr h
    simp only [List.lookup,hb,if_pos (h.trans hk)]
   ·have hb:(g==k)=false:=beq_eq_false_iff_ne.mpr h
    simp only [List.lookup,hb,if_neg (fun e:g=f=>h (e.trans hk.symm))]
  ·rw [if_neg hk]
   by_cases h:g=k
   ·have hb:(g==k)=true:=beq_iff_eq.mpr h
    simp only [List.lookup,hb,if_neg (fun e:g=f=>hk (h.symm.trans e))]
   ·have hb:(g==k)=false:=beq_eq_false_iff_ne.mpr h
    simp only [List.lookup,hb]
    exact ih
theorem keys_putF (f:Str) (v:V):∀ fs:List (Str×V),f∈(putF f v fs).map (·.1)∧∀ g,g∈fs.map (·.1)→g∈(putF f v fs).map (·.1)
 | []=>⟨by simp [putF],fun g h=>by simp at h⟩
 | (k,x)::r=>by
  obtain ⟨i1,i2⟩:=keys_putF f v r;rw [show putF f v ((k,x)::r)=(if k=f then (k,v)::r else (k,x)::putF f v r) from rfl]
  by_cases hk:k=f
  ·rw [if_pos hk]
   subst hk;exact ⟨by simp,fun g h=>by simpa using h⟩
  ·rw [if_neg hk]
   refine ⟨?_,fun g h=>?_⟩
   ·rw [List.map_cons]
    exact List.mem_cons_of_mem _ i1
   ·rw [List.map_cons] at h ⊢
    rcases List.mem_cons.mp h with e | e
    ·exact List.mem_cons.mpr (.inl e)
    ·exact List.mem_cons_of_mem _ (i2 g e)
theorem length_putF (f:Str) (v:V):∀ fs:List (Str×V),(putF f v fs).length≤fs.length+1
 | []=>by simp [putF]
 | (k,x)::r=>by
  have ih:=length_putF f v r;rw [show putF f v ((k,x)::r)=(if k=f then (k,v)::r else (k,x)::putF f v r) from rfl]
  by_cases hk:k=f
  ·rw [if_pos hk,List.length_cons,List.length_cons]; omega
  ·rw [if_neg hk,List.length_cons,List.length_cons]; omega
theorem RelO.some_of {v:V} {o:Option Value} (r:RelO (some v) o):∃ u,o=some u∧RelV v u:=by
 cases o with
 | none=>exact (show False from r).elim
 | some u=>exact ⟨u,rfl,r⟩
theorem RelO.none_of {o:Option Value} (r:RelO none o):o=none:=by
 cases o with
 | none=>rfl
 | some u=>exact (show False from r).elim
theorem handed_of {v:V} {u:Value} (r:RelV v u):PySem.W.handedIn u=true:=by
 cases v with
 | non=>cases (show u=Value.none from r); rfl
 | bl b=>cases (show u=Value.bool b from r); rfl
 | int i=>obtain ⟨t,e⟩:=(show ∃ t,u=Value.int i t from r); cases e; rfl
 | str x=>obtain ⟨t,e⟩:=(show ∃ t,u=Value.str x t from r); cases e; rfl
 | byt b=>obtain ⟨t,e⟩:=(show ∃ t,u=Value.bytes b t from r); cases e; rfl
 | flt b=>obtain ⟨t,e⟩:=(show ∃ t,u=Value.float b t from r); cases e; rfl
 | ref a=>cases (show u=Value.ref a from r); rfl
 | ty n=>cases (show u=Value.type n from r); rfl
section
variable {P:Program} {w:World} {H H':Hp} {h h':Heap} {a C dx:Addr} {fs fs':List (Str×V)}
theorem ins_get (hok:HOk P w H h) (e:H a=some (.ins C dx fs)):∃ mA,ObjM h a dx C mA∧(∀ f,RelO (fs.lookup f) (mA f))∧PySem.Within mA (fs.map (·.1))∧fs.length≤1000∧H dx=some (.own a):=by
 obtain ⟨d,z,ne,ob,mA,n,r,q⟩:=(show ObjOk P w H h a (.ins C dx fs) from hok a _ e);exact ⟨mA,⟨ob,n,ne⟩,r,q,z,d⟩
end
structure Cls (K:Bc) (C:Addr):Prop where
 pg:PySem.W.plainGet K C Str.empty=true
 hd:PySem.W.hasDictIn K C=true
 po:PySem.W.plainOver K C=true
 sa:PySem.W.findIn K (.ref C) "__setattr__" = some (some (.builtin "object.__setattr__"))
theorem Cls.get {K:Bc} {C:Addr} (c:Cls K C) (f:Str):PySem.W.plainGet K C f=true:=c.pg
def Q8 (K:Bc) (C:Addr) (f:Str):Prop:=PySem.W.findIn K (.ref C) f=some none
theorem Q8.taker {K:Bc} {C:Addr} {f:Str} (n:Q8 K C f):PySem.W.takerIn K C f=some none:=by
 unfold PySem.W.takerIn;rw [show PySem.W.findIn K (.ref C) f=some none from n];rfl
structure Con (K:Bc) (C:Addr) (f:Str) (v:V) (u:Value):Prop where
 at_:PySem.W.findIn K (.ref C) f=some (some u)
 rel:RelV v u
 get:PySem.W.specialIn K u "__get__" = some none
 cp:PySem.W.copiedNames.contains f=false
structure Meth (K:Bc) (C:Addr) (m:Str) (f:Addr):Prop where
 at_:PySem.W.findIn K (.ref C) m=some (some (.ref f))
 fn:PySem.W.isFn K (.ref f)=true
 kp:PySem.W.keepIn K (.ref f)=true
section
variable {X:Cx} {pins:List (Addr×Obj)} {σ:St} {H:Hp} {s:Shared} {a C dx:Addr} {fs:List (Str×V)} {f:Str} {v:V} {A:Around} {E:Value→Shared→Prop}
theorem getattr_ok {b:Bool} {Q:Value→Shared→Prop} (I:Inv X pins σ H s) (e:H a=some (.ins C dx fs)) (c:Cls X.K C) (n:Q8 X.K C f) (l:fs.lookup f=some v)
  (h:∀ u s',Inv X pins σ H s'→RelV v u→Q u s'):wpAny (model X.prog X.w) A (getAttr (.ref a) f b) Q E s:=by
 obtain ⟨mA,O,r,_,_,_⟩:=ins_get I.hok e;obtain ⟨u,hu,ru⟩:=RelO.some_of (v:=v) (o:=mA f) (by rw [← l]; exact r f);exact get_map I.kIn O (c.get f) c.hd n hu (handed_of ru) (h u _ (I.tok _) ru)
theorem getmeth_ok {m:Str} {g:Addr} {pl:Sem Bool} {Q:Value×List Value→Shared→Prop} (I:Inv X pins σ H s) (e:H a=some (.ins C dx fs)) (c:Cls X.K C) (k:Meth X.K C m g) (l:fs.lookup m=none)
  (h:Q (.ref g,[.ref a]) s):wpAny (model X.prog X.w) A (getMethod (.ref a) m pl) Q E s:=by
 obtain ⟨mA,O,r,_,_,_⟩:=ins_get I.hok e;have hn:mA m=none:=RelO.none_of (by rw [← l]; exact r m);exact get_meth I.kIn O (c.get m) k.at_ k.fn hn h
theorem setattr_ok {y:V} {u:Value} {Q:Unit→Shared→Prop} (I:Inv X pins σ H s) (e:H a=some (.ins C dx fs)) (c:Cls X.K C) (n:Q8 X.K C f) (hl:fs.length<1000) (ry:RelV y u)
  (h:∀ s',Inv X pins σ (upd H a (.ins C dx (putF f y fs))) s'→Q () s'):wpAny (model X.prog X.w) A (setAttr (.ref a) f u) Q E s:=by
 obtain ⟨mA,O,r,wi,_,ho⟩:=ins_get I.hok e;have hz:(fs.map (·.1)).length≤sizeLine:=by rw [Av,sizeLine_eq]; omega
 refine set_map I.kIn O c.sa c.po n.taker c.hd wi hz fun h' O' sb=>h _ ?_
 have hd:∃ o,h'.get? dx=some o:=let ⟨o,_,_,e',_⟩:=O'.ns; ⟨o,e'⟩
 refine I.write (x:=a) (e:=dx) (by rw [e]; exact True.intro) (.inr ho) (fun b q hb z=>(sb.2 b hb).trans z) hd ?_;refine ⟨by rw [zZ O.ne]; exact ho,?_,O.ne,O'.obj,_,O'.ns,fun g=>?_,fun g hg=>?_⟩
 ·have:=length_putF f y fs; omega
 ·show RelO ((putF f y fs).lookup g) (if g=f then some u else mA g)
  rw [lookup_putF]
  by_cases q:g=f
  ·rw [if_pos q,if_pos q]; exact ry
  ·rw [if_neg q,if_neg q]; exact r g
 ·by_cases q:g=f
  ·rw [q]; exact (keys_putF f y fs).1
  ·refine (keys_putF f y fs).2 g (wi g fun z=>hg ?_)
   show (if g=f then some u else mA g)=none;rw [if_neg q]; exact z
theorem Inv.made (I:Inv X pins σ H s):Inv X pins σ (upd (upd H s.heap.objs.size (.own (s.heap.objs.size+1))) (s.heap.objs.size+1) (.ins C s.heap.objs.size []))
  { s with heap:=(s.heap.push PySem.W.emptyDict).push (PySem.W.instObj C s.heap.objs.size) }:=by
 have e1:(s.heap.push PySem.W.emptyDict).get? s.heap.objs.size=some PySem.W.emptyDict:=Heap.get?_push_size s.heap rfl;have e2:((s.heap.push PySem.W.emptyDict).push (PySem.W.instObj C s.heap.objs.size)).get? (s.heap.objs.size+1)=some (PySem.W.instObj C s.heap.objs.size):=by
  have:=Heap.get?_push_size (s.heap.push PySem.W.emptyDict) (o:=PySem.W.instObj C s.heap.objs.size) rfl
  rwa [Heap.size_push] at this
 have e3:(s.heap.push PySem.W.emptyDict).Ns s.heap.objs.size (fun _=>none):=⟨PySem.W.emptyDict,#[],_,e1,rfl,(fun e he=>absurd he (by simp)),fun _=>rfl⟩;have I1:=I.laid (a:=s.heap.objs.size) (o:=.own (s.heap.objs.size+1)) (h':=s.heap.push PySem.W.emptyDict) (t':=s.toks) (fun b u q=>Heap.get?_push_of_some _ q) (Nat.le_refl _) ⟨_,e1⟩;refine I1.laid (a:=s.heap.objs.size+1) (o:=.ins C s.heap.objs.size []) (t':=s.toks) (fun b u q=>Heap.get?_push_of_some _ q) (Nat.le_of_eq (Heap.size_push _ _)) ?_;have ne:s.heap.objs.size≠s.heap.objs.size+1:=Nat.ne_of_lt (Nat.lt_succ_self _);refine ⟨by rw [zZ ne,qj],Nat.zero_le _,ne,e2,fun _=>none,(Heap.Ns1.of_empty e3).at fun o q=>Heap.get?_push_of_some _ q,fun _=>True.intro,fun y hy=>absurd rfl hy⟩
theorem attr_of {prog:Program} {w:World} {env:Env} {e:Expr} {f:Str} {pos:Pos} {s:Shared} {Q:Value→Shared→Prop} (hb:attributeBase e f env (eval e env)=eval e env)
  (h:wpAny (model prog w) A (eval e env) (fun o s₁=>wpAny (model prog w) A (getAttr o f true) Q E s₁) E s):wpAny (model prog w) A (eval (.Attribute e f pos) env) Q E s :=
 Attribute_any_ h (by rw [arm_eval_Attribute,hb])
end
def tFld (K:Bc) (ta:TE) (f:Str):TE:=fun σ H Q=>ta σ H fun x H1=>∃ a C dx fs v,x=.ref a∧H1 a=some (.ins C dx fs)∧Cls K C∧Q8 K C f∧fs.lookup f=some v∧Q v H1
def sFld (K:Bc) (ta tv:TE) (f:Str):TS:=fun D σ H=>tv σ H fun y H1=>ta σ H1 fun x H2=>∃ a C dx fs,x=.ref a∧H2 a=some (.ins C dx fs)∧Cls K C∧Q8 K C f∧fs.length<1000∧D.nx σ (upd H2 a (.ins C dx (putF f y fs)))
section
variable {X:Cx} {o e value:Expr} {f:Str} {pos pos' tpos:Pos} {ta tv:TE}
theorem zk (he:PE X e ta) (hb:attributeBase e f X.env (eval e X.env)=eval e X.env):PE X (.Attribute e f pos) (tFld X.K ta f):=by
 intro pins s σ H Q I h;refine attr_of hb (thn (he pins s σ H _ I h) fun u s1 ⟨x,H1,I1,rx,a,C,dx,fs,v,ex,ea,c,n,l,q⟩=>?_);subst ex;obtain rfl:u=Value.ref a:=rx;exact getattr_ok I1 ea c n l fun u' s2 I2 ru=>⟨v,H1,I2,ru,q⟩
theorem Q5 (ha:PE X o ta) (hv:PE X value tv) (hs:swapsWith value (some (.Attribute o f pos')) pos.line X.env=pure false):PS X (.Assign [.Attribute o f pos'] value pos) (sFld X.K ta tv f):=by
 intro pins s σ H D I h;refine plainObj_wpAny_Assign_Attribute (thn (hv pins s σ H _ I h) fun u s1 ⟨y,H1,I1,ry,q⟩=>thn (ha pins s1 σ H1 _ I1 q) fun ov s2 ⟨x,H2,I2,rx,a,C,dx,fs,ex,ea,c,n,l,q2⟩=>?_) hs;subst ex;obtain rfl:ov=Value.ref a:=rx;exact setattr_ok I2 ea c n l ry fun s3 I3=>⟨σ,_,I3,q2⟩
end
section
variable {X:Cx} {pins:List (Addr×Obj)} {σ:St} {H:Hp} {s:Shared} {A:Around} {E:Value→Shared→Prop} {Q:Value→Shared→Prop} {c:Value} {b:Bool}
inductive TyOf (K:Bc) (H:Hp):V→Value→Prop where
 | non:TyOf K H .non (.type "NoneType")
 | bl (x:Bool):TyOf K H (.bl x) (.type "bool")
 | int (i:Int):TyOf K H (.int i) (.type "int")
 | str (x:Str):TyOf K H (.str x) (.type "str")
 | flt (x:UInt64):TyOf K H (.flt x) (.type "float")
 | lst {a:Addr} {xs:List V} (e:H a=some (.lst xs)):TyOf K H (.ref a) (.type "list")
 | frz {a:Addr} {o:Obj} {xs:List V} (e:H a=some (.frz o (.lst xs))):TyOf K H (.ref a) (.type "list")
 | tup {a:Addr} {xs:List V} (e:H a=some (.tup xs)):TyOf K H (.ref a) (.type "tuple")
 | dK {a:Addr} {kvs:List (Key×V)} (e:H a=some (.dK kvs)):TyOf K H (.ref a) (.type "dict")
 | dT {a:Addr} {kvs:List (List Key×V)} (e:H a=some (.dT kvs)):TyOf K H (.ref a) (.type "dict")
 | ins {a C dx:Addr} {fs:List (Str×V)} (e:H a=some (.ins C dx fs)) (cl:Cls K C) (ha:PySem.W.findIn K (.ref C) "__class__" = some (some (.builtin "object.__class__")))
   (hn:PySem.W.specialIn K (.builtin "object.__class__") "__get__" = some (some (.builtin "getset_descriptor.__get__"))) (htk:PySem.W.takesIn K (.builtin "object.__class__")=some true)
   (hm:PySem.W.mroIn K C (.type "object")=some true):TyOf K H (.ref a) (.ref C)
end
end L2
namespace L2
open PySem PySem.Spec PyProof.Rows
structure Room (k:Nat) (A:Around):Prop where
 hd:A.handled=none
 dp:A.depth+3*k+5<recursionLimit
 un:A.units+16*k+200<cLine
theorem Room.mono {j k:Nat} {A:Around} (r:Room k A) (h:j≤k):Room j A:=⟨r.hd,by have:=r.dp; omega,by have:=r.un; omega⟩
theorem Room.deeper {k:Nat} {A:Around} (r:Room (k+1) A) (env:Env):Room k (A.deeper env) :=
 ⟨r.hd,by have:=r.dp; show A.depth+1+3*k+5<_; omega,by have:=r.un; show A.units+3+16*k+200<_; omega⟩
theorem Room.in1 {k:Nat} {A:Around} (r:Room (k+1) A):Room k A.in1 :=
 ⟨r.hd,by have:=r.dp; show A.depth+3*k+5<_; omega,by have:=r.un; show A.units+1+16*k+200<_; omega⟩
theorem make_depth {A:Around} {C:Addr} {us:List Value} {kw:List (Str×Value)}:(A.under (.builtin "type.__call__" ⟨.ref C::us,kw⟩)).depth=A.depth+1:=by
 first | rfl | simp [Around.under,Code.weight,Code.isCreation,Code.isGuard,Code.isCaller,Code.frames,Code.isFrame,guardIds]
theorem make_units {A:Around} {C:Addr} {us:List Value} {kw:List (Str×Value)}:(A.under (.builtin "type.__call__" ⟨.ref C::us,kw⟩)).units=A.units+1:=by
 first | rfl | simp [Around.under,Code.cUnits,Code.frames,Code.isFrame]
theorem Room.make {k:Nat} {A:Around} (r:Room (k+1) A) (C:Addr) (us:List Value) (kw:List (Str×Value)):Room k (A.under (.builtin "type.__call__" ⟨.ref C::us,kw⟩)) :=
 ⟨r.hd,by have:=r.dp; rw [make_depth]; omega,by have:=r.un; rw [make_units]; omega⟩
theorem Room.depth {k:Nat} {A:Around} (r:Room k A):A.depth<recursionLimit:=by have:=r.dp; omega
theorem Room.units {k:Nat} {A:Around} (r:Room k A):A.units+64<cLine:=by have:=r.un; omega
def tNil:TA:=fun _ H Q=>Q [] H
def tCons (ta:TE) (tr:TA):TA:=fun σ H Q=>ta σ H fun x H1=>tr σ H1 fun xs H2=>Q (x::xs) H2
section
variable {X:Cx} {e:Expr} {es:List Expr} {te:TE} {t:TA} {pos:Pos}
theorem qk:PA X [] tNil:=fun _ _ _ _ H Q I h=>Calls.spliced_nil ⟨[],H,I,.nil,h⟩
theorem pa_cons (ha:PE X e te) (hr:PA X es t) (hs:starEach (e::es) X.env=(false,eval e X.env)::starEach es X.env:=by rfl):PA X (e::es) (tCons te t):=by
 intro pos pins s σ H Q I h;rw [hs];show wpAny _ _ (spliced ((false,eval e X.env)::backTo pos (starEach es X.env))) _ _ s;refine Calls.spliced_cons (thn (ha pins s σ H _ I h) fun u s1 ⟨x,H1,I1,r1,q1⟩=>?_);exact thn (hr pos pins s1 σ H1 _ I1 q1) fun us s2 ⟨xs,H2,I2,r2,q2⟩=>⟨x::xs,H2,I2,.cons r1 r2,q2⟩
def tTup (t:TA):TE:=fun σ H Q=>t σ H fun xs H1=>xs.length≤sizeLine∧∀ p,H1 p=none→Q (.ref p) (upd H1 p (.tup xs))
def tLst (t:TA):TE:=fun σ H Q=>t σ H fun xs H1=>xs.length≤sizeLine∧∀ p,H1 p=none→Q (.ref p) (upd H1 p (.lst xs))
theorem j4 {x1} (h:PA X es t):PE X (.Tuple es x1 pos) (tTup t):=by
 intro pins s σ H Q I hq;refine wpAny_Tuple_spliced (thn (h pos pins s σ H _ I hq) fun us s1 ⟨xs,H1,I1,r,z,q⟩=>⟨by rw [← r.length]; exact z,?_⟩);have hf:H1 s1.heap.objs.size=none:=I1.hok.fresh (Nat.le_refl _);refine ⟨.ref s1.heap.objs.size,upd H1 s1.heap.objs.size (.tup xs),I1.laid (t':=s1.toks) (fun b u e=>Heap.get?_push_of_some _ e) (Nat.le_refl _) ?_,rfl,q _ hf⟩;exact ⟨z,us,r,⟨_,Heap.get?_push_size _ rfl,rfl,_,rfl⟩⟩
theorem w5 (h:PA X es t):PE X (.List es pos) (tLst t):=by
 intro pins s σ H Q I hq;refine wpAny_List_spliced (thn (h pos pins s σ H _ I hq) fun us s1 ⟨xs,H1,I1,r,z,q⟩=>⟨by rw [← r.length]; exact z,?_⟩);have hf:H1 s1.heap.objs.size=none:=I1.hok.fresh (Nat.le_refl _);refine ⟨.ref s1.heap.objs.size,upd H1 s1.heap.objs.size (.lst xs),I1.laid (t':=s1.toks) (fun b u e=>Heap.get?_push_of_some _ e) (Nat.le_refl _) ?_,rfl,q _ hf⟩;exact ⟨z,us,0,r,Heap.get?_push_size _ rfl⟩
end
abbrev Sp:=List V→Hp→VK→XK→Prop
abbrev CXT:=List Env→Hp→Shared→XK→Value→Shared→Prop
structure Env0 (P:Program) (w:World) (K:Bc) (mg:Str→Option Value) (base:Heap) (A:Around) (outer:List Env) (s:Shared) (H:Hp):Prop where
 frames:A.frames=some outer
 mod:Mod K mg base
 bs:∀ b o,base.get? b=some o→s.heap.get? b=some o∧H b=none
 bsz:base.objs.size≤s.heap.objs.size
 funs:s.heap.FunFrames base outer
 frf:∀ b∈frs outer,H b=none
 hok:HOk P w H s.heap
 bare:AllBare s.gens
def CE (outer:List Env) (P:Program) (w:World) (H:Hp) (s:Shared) (Q:VK) (u:Value) (s':Shared):Prop :=
 ∃ v H',s'.os=s.os∧AllBare s'.gens∧Un (frs outer) [] H H' s.heap s'.heap∧HOk P w H' s'.heap∧RelV v u∧Q v H'
def CR (CX:CXT) (outer:List Env) (P:Program) (w:World) (H:Hp) (s:Shared) (Q:VK) (E:XK) (r:Result) (s':Shared):Prop :=
 match r with
 | .ok (.ret u)=>CE outer P w H s Q u s'
 | .ok _=>False
 | .error e=>CX outer H s E e s'
structure FnOk (P:Program) (w:World) (K:Bc) (mg:Str→Option Value) (base:Heap) (CX:CXT) (k:Nat) (f:Addr) (fd:FuncData) (ps:List Str) (sp:Sp):Prop where
 len:∀ vs H Q E,sp vs H Q E→vs.length=ps.length
 run:∀ (A:Around) (outer:List Env) (s:Shared) (H:Hp) (args:Args) (us:List Value) (vs:List V) (Q:VK) (E:XK),Room k A→Env0 P w K mg base A outer s H→BindsTo s fd args (ps.zip us)→Vals vs us→sp vs H Q E→codeAny (model P w) A (.call (.ref f) args) (CR CX outer P w H s Q E) s
theorem FnOk.imp {P:Program} {w:World} {K:Bc} {mg:Str→Option Value} {base:Heap} {CX:CXT} {k:Nat} {f:Addr} {fd:FuncData} {ps:List Str} {sp sp':Sp} (F:FnOk P w K mg base CX k f fd ps sp)
  (h:∀ vs H Q E,sp' vs H Q E→sp vs H Q E):FnOk P w K mg base CX k f fd ps sp' :=
 ⟨fun vs H Q E q=>F.len vs H Q E (h _ _ _ _ q),fun A outer s H args us vs Q E hr he hb hv hs=>F.run A outer s H args us vs Q E hr he hb hv (h _ _ _ _ hs)⟩
theorem Env0.make {P:Program} {w:World} {K:Bc} {mg:Str→Option Value} {base:Heap} {A:Around} {outer:List Env} {s:Shared} {H:Hp} (e:Env0 P w K mg base A outer s H) (C:Addr) (us:List Value) (kw:List (Str×Value)) :
  Env0 P w K mg base (A.under (.builtin "type.__call__" ⟨.ref C::us,kw⟩)) outer s H:=⟨by first | exact e.frames | (simpa [Around.under,Code.envs,Code.isFrame,pushEnvs] using e.frames),e.mod,e.bs,e.bsz,e.funs,e.frf,e.hok,e.bare⟩
section
variable {X:Cx} {pins:List (Addr×Obj)} {σ:St} {H:Hp} {s s':Shared}
theorem Inv.env0 (I:Inv X pins σ H s):Env0 X.prog X.w X.K X.mg X.base X.A X.stack s H :=
 ⟨I.ok.frames,I.ok.mod,I.bs,Ba I.ok.bsz I.sz,I.stack,I.stkFree,I.hok,I.bare⟩
theorem Inv.after {Q:VK} {u:Value} (I:Inv X pins σ H s) (h:CE X.stack X.prog X.w H s Q u s'):EP X pins σ Q u s':=by
 obtain ⟨v,H',os,bare,un,hok,r,q⟩:=h;obtain ⟨hh,g,d,t,os'⟩:=s';obtain rfl:os'=s.os:=os;exact ⟨v,H',I.call (h':=hh) (g':=g) (d':=d) (t':=t) (ch:=[]) un hok bare (fun b z=>absurd z (by simp)),r,q⟩
end
def tCall (sp:Sp) (dvs:List V) (E:XK) (t:TA):TE:=fun σ H Q=>t σ H fun vs H1=>sp (vs++dvs) H1 Q E
def tMeth (C:Addr) (m:Str) (sp:Sp) (dvs:List V) (E:XK) (ta:TE) (t:TA):TE:=fun σ H Q=>ta σ H fun x H1=>∃ a dx fs,x=.ref a∧H1 a=some (.ins C dx fs)∧fs.lookup m=none∧t σ H1 fun vs H2=>sp (x::(vs++dvs)) H2 Q E
def tMake (C:Addr) (sp:Sp) (dvs:List V) (E:XK) (t:TA):TE:=fun σ H Q=>t σ H fun vs H1=>∀ x dx,H1 x=none→H1 dx=none→dx≠x→sp (.ref x::(vs++dvs)) (upd (upd H1 dx (.own x)) x (.ins C dx [])) (fun v H2=>v=.non∧Q (.ref x) H2) E
def Binds (K:Bc) (fd:FuncData) (ps:List Str) (ds:List Value):Prop :=
 ∀ (s:Shared) (us:List Value),K.In s.heap→(us++ds).length=ps.length→BindsTo s fd ⟨us,[]⟩ (ps.zip (us++ds))
theorem Binds.all {K:Bc} {fd:FuncData} {ps:List Str} (h:∀ us:List Value,us.length=ps.length→bindArgs fd ⟨us,[]⟩=pure (ps.zip us)):Binds K fd ps []:=fun s us _ hl=>by
 rw [List.append_nil] at hl ⊢;exact .of_eq (h us hl)
def Passes (CX:CXT) (X:Cx) (E:XK):Prop:=∀ (pins:List (Addr×Obj)) (σ:St) (H:Hp) (s:Shared) (e:Value) (s':Shared),Inv X pins σ H s→CX X.stack H s E e s'→X.xe e s'
section
variable {X:Cx} {CX:CXT} {k:Nat} {f C:Addr} {fd:FuncData} {ps:List Str} {sp:Sp} {dvs:List V} {ds:List Value} {E:XK} {x m:Str} {p pos apos:Pos} {e o:Expr} {es:List Expr} {ta:TE} {t:TA}
theorem run_fn {pins:List (Addr×Obj)} {σ:St} {H:Hp} {s:Shared} {Q:VK} {us:List Value} {vs:List V} (F:FnOk X.prog X.w X.K X.mg X.base CX k f fd ps sp) (hr:Room k X.A) (hb:Binds X.K fd ps ds) (hd:Vals dvs ds) (hx:Passes CX X E)
  (I:Inv X pins σ H s) (r:Vals vs us) (h:sp (vs++dvs) H Q E):wpAny (model X.prog X.w) X.A (call (.ref f) us) (EP X pins σ Q) X.xe s:=by
 have r2:Vals (vs++dvs) (us++ds):=r.append hd;have hl:(us++ds).length=ps.length:=by rw [← r2.length]; exact F.len _ _ _ _ h
 refine wpAny_call (codeAny_mono (F.run X.A X.stack s H ⟨us,[]⟩ (us++ds) (vs++dvs) Q E hr I.env0 (hb s us I.kIn hl) r2 h) fun r s' hq=>?_)
 cases r with
 | error e=>exact hx pins σ H s e s' I hq
 | ok fl =>
  cases fl with
  | ret u=>exact I.after hq
  | next=>exact False.elim hq
  | brk=>exact False.elim hq
  | cont=>exact False.elim hq
theorem qK (F:FnOk X.prog X.w X.K X.mg X.base CX k f fd ps sp) (hr:Room k X.A) (hg:Gl X x) (hm:X.mg x=some (.ref f)) (hk:PySem.W.keepIn X.K (.ref f)=true) (hb:Binds X.K fd ps ds) (hd:Vals dvs ds) (hx:Passes CX X E)
  (ha:PA X (e::es) t) (hdb:(x==("__debug__" : Str))=false:=by decide) (he:starEach (e::es) X.env=(false,eval e X.env)::starEach es X.env:=by exact qq rfl _ _) (hpl:(backTo pos (starEach es X.env)).any (·.1)=false:=by exact qy rfl) :
  PE X (.Call (.Name x p) (e::es) [] pos) (tCall sp dvs E t):=by
 intro pins s σ H Q I h;refine wpAny_Call_Name_kw (ld_glob I hg hm ?_ hdb);refine PySem.W.callWith_K (h₀:=X.base) I.ok.mod.kin hk (thn (ha pos pins s σ H _ I h) fun us s1 ⟨vs,H1,I1,r,q⟩=>⟨I1.kIn,?_⟩) he hpl;exact run_fn F hr hb hd hx I1 r q
theorem ZY {pl:Sem Bool} (he:PE X o ta) (c:Cls X.K C) (hm:Meth X.K C m f) (F:FnOk X.prog X.w X.K X.mg X.base CX k f fd ps sp) (hr:Room k X.A) (hb:Binds X.K fd ps ds) (hd:Vals dvs ds) (hx:Passes CX X E) (ha:PA X (e::es) t)
  (hst:starEach (e::es) X.env=(false,eval e X.env)::starEach es X.env:=by exact qq rfl _ _) (hpl:(backTo pos (starEach es X.env)).any (·.1)=false:=by exact qy rfl)
  (ht:eval (.Call (.Attribute o m apos) (e::es) [] pos) X.env=(do
   let ov ← eval o X.env
   standAt apos.atName
   let (f,first) ← holding [ov] (getMethod ov m pl)
   callWith pos f first (backTo pos (starEach (e::es) X.env)) (backToKw pos (keywordEach [] X.env))):=by rfl) :
  PE X (.Call (.Attribute o m apos) (e::es) [] pos) (tMeth C m sp dvs E ta t):=by
 intro pins s σ H Q I h;refine PySem.W.methodCall_KW (pl:=pl) (thn (he pins s σ H _ I h) fun u s1 ⟨x,H1,I1,rx,a,dx,fs,ex,ea,l,q⟩=>?_) ht;subst ex;obtain rfl:u=Value.ref a:=rx;refine getmeth_ok I1 ea c hm l ?_;refine PySem.W.callWith_K (first:=[.ref a]) (h₀:=X.base) I.ok.mod.kin hm.kp (thn (ha pos pins s1 σ H1 _ I1 q) fun us s2 ⟨vs,H2,I2,r,q2⟩=>⟨I2.kIn,?_⟩) hst hpl;exact run_fn (us:=.ref a::us) (vs:=.ref a::vs) F hr hb hd hx I2 (.cons rfl r) q2
theorem Vj {pl:Sem Bool} (he:PE X o ta) (c:Cls X.K C) (hm:Meth X.K C m f) (F:FnOk X.prog X.w X.K X.mg X.base CX k f fd ps sp) (hr:Room k X.A) (hb:Binds X.K fd ps ds) (hd:Vals dvs ds) (hx:Passes CX X E)
  (ht:eval (.Call (.Attribute o m apos) [] [] pos) X.env=(do
   let ov ← eval o X.env
   standAt apos.atName
   let (f,first) ← holding [ov] (getMethod ov m pl)
   callWith pos f first (backTo pos (starEach [] X.env)) (backToKw pos (keywordEach [] X.env))):=by rfl) :
  PE X (.Call (.Attribute o m apos) [] [] pos) (tMeth C m sp dvs E ta tNil):=by
 intro pins s σ H Q I h;refine PySem.W.methodCall_KW (pl:=pl) (thn (he pins s σ H _ I h) fun u s1 ⟨x,H1,I1,rx,a,dx,fs,ex,ea,l,q⟩=>?_) ht;subst ex;obtain rfl:u=Value.ref a:=rx;refine getmeth_ok I1 ea c hm l ?_;exact PySem.W.callWith_K0 (first:=[.ref a]) I1.kIn hm.kp (run_fn (us:=[.ref a]) (vs:=[.ref a]) F hr hb hd hx I1 (.cons rfl .nil) q)
structure Mk (K:Bc) (C f:Addr):Prop where
 makes:PySem.W.makesIn K C=true
 init:PySem.W.findIn K (.ref C) "__init__" = some (some (.ref f))
 fn:PySem.W.isFn K (.ref f)=true
 kp:PySem.W.keepIn K (.ref C)=true
theorem run_make {pins:List (Addr×Obj)} {σ:St} {H:Hp} {s:Shared} {Q:VK} {us:List Value} {vs:List V} (M:Mk X.K C f) (F:FnOk X.prog X.w X.K X.mg X.base CX k f fd ps sp) (hr:Room (k+1) X.A) (hb:Binds X.K fd ps ds) (hd:Vals dvs ds)
  (hx:Passes CX X E) (I:Inv X pins σ H s) (r:Vals vs us)
  (h:∀ x dx,H x=none→H dx=none→dx≠x→sp (.ref x::(vs++dvs)) (upd (upd H dx (.own x)) x (.ins C dx [])) (fun v H2=>v=.non∧Q (.ref x) H2) E) :
  wpAny (model X.prog X.w) X.A (call (.ref C) us) (EP X pins σ Q) X.xe s:=by
 have hq:=h (s.heap.objs.size+1) s.heap.objs.size (I.hok.fresh (Nat.le_succ _)) (I.hok.fresh (Nat.le_refl _)) (Nat.ne_of_lt (Nat.lt_succ_self _));have I2:=Inv.made (C:=C) I;have r2:Vals (V.ref (s.heap.objs.size+1)::(vs++dvs)) (Value.ref (s.heap.objs.size+1)::(us++ds)):=.cons rfl (r.append hd);have hl:(Value.ref (s.heap.objs.size+1)::us++ds).length=ps.length:=by
  have e:=r2.length;rw [F.len _ _ _ _ hq] at e;exact e.symm
 refine wpAny_call (make_map (f:=f) I.kIn M.makes M.init (beq_iff_eq.mp M.fn) (codeAny_mono (F.run _ X.stack _ _ ⟨Value.ref (s.heap.objs.size+1)::us,[]⟩ (Value.ref (s.heap.objs.size+1)::(us++ds)) _ _ E (hr.make C us [])
  (I2.env0.make C us []) (hb _ (Value.ref (s.heap.objs.size+1)::us) I2.kIn hl) r2 hq) fun r s' hq'=>?_))
 cases r with
 | error e=>exact hx pins σ _ _ e s' I2 hq'
 | ok fl =>
  cases fl with
  | ret u =>
   obtain ⟨v,H',I3,rv,ev,q3⟩:=I2.after hq';subst ev;exact ⟨rv,⟨V.ref (s.heap.objs.size+1),H',I3,rfl,q3⟩⟩
  | next=>exact False.elim hq'
  | brk=>exact False.elim hq'
  | cont=>exact False.elim hq'
theorem pe_make (M:Mk X.K C f) (F:FnOk X.prog X.w X.K X.mg X.base CX k f fd ps sp) (hr:Room (k+1) X.A) (hg:Gl X x) (hm:X.mg x=some (.ref C)) (hb:Binds X.K fd ps ds) (hd:Vals dvs ds) (hx:Passes CX X E)
  (ha:PA X (e::es) t) (hdb:(x==("__debug__" : Str))=false:=by decide) (he:starEach (e::es) X.env=(false,eval e X.env)::starEach es X.env:=by exact qq rfl _ _) (hpl:(backTo pos (starEach es X.env)).any (·.1)=false:=by exact qy rfl) :
  PE X (.Call (.Name x p) (e::es) [] pos) (tMake C sp dvs E t):=by
 intro pins s σ H Q I h;refine wpAny_Call_Name_kw (ld_glob I hg hm ?_ hdb);refine PySem.W.callWith_K (h₀:=X.base) I.ok.mod.kin M.kp (thn (ha pos pins s σ H _ I h) fun us s1 ⟨vs,H1,I1,r,q⟩=>⟨I1.kIn,?_⟩) he hpl;exact run_make M F hr hb hd hx I1 r q
end
section
variable {X:Cx} {CX:CXT} {k:Nat} {f C:Addr} {fd:FuncData} {ps ks:List Str} {sp:Sp} {E:XK} {x m:Str} {p pos apos kpos:Pos} {e o:Expr} {es:List Expr} {kws:List Keyword} {te ta:TE} {t tk:TA} {nm:Option Str}
structure KBinds (K:Bc) (fd:FuncData) (ps ks:List Str) (g:List Value→List Value→List Value) (gV:List V→List V→List V):Prop where
 to:∀ (s:Shared) (us ws:List Value),K.In s.heap→(g us ws).length=ps.length→BindsTo s fd ⟨us,ks.zip ws⟩ (ps.zip (g us ws))
 rel:∀ {vs:List V} {us:List Value} {zs:List V} {ws:List Value},Vals vs us→Vals zs ws→Vals (gV vs zs) (g us ws)
variable {g:List Value→List Value→List Value} {gV:List V→List V→List V}
end
structure FnScope (N P:List Str) (sc:Scope):Prop where
 kind:sc.kind=.function
 co:sc.isCoroutine=false
 gen:sc.isGenerator=false
 nd:N.Nodup
 pre:N.take P.length=P
 par:∀ x∈P,sc.names.lookup x=some .local∨sc.names.lookup x=some .cell
 nofree:∀ y∈sc.names,y.2≠.free
theorem bindL_out {kindOf:Str→Option NameKind} {x:Str}:∀ {binds:List (Str×Value)} {m:Str→Option Value},(∀ v,(x,v)∉binds)→bindL kindOf binds m x=m x
 | [],_,_=>rfl
 | (n,v)::r,m,h=>by
  unfold bindL;rw [bindL_out fun w hw=>h w (List.mem_cons_of_mem _ hw)]
  split
  ·have:x≠n:=by rintro rfl; exact h v Am
   simp [this]
  ·rfl
theorem bindC_out {kindOf:Str→Option NameKind} {x:Str}:∀ {binds:List (Str×Value)} {m:Str→Option Value},(∀ v,(x,v)∉binds)→bindC kindOf binds m x=m x
 | [],_,_=>rfl
 | (n,v)::r,m,h=>by
  unfold bindC;rw [bindC_out fun w hw=>h w (List.mem_cons_of_mem _ hw)]
  split
  ·rfl
  ·have:x≠n:=by rintro rfl; exact h v Am
   simp [this]
theorem bindL_get {kindOf:Str→Option NameKind} {x:Str} {v:Value}:∀ {P:List Str} {vs:List Value} {i:Nat} {m:Str→Option Value},P.Nodup→P[i]?=some x→vs[i]?=some v→kindOf x=some .local→bindL kindOf (P.zip vs) m x=some v
 | [],_,_,_,_,h,_,_=>by simp at h
 | _::_,[],_,_,_,_,h,_=>by simp at h
 | p::P,w::vs,0,m,nd,h1,h2,hk=>by
  simp at h1 h2; subst h1; subst h2
  show bindL kindOf ((p,w)::P.zip vs) m p=_;unfold bindL;rw [bindL_out fun v hv=>(List.nodup_cons.mp nd).1 (List.of_mem_zip hv).1,if_pos hk]
  simp
 | p::P,w::vs,i+1,m,nd,h1,h2,hk=>by
  show bindL kindOf ((p,w)::P.zip vs) m x=_;unfold bindL;exact bindL_get (i:=i) (List.nodup_cons.mp nd).2 (by simpa using h1) (by simpa using h2) hk
theorem bindC_get {kindOf:Str→Option NameKind} {x:Str} {v:Value}:∀ {P:List Str} {vs:List Value} {i:Nat} {m:Str→Option Value},P.Nodup→P[i]?=some x→vs[i]?=some v→kindOf x≠some .local→bindC kindOf (P.zip vs) m x=some v
 | [],_,_,_,_,h,_,_=>by simp at h
 | _::_,[],_,_,_,_,h,_=>by simp at h
 | p::P,w::vs,0,m,nd,h1,h2,hk=>by
  simp at h1 h2; subst h1; subst h2
  show bindC kindOf ((p,w)::P.zip vs) m p=_;unfold bindC;rw [bindC_out fun v hv=>(List.nodup_cons.mp nd).1 (List.of_mem_zip hv).1,if_neg hk]
  simp
 | p::P,w::vs,i+1,m,nd,h1,h2,hk=>by
  show bindC kindOf ((p,w)::P.zip vs) m x=_;unfold bindC;exact bindC_get (i:=i) (List.nodup_cons.mp nd).2 (by simpa using h1) (by simpa using h2) hk
def start (N:List Str) (vs:List V):St:=vs.map some++List.replicate (N.length - vs.length) none
def cxOf (CX:CXT) (P:Program) (w:World) (K:Bc) (mg:Str→Option Value) (base:Heap) (N:List Str) (qual:Str) (scope:Scope) (f:Addr) (cd:Value) (A:Around) (outer:List Env) (s:Shared) (H:Hp) (E:XK):Cx where
 prog:=P
 w:=w
 K:=K
 mg:=mg
 base:=base
 A:=A.deeper (envOfC qual scope s.heap.objs.size f cd)
 N:=N
 s₀:=s
 H₀:=H
 env:=envOfC qual scope s.heap.objs.size f cd
 outer:=outer
 stack:=envOfC qual scope s.heap.objs.size f cd::outer
 ex:=[]
 calm:=true
 fn:=fun _=>true
 pn:=[]
 xe:=fun e s'=>wpAny (model P w) (A.deeper (envOfC qual scope s.heap.objs.size f cd)) (leaving (envOfC qual scope s.heap.objs.size f cd) e) (fun _ s''=>CX outer H s E e s'') (fun e' s''=>CX outer H s E e' s'') s'
theorem cell_has {sc:Scope} {n:Nat} {x:Str} (h:sc.names.lookup x=some .cell):∃ c,(cellsFrom n sc.names []).lookup x=some c:=by
 have q:=PySem.W.cellsFrom_some sc.names n [] (.inl h);exact Option.isSome_iff_exists.mp q
theorem inv_start {CX:CXT} {P:Program} {w:World} {K:Bc} {mg:Str→Option Value} {base:Heap} {N ps:List Str} {qual:Str} {scope:Scope} {f:Addr} {cd:Value} {A:Around} {outer:List Env} {s s1:Shared} {H:Hp} {E:XK} {us:List Value} {vs:List V}
  (S:FnScope N ps scope) (hd:A.handled=none) (e0:Env0 P w K mg base A outer s H) (hl:vs.length=ps.length) (r:Vals vs us)
  (x:InCallC s s.heap.objs.size (bindL (envOfC qual scope s.heap.objs.size f cd).kindOf (ps.zip us) fun _=>none) (cellsFrom (s.heap.objs.size+1) scope.names []) (bindC (envOfC qual scope s.heap.objs.size f cd).kindOf (ps.zip us) fun _=>none) s1) :
  Inv (cxOf CX P w K mg base N qual scope f cd A outer s H E) [] (start N vs) H s1:=by
 have hpl:ps.length≤N.length:=by have:=congrArg List.length S.pre; rw [Au] at this; omega
 obtain ⟨h1,tk,rfl,hk⟩:=x.done;have noA:∀ b:Addr,b∉(cxOf CX P w K mg base N qual scope f cd A outer s H E).ex:=fun b z=>absurd (show b∈([]:List Addr) from z) (by simp)
 refine ⟨⟨e0.mod,S.kind,rfl,rfl,Nat.le_refl _,fun y z c h1 h2=>?_,fun y hy=>?_,fun y c _ h=>?_,fun _=>hd,Around.frames_deeper e0.frames,.inr ⟨rfl,rfl⟩,fun b z=>absurd z (noA b),e0.bs,e0.bsz,fun b _ _=>noA b,fun b z=>absurd z (noA b),e0.funs,e0.frf⟩,rfl,e0.bare,Un.kept hk,⟨_,x.toInCall.ns,fun i y v h1 h2 h3=>?_⟩,fun y c h=>⟨_,x.cell y c h⟩,e0.hok.fresh (Nat.le_refl _),fun y c h=>?_,fun p hp=>absurd (show p∈([]:List (Addr×Obj)) from hp) (by simp),e0.hok.kept hk,?_⟩
 ·exact name_of_addr x.apart (PySem.mem_of_lookup h1) (PySem.mem_of_lookup h2)
 ·have hy:scope.names.lookup y=some .cell∨scope.names.lookup y=some .free:=hy
  rcases hy with hy | hy
  ·exact cell_has hy
  ·exact absurd rfl (S.nofree _ (PySem.mem_of_lookup hy))
 ·exact Nat.le_of_lt (x.above y c (PySem.mem_of_lookup h))
 ·have hi:i<vs.length:=by
   unfold start at h2
   by_cases hi:i<vs.length
   ·exact hi
   ·rw [A2 (by simpa using hi)] at h2
    rw [List.getElem?_replicate] at h2
    split at h2 <;> cases h2
  have ha:vs[i]?=some v:=by
   unfold start at h2;rw [A4 (by simpa using hi),List.getElem?_map] at h2
   cases e:vs[i]? with
   | none=>rw [e] at h2; cases h2
   | some a=>rw [e] at h2; cases h2; rfl
  obtain ⟨u,hu,rv⟩:=r.get ha;have hp:ps[i]?=some y:=by
   rw [← S.pre,A5 (by omega)]; exact h1
  have ndP:ps.Nodup:=by rw [← S.pre]; exact S.nd.sublist (List.take_sublist _ _)
  refine ⟨u,rv,?_⟩
  rcases S.par y (Af hp) with k | k
  ·exact .inl ⟨k,bindL_get ndP hp hu k⟩
  ·obtain ⟨c,e⟩:=cell_has (n:=s.heap.objs.size+1) k
   refine .inr ⟨.inl k,c,e,?_⟩;have q:=x.cell y c e;rw [bindC_get ndP hp hu (by show scope.names.lookup y≠_; rw [k]; decide)] at q;exact q
 ·exact e0.hok.fresh (Nat.le_of_lt (x.above y c (PySem.mem_of_lookup h)))
 ·unfold start
  show _=N.length;rw [Ak,Av,Ad];omega
theorem fn_of {CX:CXT} {P:Program} {w:World} {K:Bc} {mg:Str→Option Value} {base:Heap} {k:Nat} {f:Addr} {name qual:Str} {params:Arguments} {body:List Stmt} {scope:Scope} {dV kV doc pm cdv ct oc:Value} {an od:Option Addr}
  {osl:Array (Option Value)} {N ps:List Str} {sp:Sp} (lk:K.lookup f=some ⟨oc,od,.func (PySem.W.fnOf name qual params body scope dV kV doc pm an cdv ct),osl⟩) (hcd:PySem.W.codeIn K cdv qual=true) (S:FnScope N ps scope)
  (len:∀ vs H Q E,sp vs H Q E→vs.length=ps.length)
  (hbody:∀ (A:Around) (outer:List Env) (s:Shared) (H:Hp) (vs:List V) (Q:VK) (E:XK),Room k (A.deeper (envOfC qual scope s.heap.objs.size f cdv))→sp vs H Q E→∃ t,PSs (cxOf CX P w K mg base N qual scope f cdv A outer s H E) body t∧t { nx:=fun _ H'=>Q .non H',rt:=Q } (start N vs) H) :
  FnOk P w K mg base CX (k+1) f (PySem.W.fnOf name qual params body scope dV kV doc pm an cdv ct) ps sp:=by
 refine ⟨len,fun A outer s H args us vs Q E hr e0 hb r hsp=>?_⟩;have hl:=len _ _ _ _ hsp;have KX:K.In s.heap:=e0.mod.kin.keeps fun b o e=>(e0.bs b o e).1
 have lim:s.heap.NoLimit:=e0.mod.nolimit.keeps fun b o e=>(e0.bs b o e).1
 have hkind:∀ y∈ps.zip us,scope.names.lookup y.1=some .local∨(scope.names.lookup y.1=some .cell∧((cellsFrom (s.heap.objs.size+1) scope.names []).lookup y.1).isSome=true):=fun ⟨n,v⟩ hy=>by
  rcases S.par n (List.of_mem_zip hy).1 with q | q
  ·exact .inl q
  ·exact .inr ⟨q,PySem.W.cellsFrom_some _ _ _ (.inl q)⟩
 refine codeAny_call_function hr.depth (KX _ _ lk) rfl S.co S.gen rfl (PySem.W.codeRec_of KX hcd) (hb _ _ _ _ ?_);refine wpAny_newFunctionEnv_cells S.kind hkind fun env he s1 x=>?_
 subst he;refine ⟨lim.keeps x.toInCall.keep,codeAny_func ?_⟩;obtain ⟨t,ht,hq⟩:=hbody A outer s H vs Q E (hr.deeper _) hsp;have I:Inv (cxOf CX P w K mg base N qual scope f cdv A outer s H E) [] (start N vs) H s1:=inv_start S hr.hd e0 hl r x;refine wpAny_mono (ht [] s1 (start N vs) H _ I hq) (fun fl s' hs=>?_) fun e s' hs=>hs
 have fin:∀ {σ':St} {H':Hp} {v:V} {u:Value},Inv (cxOf CX P w K mg base N qual scope f cdv A outer s H E) [] σ' H' s'→RelV v u→Q v H'→CE outer P w H s Q u s' :=
  fun {σ' H' v u} J rv q=>⟨v,H',J.os,J.bare,J.base,J.hok,rv,q⟩
 cases fl with
 | ret u =>
  obtain ⟨v,σ',H',J,rv,q⟩:=hs;exact fin J rv q
 | next =>
  obtain ⟨σ',H',J,q⟩:=hs;exact fin (v:=V.non) (u:=Value.none) J rfl q
 | brk =>
  obtain ⟨_,_,_,q⟩:=hs;exact False.elim q
 | cont =>
  obtain ⟨_,_,_,q⟩:=hs;exact False.elim q
end L2
namespace L2
open PySem PySem.Spec PyProof.Rows
section
variable {X:Cx} {x:Str} {p pos:Pos} {e:Expr} {es:List Expr} {t:TA} {id T:String} {r:List V→Hp→VK→Prop}
def tCB (r:List V→Hp→VK→Prop) (t:TA):TE:=fun σ H Q=>t σ H fun vs H1=>r vs H1 Q
theorem zX (hc:CallR X (.builtin id) r) (hg:Gl X x) (hm:X.mg x=none) (hv:bootBuiltins x=some (.builtin id)) (ha:PA X (e::es) t) (hn:x ≠ "__name__" := by decide) (hdb:(x==("__debug__" : Str))=false:=by decide)
  (he:starEach (e::es) X.env=(false,eval e X.env)::starEach es X.env:=by exact qq rfl _ _) (hpl:(backTo pos (starEach es X.env)).any (·.1)=false:=by exact qy rfl):PE X (.Call (.Name x p) (e::es) [] pos) (tCB r t):=by
 intro pins s σ H Q I h;refine wpAny_Call_Name_kw (V2 I hg hm hv ?_ hn hdb);exact PyProof.Rows.callWith_builtin1 (thn (ha pos pins s σ H _ I h) fun us s1 ⟨vs,H1,I1,r1,q1⟩=>hc pins s1 σ H1 vs us Q I1 r1 q1) he hpl
theorem xv (hc:CallR X (.type T) r) (hg:Gl X x) (hm:X.mg x=none) (hv:bootBuiltins x=some (.type T)) (ha:PA X (e::es) t) (hn:x ≠ "__name__" := by decide) (hdb:(x==("__debug__" : Str))=false:=by decide)
  (he:starEach (e::es) X.env=(false,eval e X.env)::starEach es X.env:=by exact qq rfl _ _) (hpl:(backTo pos (starEach es X.env)).any (·.1)=false:=by exact qy rfl):PE X (.Call (.Name x p) (e::es) [] pos) (tCB r t):=by
 intro pins s σ H Q I h;refine wpAny_Call_Name_kw (V2 I hg hm hv ?_ hn hdb);exact PyProof.Rows.callWith_type1 (thn (ha pos pins s σ H _ I h) fun us s1 ⟨vs,H1,I1,r1,q1⟩=>hc pins s1 σ H1 vs us Q I1 r1 q1) he hpl
end
end L2
namespace HT
open PySem PyProof.Rows
section
open PySem.SeqAt
open PySem.AutoSeq1 (wpAny_loadPart')
open PySem.MeetsSeq PySem.MeetsSeq2 PySem.MeetsSeq3
end
section
variable {prog:Program} {w:World} {A:Around} {E:Value→Shared→Prop} {s:Shared}
def sIx (n d:Nat):Option Int→Nat
 | none=>d
 | some v=>if v<0 then (v+(n:Int)).toNat else min v.toNat n
theorem sIx_none (n d:Nat):sIx n d none=d:=rfl
theorem sIx_nat (n d k:Nat):sIx n d (some (k:Int))=min k n:=by
 show (if (k:Int)<0 then ((k:Int)+(n:Int)).toNat else min (k:Int).toNat n)=min k n;rw [if_neg (by omega),Int.toNat_natCast]
end
end HT
namespace L2
open PySem PySem.Spec PyProof.Rows
abbrev TO:=St→Hp→(Option Int→Hp→Prop)→Prop
def PO (X:Cx) (e:Option Expr) (t:TO):Prop :=
 ∀ (pins:List (Addr×Obj)) (s:Shared) (σ:St) (H:Hp) (Q:Option Int→Hp→Prop),Inv X pins σ H s→t σ H Q→wpAny (model X.prog X.w) X.A (evalPart e X.env) (fun u s'=>∃ o H',Inv X pins σ H' s'∧IsPart u o∧Q o H') X.xe s
def tNoPart:TO:=fun _ H Q=>Q none H
def tPart (t:TE):TO:=fun σ H Q=>t σ H fun x H1=>∃ i,x=.int i∧Q (some i) H1
section
variable {X:Cx} {e:Expr} {te:TE} {lo hi:Option Expr} {tl th:TO} {pos p2:Pos}
theorem W5:PO X none tNoPart:=by
 intro pins s σ H Q I h;rw [evalPart_none];exact wpAny_pure ⟨none,H,I,.none,h⟩
theorem W4 (h:PE X e te):PO X (some e) (tPart te):=by
 intro pins s σ H Q I hw;rw [evalPart_some];refine thn (h pins s σ H _ I hw) fun u s1 ⟨x,H1,I1,r1,q1⟩=>?_
 obtain ⟨i,rfl,q⟩:=q1;obtain ⟨t,rfl⟩:=r1;exact ⟨some i,H1,I1,.int i t,q⟩
def SlR (X:Cx) (r:V→Option Int→Option Int→Hp→VK→Prop):Prop :=
 ∀ (pins:List (Addr×Obj)) (s:Shared) (σ:St) (H:Hp) (x:V) (v vl vu:Value) (lo hi:Option Int) (sl:Addr) (Q:VK),Inv X pins σ H s→RelV x v→s.heap.IsSliceOf sl vl vu .none→IsPart vl lo→IsPart vu hi→r x lo hi H Q→∃ T id,typeLookup (.type T) "__getitem__" = pure (some (.builtin id))∧s.TypeIs v T∧wpAny (model X.prog X.w) X.A (getItem v (.ref sl)) (EP X pins σ Q) X.xe s
def tSl (r:V→Option Int→Option Int→Hp→VK→Prop) (te:TE) (tl th:TO):TE:=fun σ H Q=>te σ H fun x H1=>tl σ H1 fun l H2=>th σ H2 fun u H3=>r x l u H3 Q
theorem J5 {r:V→Option Int→Option Int→Hp→VK→Prop} (hr:SlR X r) (he:PE X e te) (hl:PO X lo tl) (hu:PO X hi th):PE X (.Subscript e (.Slice lo hi none p2) pos) (tSl r te tl th):=by
 intro pins s σ H Q I h;refine Subscript_ (thn (he pins s σ H _ I h) fun v s1 ⟨x,H1,I1,r1,q1⟩=>?_);refine wpAny_Slice (thn (hl pins s1 σ H1 _ I1 q1) fun vl s2 ⟨l,H2,I2,pl,q2⟩=>thn (hu pins s2 σ H2 _ I2 q2) fun vu s3 ⟨u,H3,I3,pu,q3⟩=>?_);rw [evalPart_none];refine wpAny_pure ?_;have I4:Inv X pins σ H3 { s3 with heap:=s3.heap.push { cls:=.type "slice",data:=.fields #[vl,vu,.none] } }:=I3.kept (t':=s3.toks) fun b ob q=>Heap.get?_push_of_some _ q
 obtain ⟨T,id,hT,ht,hg⟩:=hr pins { s3 with heap:=s3.heap.push { cls:=.type "slice",data:=.fields #[vl,vu,.none] } } σ H3 x v vl vu l u s3.heap.objs.size Q I4 r1 (Heap.IsSliceOf.new ..) pl pu q3;show wpAny (model X.prog X.w) X.A (subscriptTail e (.Slice lo hi none p2) v (.ref s3.heap.objs.size)) (EP X pins σ Q) X.xe { s3 with heap:=s3.heap.push { cls:=.type "slice",data:=.fields #[vl,vu,.none] } };exact tail_any (ops:=[.ref s3.heap.objs.size,v]) ht hT hg (by with_unfolding_all rfl)
def cutV (xs:List V) (lo hi:Option Int):List V:=(xs.drop (HT.sIx xs.length 0 lo)).take (HT.sIx xs.length xs.length hi - HT.sIx xs.length 0 lo)
theorem cutV_length (xs:List V) (lo hi:Option Int):(cutV xs lo hi).length≤xs.length:=by
 unfold cutV;rw [Au,List.length_drop];omega
end
end L2
namespace L2
open PySem PySem.Spec PyProof.Rows
def ixN (n:Nat) (i:Int):Option Nat:=if 0≤i then (if i<n then some i.toNat else none) else if -(n:Int)≤i then some (i+n).toNat else none
def atI {α:Type} (xs:List α) (i:Int):Option α:=(ixN xs.length i).bind fun j=>xs[j]?
theorem ixN_seq {n:Nat} {i:Int} {j:Nat} (h:ixN n i=some j):seqIndex? i n=some j∧j<n ∧ -(n:Int)≤i∧i<n:=by
 unfold ixN at h
 by_cases h0:0≤i
 ·rw [if_pos h0] at h
  by_cases h1:i<n
  ·rw [if_pos h1] at h
   have e:i.toNat=j:=B0 h;exact ⟨by rw [seqIndex_of h0 h1,e],by omega,by omega,h1⟩
  ·rw [if_neg h1] at h; cases h
 ·rw [if_neg h0] at h
  by_cases h1 : -(n:Int)≤i
  ·rw [if_pos h1] at h
   have e:(i+n).toNat=j:=B0 h;exact ⟨by rw [seqIndex_neg (by omega) h1,e],by omega,h1,by omega⟩
  ·rw [if_neg h1] at h; cases h
theorem atI_get {α:Type} {xs:List α} {i:Int} {v:α} (h:atI xs i=some v):∃ j,seqIndex? i xs.length=some j∧xs[j]?=some v∧j<xs.length ∧ -(xs.length:Int)≤i∧i<xs.length:=by
 unfold atI at h
 cases e:ixN xs.length i with
 | none=>rw [e] at h; cases h
 | some j =>
  rw [e] at h;obtain ⟨h1,h2,h3,h4⟩:=ixN_seq e;exact ⟨j,h1,h,h2,h3,h4⟩
def PlainIx (b:Expr):Prop:=∀ o i,subscripted b false o i=operate [o,i] (getItem o i)
def IxR (X:Cx) (r:R2):Prop :=
 ∀ (value slice:Expr) (pins:List (Addr×Obj)) (s:Shared) (σ:St) (H:Hp) (x y:V) (v u:Value) (Q:VK),Inv X pins σ H s→RelV x v→RelV y u→r x y H Q→subscripted slice false v u=operate [v,u] (getItem v u)→wpAny (model X.prog X.w) X.A (subscriptTail value slice v u) (EP X pins σ Q) X.xe s
def MtR (X:Cx) (id:String) (r:V→List V→Hp→VK→Prop):Prop :=
 ∀ (pins:List (Addr×Obj)) (s:Shared) (σ:St) (H:Hp) (x:V) (xs:List V) (v:Value) (us:List Value) (Q:VK),Inv X pins σ H s→RelV x v→Vals xs us→r x xs H Q→wpAny (model X.prog X.w) X.A (call (.builtin id) (v::us)) (EP X pins σ Q) X.xe s
section
variable {X:Cx} {a b:Expr} {ta tb:TE} {pos:Pos}
theorem pe_ix {r:R2} (hr:IxR X r) (ha:PE X a ta) (hb:PE X b tb) (hs:PlainIx b):PE X (.Subscript a b pos) (tOp r ta tb):=by
 intro pins s σ H Q I h;exact Subscript_ (binT ha hb I h fun v u s2 x y H2 I2 rx ry q=>hr a b pins s2 σ H2 x y v u Q I2 rx ry q (hs _ _))
def rIxL (K:Bc):R2:=fun x y H Q=>∃ p xs i v,x=.ref p∧y=.int i∧SqL K H p xs∧atI xs i=some v∧Q v H
def rIxT (K:Bc):R2:=fun x y H Q=>∃ p xs i v,x=.ref p∧y=.int i∧SqT K H p xs∧atI xs i=some v∧Q v H
theorem zK:IxR X (rIxL X.K):=by
 intro value slice pins s σ H x y v u Q I rx ry h hs;obtain ⟨p,xs,i,z,rfl,rfl,hq,he,q⟩:=h
 cases rx
 obtain ⟨t,rfl⟩:=ry;obtain ⟨its,r,pl,hz⟩:=I.list hq;obtain ⟨j,h1,h2,h3,h4,h5⟩:=atI_get he;obtain ⟨w,ew,rw'⟩:=r.get h2;have hl:=r.length;have hn:=line63;have fin:EP X pins σ Q w s:=⟨z,H,I,rw',q⟩
 by_cases h0:0≤i
 ·have hj:i.toNat=j:=by
   rw [seqIndex_of h0 h5] at h1;exact B0 h1
  exact item_listR pl.isList h0 (by omega) (by rw [hj]; simpa using ew) fin hs
 ·have hj:(i+(its.toArray.size:Int)).toNat=j:=by
   rw [seqIndex_neg (by omega) h4] at h1;rw [List.size_toArray,← hl];exact B0 h1
  exact subscriptTail_builtinR (x:=w) pl.isList.typeIs slot_list_getitem.lookup
   (wpAny_getItem_list_neg (Q:=fun r s'=>r=w∧EP X pins σ Q r s') pl.isList (by omega) (by rw [List.size_toArray] <;> omega) (by omega) (by rw [hj]; simpa using ew) ⟨rfl,fin⟩) hs
theorem qY:IxR X (rIxT X.K):=by
 intro value slice pins s σ H x y v u Q I rx ry h hs;obtain ⟨p,xs,i,z,rfl,rfl,hq,he,q⟩:=h
 cases rx
 obtain ⟨t,rfl⟩:=ry;obtain ⟨its,r,pl,hz⟩:=I.tuple hq;obtain ⟨j,h1,h2,h3,h4,h5⟩:=atI_get he;obtain ⟨w,ew,rw'⟩:=r.get h2;have hl:=r.length;have hn:=line63;have fin:EP X pins σ Q w s:=⟨z,H,I,rw',q⟩;exact subscriptTail_builtinR (x:=w) pl.typeIs slot_tuple_getitem.lookup
  (getItem_tuple (j:=j) (Q:=fun r s'=>r=w∧EP X pins σ Q r s') pl (by omega) (by omega) (by rw [List.size_toArray,← hl]; exact h1) (by simpa using ew) ⟨rfl,fin⟩) hs
theorem mapSeq_set (its:List Value) (n j:Nat) (u:Value):Obj.mapSeq (·.setIfInBounds j u) { cls:=.type "list",data:=.seq its.toArray n }={ cls:=.type "list",data:=.seq (its.set j u).toArray n }:=by
 simp [Obj.mapSeq]
theorem Inv.lst {pins:List (Addr×Obj)} {σ:St} {H:Hp} {s:Shared} {p:Addr} {xs:List V} (I:Inv X pins σ H s) (h:H p=some (.lst xs)) :
  ∃ (its:List Value) (n:Nat),Vals xs its∧s.heap.get? p=some { cls:=.type "list",data:=.seq its.toArray n }∧xs.length≤sizeLine:=by
 obtain ⟨z,its,n,r,e⟩:=I.hok p _ h;exact ⟨its,n,r,e,z⟩
theorem Inv.lstUpd {pins:List (Addr×Obj)} {σ:St} {H:Hp} {s:Shared} {p:Addr} {xs ys:List V} {its its':List Value} {n n':Nat} {f:Obj→Obj} (I:Inv X pins σ H s) (h:H p=some (.lst xs))
  (ho:s.heap.get? p=some { cls:=.type "list",data:=.seq its.toArray n }) (hf:f { cls:=.type "list",data:=.seq its.toArray n }={ cls:=.type "list",data:=.seq its'.toArray n' }) (r:Vals ys its') (hz:ys.length≤sizeLine) (t:Nat) :
  Inv X pins σ (upd H p (.lst ys)) { s with heap:=s.heap.update p f,toks:=t }:=by
 have e:(s.heap.update p f).get? p=some { cls:=.type "list",data:=.seq its'.toArray n' }:=by
  rw [Heap.get?_update_self f ho (by rw [hf] <;> rfl),hf]
 refine I.write (x:=p) (e:=p) (by rw [h]; trivial) (.inl rfl) (fun b u hb q=>(Heap.get?_update_other _ _ (Ne.symm hb)).trans q) ⟨_,e⟩ ?_;exact ⟨hz,its',n',r,e⟩
def rSetL:V→V→V→Hp→(Hp→Prop)→Prop:=fun o i v H Q=>∃ p xs k j,o=.ref p∧i=.int k∧H p=some (.lst xs)∧ixN xs.length k=some j∧Q (upd H p (.lst (xs.set j v)))
theorem Qk:PSet X rSetL:=by
 intro pins s σ H o i v ov iv u Q I ro ri rv h;obtain ⟨p,xs,k,j,rfl,rfl,hp,hj,q⟩:=h
 cases ro
 obtain ⟨t,rfl⟩:=ri;obtain ⟨its,n,r,ho,hz⟩:=I.lst hp;obtain ⟨h1,h2,h3,h4⟩:=ixN_seq hj;have hl:=r.length;have hn:=line63;have I':Inv X pins σ (upd H p (.lst (xs.set j v))) { s with heap:=s.heap.update p (Obj.mapSeq (·.setIfInBounds j u)) } :=
  I.lstUpd hp ho (mapSeq_set its n j u) (r.set rv j) (by rw [List.length_set]; exact hz) s.toks
 by_cases h0:0≤k
 ·have hk:k.toNat=j:=by
   rw [seqIndex_of h0 h4] at h1;exact B0 h1
  exact PySem.W.ki_setAt ho h0 (by omega) (by rw [List.size_toArray,← hl]; exact h4) (by rw [hk]; exact ⟨_,I',q⟩)
 ·have hk:(k+(its.toArray.size:Int)).toNat=j:=by
   rw [seqIndex_neg (by omega) h3] at h1;rw [List.size_toArray,← hl];exact B0 h1
  exact PySem.W.ki_setBack ho (by omega) (by rw [List.size_toArray,← hl]; exact h3) (by omega) (by rw [hk]; exact ⟨_,I',q⟩)
theorem slice_bounds (lo hi:Option Int) (n:Nat):(sliceBounds lo hi none n).1=((HT.sIx n 0 lo:Nat):Int)∧(sliceBounds lo hi none n).2.1=((HT.sIx n n hi:Nat):Int)∧(sliceBounds lo hi none n).2.2=1:=by
 refine ⟨?_,?_,rfl⟩
 ·cases lo with
  | none=>simp [sliceBounds,HT.sIx]
  | some i =>
   simp only [sliceBounds,HT.sIx,Option.getD_none,show (1:Int)>0 by decide,if_true]
   by_cases h:i<0
   ·simp only [h,if_true] <;> omega
   ·simp only [h,if_false] <;> omega
 ·cases hi with
  | none=>simp [sliceBounds,HT.sIx]
  | some i =>
   simp only [sliceBounds,HT.sIx,Option.getD_none,show (1:Int)>0 by decide,if_true]
   by_cases h:i<0
   ·simp only [h,if_true] <;> omega
   ·simp only [h,if_false] <;> omega
theorem slicePick_cut (its:List Value) (lo hi:Option Int):slicePick its.toArray lo hi none=((its.drop (HT.sIx its.length 0 lo)).take (HT.sIx its.length its.length hi - HT.sIx its.length 0 lo)).toArray:=by
 obtain ⟨h1,h2,h3⟩:=slice_bounds lo hi its.toArray.size;unfold slicePick;rw [h1,h2,h3]
 simp only [sliceRange_one,pick_run,List.size_toArray] <;> rfl
def rSlL (K:Bc):V→Option Int→Option Int→Hp→VK→Prop:=fun x lo hi H Q=>∃ a xs,x=.ref a∧SqL K H a xs∧∀ p,H p=none→Q (.ref p) (upd H p (.lst (cutV xs lo hi)))
theorem VY:SlR X (rSlL X.K):=by
 intro pins s σ H x v vl vu lo hi sl Q I rx hs pl pu h;obtain ⟨a,xs,rfl,hx,q⟩:=h
 cases rx
 obtain ⟨its,r,ht,hz⟩:=I.list hx;have hlen:=r.length;refine ⟨"list",_,slot_list_getitem.lookup,ht.isList.typeIs,?_⟩;refine wpAny_getItem_list_slice ht.isList hs pl pu .none (by simp) ?_ (by rw [List.size_toArray] <;> omega);rw [slicePick_cut,← hlen];refine ⟨.ref s.heap.objs.size,_,I.laid (t':=s.toks) (o:=.lst (cutV xs lo hi)) (fun b ob q=>Heap.get?_push_of_some _ q) (Nat.le_refl _) ?_,rfl,q _ (I.hok.fresh (Nat.le_refl _))⟩;exact ⟨Ba (cutV_length xs lo hi) hz,_,0,(r.drop (HT.sIx xs.length 0 lo)).take (HT.sIx xs.length xs.length hi - HT.sIx xs.length 0 lo),Heap.get?_push_size _ rfl⟩
def flatV:V→Bool
 | .non=>true
 | .bl _=>true
 | .int _=>true
 | .str _=>true
 | _=>false
def eqV:V→V→Bool
 | .non,.non=>true
 | .bl a,.bl b=>a==b
 | .bl a,.int b=>(if a then 1 else 0)==b
 | .int a,.bl b=>a==(if b then 1 else 0)
 | .int a,.int b=>a==b
 | .str a,.str b=>a==b
 | _,_=>false
theorem eqAt_V {A:Around} {s:Shared} {y x:V} {u v:Value} (ry:RelV y u) (rx:RelV x v) (fy:flatV y=true) (fx:flatV x=true):SeqAt.EqAt A s u v (eqV y x):=by
 cases y with
 | non =>
  cases ry
  cases x with
  | non=>cases rx; exact SeqAt.EqAt.same _
  | bl b=>cases rx; exact SeqAt.EqAt.none_bool b
  | int b=>obtain ⟨t,rfl⟩:=rx; exact SeqAt.EqAt.none_int b t
  | str b=>obtain ⟨t,rfl⟩:=rx; exact SeqAt.EqAt.none_str b t
  | _=>exact absurd (show false=true from fx) Bool.false_ne_true
 | bl a =>
  cases ry
  cases x with
  | non=>cases rx; exact SeqAt.EqAt.bool_none a
  | bl b=>cases rx; exact SeqAt.EqAt.bool_bool a b
  | int b=>obtain ⟨t,rfl⟩:=rx; exact SeqAt.EqAt.bool_int a b t
  | str b=>obtain ⟨t,rfl⟩:=rx; exact SeqAt.EqAt.bool_str a b t
  | _=>exact absurd (show false=true from fx) Bool.false_ne_true
 | int a =>
  obtain ⟨t',rfl⟩:=ry
  cases x with
  | non=>cases rx; exact SeqAt.EqAt.int_none a t'
  | bl b=>cases rx; exact SeqAt.EqAt.int_bool a t' b
  | int b=>obtain ⟨t,rfl⟩:=rx; exact SeqAt.EqAt.int_int a t' b t
  | str b=>obtain ⟨t,rfl⟩:=rx; exact SeqAt.EqAt.int_str a t' b t
  | _=>exact absurd (show false=true from fx) Bool.false_ne_true
 | str a =>
  obtain ⟨t',rfl⟩:=ry
  cases x with
  | non=>cases rx; exact SeqAt.EqAt.str_none a t'
  | bl b=>cases rx; exact SeqAt.EqAt.str_bool a t' b
  | int b=>obtain ⟨t,rfl⟩:=rx; exact SeqAt.EqAt.str_int a t' b t
  | str b=>obtain ⟨t,rfl⟩:=rx; exact SeqAt.EqAt.str_str a t' b t
  | _=>exact absurd (show false=true from fx) Bool.false_ne_true
 | _=>exact absurd (show false=true from fy) Bool.false_ne_true
def eqU (x:V) (u:Value):Bool:=match u with
 | .none=>eqV .non x
 | .bool b=>eqV (.bl b) x
 | .int i _=>eqV (.int i) x
 | .str z _=>eqV (.str z) x
 | _=>false
theorem eqU_of {x y:V} {u:Value} (r:RelV y u) (f:flatV y=true):eqU x u=eqV y x:=by
 cases y with
 | non=>cases r; rfl
 | bl b=>cases r; rfl
 | int i=>obtain ⟨t,rfl⟩:=r; rfl
 | str z=>obtain ⟨t,rfl⟩:=r; rfl
 | _=>exact absurd (show false=true from f) Bool.false_ne_true
theorem any_eqU {x:V}:∀ {xs:List V} {us:List Value},Vals xs us→xs.all flatV=true→us.any (eqU x)=xs.any fun y=>eqV y x
 | _,_,.nil,_=>rfl
 | y::xs,u::us,.cons r t,f=>by
  rw [List.all_cons,Bool.and_eq_true] at f;rw [List.any_cons,List.any_cons,eqU_of r f.1,any_eqU t f.2]
theorem mem_eqAt {A:Around} {s:Shared} {x:V} {v:Value} (rx:RelV x v) (fx:flatV x=true):∀ {xs:List V} {us:List Value},Vals xs us→xs.all flatV=true→∀ u∈us,SeqAt.EqAt A s u v (eqU x u)
 | _,_,.nil,_=>fun u hu=>by cases hu
 | y::xs,u::us,.cons r t,f=>fun u' hu=>by
  rw [List.all_cons,Bool.and_eq_true] at f
  rcases List.mem_cons.mp hu with rfl | hu
  ·rw [eqU_of r f.1]; exact eqAt_V r rx f.1 fx
  ·exact mem_eqAt rx fx t f.2 u' hu
def inV (x:V) (xs:List V):Bool:=xs.any fun y=>eqV y x
def rIn (K:Bc) (neg:Bool):R2:=fun x y H Q=>∃ p xs,y=.ref p∧(SqL K H p xs∨SqT K H p xs)∧flatV x=true∧xs.all flatV=true∧Q (.bl (if neg then !inV x xs else inV x xs)) H
theorem op_in_seq:OpR X (compareOp .In) (rIn X.K false):=by
 intro pins s σ H x y v u Q I rx ry h;obtain ⟨p,xs,rfl,hq,fx,fs,q⟩:=h
 cases ry
 rcases hq with hq | hq
 ·obtain ⟨its,r,pl,hz⟩:=I.list hq
  refine SeqAt.in_listAt (eqU x) pl.isList (fun w hw=>mem_eqAt rx fx r fs w (by simpa using hw)) ⟨.bl _,H,I,rfl,?_⟩;rw [show its.toArray.any (eqU x)=its.any (eqU x) by simp,any_eqU r fs];exact q
 ·obtain ⟨its,r,pl,hz⟩:=I.tuple hq
  refine SeqAt.in_tupleAt (eqU x) pl (fun w hw=>mem_eqAt rx fx r fs w (by simpa using hw)) ⟨.bl _,H,I,rfl,?_⟩;rw [show its.toArray.any (eqU x)=its.any (eqU x) by simp,any_eqU r fs];exact q
theorem yV:CallR X (.builtin "len") (fun xs H Q=>∃ p ys,xs=[.ref p]∧(SqL X.K H p ys∨SqT X.K H p ys)∧Q (.int ys.length) H):=by
 intro pins s σ H xs us Q I r h;obtain ⟨p,ys,rfl,hq,q⟩:=h;obtain ⟨u,rfl,rx⟩:=vals1 r
 cases rx
 have hn:=line63
 rcases hq with hq | hq
 ·obtain ⟨its,r',pl,hz⟩:=I.list hq
  have hlen:=r'.length;exact Calls.call_len_list pl.isList (by simp only [List.size_toArray] <;> omega) ⟨.int ys.length,H,I.tok _,⟨s.toks+1,by rw [List.size_toArray,hlen]⟩,q⟩
 ·obtain ⟨its,r',pl,hz⟩:=I.tuple hq
  have hlen:=r'.length;exact len_tuple pl (by simp only [List.size_toArray] <;> omega) ⟨.int ys.length,H,I.tok _,⟨s.toks+1,by rw [List.size_toArray,hlen]⟩,q⟩
theorem xj:CallR X (.type "list") (fun xs H Q=>∃ p ys,xs=[.ref p]∧(SqL X.K H p ys∨SqT X.K H p ys)∧∀ l,H l=none→Q (.ref l) (upd H l (.lst ys))):=by
 intro pins s σ H xs us Q I r h;obtain ⟨p,ys,rfl,hq,q⟩:=h;obtain ⟨u,rfl,rx⟩:=vals1 r
 cases rx
 have fin:∀ (its:List Value),Vals ys its→ys.length≤sizeLine→∀ (h':Heap) (c':Nat),(∀ b o',s.heap.get? b=some o'→h'.get? b=some o')→h'.get? s.heap.objs.size=some { cls:=.type "list",dict:=none,data:=.seq its.toArray c',slots:=#[] }→EP X pins σ Q (.ref s.heap.objs.size) { s with heap:=h' }:=fun its r' hz h' c' kp e =>
  ⟨.ref s.heap.objs.size,_,I.laid (t':=s.toks) kp (Nat.le_refl _) (show ObjOk X.prog X.w _ h' _ (.lst ys) from ⟨hz,its,c',r',e⟩),rfl,q _ (I.hok.fresh (Nat.le_refl _))⟩
 rcases hq with hq | hq
 ·obtain ⟨its,r',pl,hz⟩:=I.list hq
  have hlen:=r'.length;obtain ⟨o,ho,hc,n,hd⟩:=pl.isList;exact call_list_seq p (.inl rfl) ho hc hd (fun h' c' kp e=>fin its r' hz h' c' kp e) (by simp only [List.size_toArray] <;> omega)
 ·obtain ⟨its,r',pl,hz⟩:=I.tuple hq
  have hlen:=r'.length;obtain ⟨o,ho,hc,n,hd⟩:=pl;exact call_list_seq p (.inr rfl) ho hc hd (fun h' c' kp e=>fin its r' hz h' c' kp e) (by simp only [List.size_toArray] <;> omega)
def tyV (K:Bc) (T:String) (x:V) (H:Hp):Prop:=match x with
 | .str _=>T = "str"
 | .int _=>T = "int"
 | .ref p=>(T = "list" ∧ ∃ xs,SqL K H p xs)∨(T = "tuple" ∧ ∃ o,K.lookup p=some o∧o.cls=.type "tuple" ∧ o.dict=none) ∨
   (T = "dict" ∧ ((∃ kvs,H p=some (.dK kvs))∨∃ kvs,H p=some (.dT kvs)))∨(T = "set" ∧ ∃ S n,H p=some (.set S n))
 | _=>False
theorem tyV_is {pins:List (Addr×Obj)} {σ:St} {H:Hp} {s:Shared} {T:String} {x:V} {v:Value} (I:Inv X pins σ H s) (r:RelV x v) (ty:tyV X.K T x H) :
  s.TypeIs v T∧∀ a,v=.ref a→∃ ob,s.heap.get? a=some ob∧ob.dict=none:=by
 cases x with
 | str z =>
  obtain ⟨t,rfl⟩:=r
  cases (show T = "str" from ty)
  exact ⟨typeIs_str s z t,fun _ e=>nomatch e⟩
 | int i =>
  obtain ⟨t,rfl⟩:=r
  cases (show T = "int" from ty)
  exact ⟨typeIs_int s i t,fun _ e=>nomatch e⟩
 | ref p =>
  cases r
  rcases ty with ⟨rfl,xs,hq⟩ | ⟨rfl,o,hk,hc,hd⟩ | ⟨rfl,hk⟩ | ⟨rfl,S,n,hk⟩
  ·obtain ⟨its,_,pl,_⟩:=I.list hq
   refine ⟨pl.isList.typeIs,fun a e=>?_⟩
   cases e
   obtain ⟨o,n,e,c,hd,_⟩:=pl;exact ⟨o,e,hd⟩
  ·refine ⟨⟨o,I.kIn p o hk,hc⟩,fun a e=>?_⟩
   cases e
   exact ⟨o,I.kIn _ o hk,hd⟩
  ·have z:∃ o,s.heap.get? p=some o∧o.ExactDict:=by
    rcases hk with ⟨kvs,hk⟩ | ⟨kvs,hk⟩
    ·obtain ⟨_,_,_,_,o,_,_,e,ex,_⟩:=I.hok p _ hk
     exact ⟨o,e,ex⟩
    ·obtain ⟨_,_,_,_,o,_,_,e,ex,_⟩:=I.hok p _ hk
     exact ⟨o,e,ex⟩
   obtain ⟨o,e,ex⟩:=z;refine ⟨⟨o,e,ex.1⟩,fun a e2=>?_⟩
   cases e2
   exact ⟨o,e,ex.2.1⟩
  ·obtain ⟨o,_,_,_,e,ex,_⟩:=I.hok p _ hk
   refine ⟨⟨o,e,ex.1⟩,fun a e2=>?_⟩
   cases e2
   exact ⟨o,e,ex.2.1⟩
 | _=>exact False.elim ty
def tBM (K:Bc) (T:String) (r:V→List V→Hp→VK→Prop) (to:TE) (t:TA):TE:=fun σ H Q=>to σ H fun x H1=>tyV K T x H1∧t σ H1 fun xs H2=>r x xs H2 Q
variable {o e:Expr} {es:List Expr} {to:TE} {t:TA} {name:Str} {apos cpos:Pos} {T id:String} {r:V→List V→Hp→VK→Prop}
theorem pe_bm (pa:PlainAttrs T) (slot:Slot T name id) (hty:typeOf (.builtin id)=pure (.type "method_descriptor")) (hm:MtR X id r) (ho:PE X o to) (ha:PA X (e::es) t)
  (hbase:attributeBase o name X.env (eval o X.env)=eval o X.env:=by rfl)
  (hfew:((backTo cpos (starEach (e::es) X.env)).all (fun x=>!x.1)&&(backToKw cpos (keywordEach [] X.env)).all (fun x=>x.1.isSome)
   && decide ((e::es).length+([]:List Keyword).length+(if ([]:List Keyword).isEmpty then 0 else 1)<30))=true:=by rfl)
  (hline:(apos.endLine==cpos.line)=true:=by rfl) (hs:starEach (e::es) X.env=(false,eval e X.env)::starEach es X.env:=by exact qq rfl _ _) (hplain:(backTo cpos (starEach es X.env)).any (·.1)=false:=by rfl) :
  PE X (.Call (.Attribute o name apos) (e::es) [] cpos) (tBM X.K T r to t):=by
 intro pins s σ H Q I h;refine wpAny_Call_method_late hbase hfew hline rfl (thn (ho pins s σ H _ I h) fun v s1 ⟨x,H1,I1,r1,ty,q1⟩=>?_);obtain ⟨h1,h2⟩:=tyV_is I1 r1 ty;refine ⟨T,id,pa,slot,hty,h1,h2,?_⟩;have hA:=ha cpos pins s1 σ H1 _ I1 q1;rw [hs] at hA ⊢;refine Calls.callWith_builtin (by show (false||(backTo cpos (starEach es X.env)).any (·.1))=false; rw [hplain] <;> rfl) (Calls.evalArgs_plain ?_);exact thn hA fun us s2 ⟨vs,H2,I2,r2,q2⟩=>hm pins s2 σ H2 x vs v us Q I2 r1 r2 q2
end
end L2
namespace L2
open PySem PySem.Spec PyProof.Rows
def MtM (X:Cx) (id:String) (r:V→List V→Hp→VK→Prop):Prop :=
 ∀ (pins:List (Addr×Obj)) (s:Shared) (σ:St) (H:Hp) (x:V) (xs:List V) (v:Value) (us:List Value) (Q:VK),Inv X pins σ H s→RelV x v→Vals xs us→r x xs H Q→wpAny (model X.prog X.w) X.A (call (.builtin id) (v::us)) (EP X pins σ Q) X.xe s
theorem Vals.one:∀ {x:V} {us:List Value},Vals [x] us→∃ u,us=[u]∧RelV x u
 | _,_,.cons r .nil=>⟨_,rfl,r⟩
theorem Vals.rep {xs:List V} {us:List Value} (h:Vals xs us):∀ k:Nat,Vals (List.replicate k xs).flatten (List.replicate k us).flatten
 | 0=>.nil
 | k+1=>by
  rw [List.replicate_succ,List.replicate_succ,List.flatten_cons,List.flatten_cons];exact Vals.append h (Vals.rep h k)
theorem foldl_rep (its:List Value):∀ (k:Nat) (acc:List Value),List.foldl (fun x1 x2=>x1++x2) acc.toArray (List.replicate k its.toArray)=(acc++(List.replicate k its).flatten).toArray
 | 0,acc=>by simp
 | k+1,acc=>by
  have e:acc.toArray++its.toArray=(acc++its).toArray:=by simp
  have e2:(acc++its)++(List.replicate k its).flatten=acc++(List.replicate (k+1) its).flatten:=by
   rw [List.replicate_succ,List.flatten_cons,List.append_assoc]
  rw [← e2,← foldl_rep its k (acc++its),← e,List.replicate_succ,List.foldl_cons]
section
variable {X:Cx} {pins:List (Addr×Obj)} {σ:St} {H:Hp} {s:Shared} {l b:Addr} {xs ys zs:List V}
theorem Inv.lset {its its':List Value} {n:Nat} {f:Array Value→Array Value} {t':Nat} (I:Inv X pins σ H s) (hH:H l=some (.lst xs))
  (e:s.heap.get? l=some { cls:=.type "list",data:=.seq its.toArray n }) (hf:f its.toArray=its'.toArray) (hv:Vals ys its') (hz:ys.length≤sizeLine) :
  Inv X pins σ (upd H l (.lst ys)) { s with heap:=s.heap.update l (Obj.mapSeq f),toks:=t' }:=by
 have q:=PySem.IsL.update e f;rw [hf] at q;refine I.write (x:=l) (e:=l) (by rw [hH]; exact trivial) (.inl rfl) (fun b' u hb hu=>(Heap.get?_update_other s.heap (Obj.mapSeq f) (Ne.symm hb)).trans hu) ⟨_,q⟩ ?_;exact ⟨hz,its',_,hv,q⟩
theorem Inv.lnew {its:List Value} {t':Nat} (I:Inv X pins σ H s) (hv:Vals ys its) (hz:ys.length≤sizeLine) :
  Inv X pins σ (upd H s.heap.objs.size (.lst ys)) { s with heap:=s.heap.push { cls:=.type "list",data:=.seq its.toArray },toks:=t' } :=
 I.laid (fun _ _ q=>Heap.get?_push_of_some _ q) (Nat.le_refl _) ⟨hz,its,0,hv,Heap.get?_push_size _ rfl⟩
theorem Inv.fresh (I:Inv X pins σ H s):H s.heap.objs.size=none:=I.hok.fresh (Nat.le_refl _)
theorem Inv.lstM (I:Inv X pins σ H s) (hH:H l=some (.lst xs)):xs.length≤sizeLine∧∃ (its:List Value) (n:Nat),Vals xs its∧xs.length=its.length∧s.heap.get? l=some { cls:=.type "list",data:=.seq its.toArray n }:=by
 obtain ⟨z,its,n,r,e⟩:=I.hok l _ hH;exact ⟨z,its,n,r,r.length,e⟩
theorem notLongL {n:Nat} (h:n≤sizeLine):Builtin.List.listTooLong n=false:=by
 unfold Builtin.List.listTooLong;exact decide_eq_false (by omega)
end
section
variable {X:Cx}
def rAppend:V→List V→Hp→VK→Prop:=fun x vs H Q=>∃ l xs y,x=.ref l∧vs=[y]∧H l=some (.lst xs)∧xs.length<sizeLine∧Q .non (upd H l (.lst (xs++[y])))
theorem VQ:MtM X "list.append" rAppend:=by
 intro pins s σ H x vs v us Q I rx rv h;obtain ⟨l,xs,y,rfl,rfl,hH,hz,q⟩:=h
 cases rx
 obtain ⟨u,rfl,ru⟩:=rv.one;obtain ⟨z,its,n,r,hl,e⟩:=I.lstM hH;refine call_meets F.slot_list_append ⟨_,e,rfl⟩ F.entry_list_append (F.args_list_append_2 _ _) (PySem.list_append l its.toArray n u (by rw [List.size_toArray]; omega)) ⟨e,?_⟩;refine ⟨.non,_,I.lset (its':=its++[u]) hH e (by simp) (r.append (.cons ru .nil)) ?_,rfl,q⟩;rw [Ak,Ab];omega
def rCat:R2:=fun x y H Q=>∃ l b xs zs,x=.ref l∧y=.ref b∧H l=some (.lst xs)∧H b=some (.lst zs)∧xs.length+zs.length≤sizeLine∧∀ p,H p=none→Q (.ref p) (upd H p (.lst (xs++zs)))
theorem op_cat:OpR X (binaryOp .Add) rCat:=by
 intro pins s σ H x y v u Q I rx ry h;obtain ⟨l,b,xs,zs,rfl,rfl,hH,hB,hz,q⟩:=h
 cases rx
 cases ry
 obtain ⟨z,its,n,r,hl,e⟩:=I.lstM hH;obtain ⟨z2,its2,n2,r2,hl2,e2⟩:=I.lstM hB;refine PySem.P.add_list e e2 ?_ (by rw [List.size_toArray,List.size_toArray]; omega);have ea:its.toArray++its2.toArray=(its++its2).toArray:=by simp
 rw [ea];exact ⟨.ref _,_,I.lnew (t':=s.toks) (r.append r2) (by rw [Ak]; omega),rfl,q _ I.fresh⟩
def rRep:R2:=fun x y H Q=>∃ l k xs,x=.ref l∧y=.int k∧H l=some (.lst xs) ∧ -(2^63)≤k∧k<2^63∧xs.length*k.toNat≤sizeLine∧∀ p,H p=none→Q (.ref p) (upd H p (.lst (List.replicate k.toNat xs).flatten))
theorem len_rep {α:Type} (xs:List α) (k:Nat):(List.replicate k xs).flatten.length=k*xs.length:=by
 induction k with
 | zero=>simp
 | succ k ih=>rw [List.replicate_succ,List.flatten_cons,Ak,ih,Nat.succ_mul,Nat.add_comm]
theorem op_rep:OpR X (binaryOp .Mult) rRep:=by
 intro pins s σ H x y v u Q I rx ry h;obtain ⟨l,k,xs,rfl,rfl,hH,h1,h2,hz,q⟩:=h
 cases rx
 obtain ⟨t,rfl⟩:=ry;obtain ⟨z,its,n,r,hl,e⟩:=I.lstM hH;have hlen:its.toArray.size*k.toNat≤sizeLine:=by rw [List.size_toArray,← hl]; exact hz
 have hcap:¬ its.toArray.size*k.toNat>(2^63 - 1)/8:=by
  have:(sizeLine:Nat)≤(2^63 - 1)/8:=by decide
  omega
 have hfit:¬ (!Builtin.List.listFitsIndex k)=true:=by
  rw [fitsIndex_both h1 h2];exact Bool.false_ne_true
 have hlong:¬ Builtin.List.listTooLong (its.toArray.size*k.toNat)=true:=by
  rw [notLongL hlen];exact Bool.false_ne_true
 have hnew:List.foldl (fun x1 x2=>x1++x2) #[] (List.replicate (if its.toArray.isEmpty=true then 0 else k.toNat) its.toArray)=(List.replicate k.toNat its).flatten.toArray:=by
  have f0:∀ m:Nat,List.foldl (fun x1 x2=>x1++x2) #[] (List.replicate m its.toArray)=(List.replicate m its).flatten.toArray:=fun m=>by
   have:=foldl_rep its m [];rw [List.nil_append] at this;exact this
  rw [f0]
  cases its with
  | nil=>simp
  | cons a r'=>rw [if_neg (by simp)]
 refine wpAny_binaryOp_repeat_ref (T := "list") (U := "int") (by decide) ⟨_,e,rfl⟩ (fun s'=>typeIs_int s' k t) noFill_list_mul F.fills_int_mul F.slot_int_rmul repeat_list F.slot_int_index.lookup
  (call_meets F.slot_int_rmul (typeIs_int s k t) F.entry_int_rmul (F.args_int_rmul_2 _ _) (int___rmul___int_list k t l its.toArray n)
   ⟨e,rfl,⟨_,e,rfl⟩,call_meets F.slot_list_mul ⟨_,e,rfl⟩ F.entry_list_mul (F.args_list_mul_2 _ _) (AutoListH.list___mul___list_int_3 l its.toArray n k t hfit hcap hlong) ⟨e,?_⟩⟩)
 rw [hnew];exact ⟨.ref _,_,I.lnew (t':=s.toks) (r.rep k.toNat) (by rw [len_rep,Nat.mul_comm]; exact hz),rfl,q _ I.fresh⟩
end
section
variable {prog:Program} {w:World} {A:Around} {E:Value→Shared→Prop} {s:Shared}
end
section
variable {X:Cx}
end
end L2
namespace Att
open PySem PySem.W PySem.Calls PyProof.Rows
theorem ints_of_wellAll {P:Params} {h:Heap}:∀ (ns:List Int) (vs:List Value),WellAll P h vs (ns.map WData.int)→IntsAre vs ns:=by
 intro ns
 induction ns with
 | nil =>
  intro vs w;rw [List.map_nil] at w
  cases w
  exact .nil
 | cons n ns ih =>
  intro vs w;rw [List.map_cons] at w
  cases w with
  | cons a b =>
   cases a
   exact .cons _ _ (ih _ b)
theorem script_of {l:OpenLaw} {n:Nat} (hn:l.most=some n) {P:Params} {h:Heap} {args:List WData} {vals:List Value}
  (hpre:l.row.toRowW.claim.pre args=true) (hwl:WellAll P h vals args) :
  ∃ a vs ns,vals=[Value.ref a]∧args=[WData.list (ns.map WData.int)]∧h.get? a=some { cls:=.type "list",data:=.seq vs.toArray }∧IntsAre vs ns∧ns.length≤n:=by
 have hsh:WShape.hasAll [] args [.list .int]=true:=(pre_splitW hpre).1;have hc:l.pre.holds [] { args:=args }=true:=(pre_splitW hpre).2;obtain ⟨d,r,rfl,h1,h2⟩:=hasAllW_cons hsh;obtain rfl:=hasAllW_nil h2;obtain ⟨xs,rfl,h3⟩:=hasW_list h1;obtain ⟨ns,rfl⟩:=items_int h3;have hlen:ns.length≤n:=by
  unfold OpenLaw.pre at hc;have h4:(WTm.not (.lt (.lit (.int (n:Int))) (.len (.arg 0)))).holds [] { args:=[.list (ns.map .int)] }=true:=by
   have h4:=(holds_andW hc).1;rw [hn] at h4;exact h4
  have h5:=condW_of h4 (w_not (w_lt w_lit (w_len_list (w_arg rfl))));rw [Av] at h5;refine Nat.le_of_not_lt fun q=>?_
  have q':(n:Int)<((ns.length:Nat):Int):=by omega
  first
   | (rw [decide_eq_true q'] at h5; exact absurd h5 (by decide))
   | (simp at h5; omega)
 cases hwl with
 | cons w1 w2 =>
  cases w2
  cases w1 with
  | list ho hall=>exact ⟨_,_,ns,rfl,rfl,ho,ints_of_wellAll ns _ hall,hlen⟩
theorem post_true (l:OpenLaw) (args:List WData):l.row.toRowW.claim.post args (.bool true) args=true :=
 postW_of (r:=l.row.toRowW) (X:=(true==true))
  (show WShape.has [] (.bool true) .bool=true by first | rfl | decide | simp [WShape.has,WShape.arms,WShape.armsAll])
  (show (WTm.eq .res (.lit (.bool true))).value [] { args:=args,res:=some (.bool true),after:=args }=some (.bool (true==true)) from w_eq_bool (w_res rfl) w_lit) rfl
theorem attach_call {l:OpenLaw} {n:Nat} {q:Program} {loose:List Str} {XP:(Str→Option Value)→Heap→Prop} {YP:World→Heap→Prop} {d:DefRec}
  (hn:l.most=some n) (hdf:d.params.defaults=[])
  (call:∀ (w:World) (s₀ s₁:Shared) (mg mb:Str→Option Value) (fa:Addr) (o:Obj) (pm cd doc:Value) (a:Addr) (vs:List Value) (ns:List Int),Ground q loose [] XP w s₀ mg mb s₁.heap→YP w s₁.heap→s₁.heap.get? fa=some o→o.data=.func (docDef d.name d.params d.body d.scope pm cd doc)→s₁.heap.CodeRec cd d.name→mg d.name=some (.ref fa)→s₁.heap.get? a=some { cls:=.type "list",data:=.seq vs.toArray }→IntsAre vs ns→ns.length≤n→s₁.gens=#[]→codeAny (model l.prog w) callerA (.call (.ref fa) ⟨[.ref a],[]⟩) (fun r s'=>r=.ok (.ret (.bool true))∧OldK s₁.heap s'.heap∧s'.os=s₁.os∧AllBare s'.gens) s₁) :
  WalkO q loose XP YP l.row.toRowW d [] (fun f vs=>PySem.call f vs):=by
 intro w s₀ s₁ mg mb G Y fa o pm cd doc dV kV ho hd hcd hD hmg hg args vals as hpre hlay hrd hwl hlo;obtain rfl:dV=.none:=Dflts.none hD hdf;obtain rfl:kV=.none:=Dflts.noKw hD;obtain ⟨a,vs,ns,rfl,rfl,hobj,hints,hlen⟩:=script_of hn hpre hwl;refine enter_call (codeAny_mono (call w s₀ s₁ mg mb fa o pm cd doc a vs ns G Y ho (fd_plain hd) hcd hmg hobj hints hlen hg) fun r s' hq=>?_);obtain ⟨rfl,h2,h3,h4⟩:=hq;exact ⟨.inl ⟨.bool true,.bool true,[],rfl,fun _=>rfl,.bool true,post_true l _,fun _=>⟨List.Pairwise.nil,fun _ hm=>(nomatch hm)⟩⟩,h2,h3,h4⟩
section
variable {prog:Program} {w:World} {A:Around} {E:Value→Shared→Prop} {s:Shared} {K:Frag}
def ledger (h:Heap) (L d:Addr):List (Addr×Obj):=(List.range h.objs.size).filterMap fun a=>if a=L∨a=d then none else (h.get? a).map fun o=>(a,o)
end
end Att
namespace L2
open PySem PySem.Spec PyProof.Rows
theorem vals_ints:∀ {vs:List Value} {ns:List Int},IntsAre vs ns→Vals (ns.map V.int) vs
 | _,_,.nil=>.nil
 | _,_,.cons n t h=>.cons ⟨t,rfl⟩ (vals_ints h)
end L2
namespace L2
open PySem PySem.Spec PyProof.Rows
abbrev KOf {K:Bc} {h:Heap} (_:K.In h):Bc:=K
end L2
namespace L2
open PySem PySem.Spec PyProof.Rows
abbrev CX0:CXT:=fun _ _ _ _ _ _=>False
abbrev E0:XK:=fun _ _ _=>False
theorem pass0 {X:Cx}:Passes CX0 X E0:=fun _ _ _ _ _ _ _ h=>h.elim
structure Fun (K:Bc) (x qual:Str) (st:Stmt) (f:Addr) (fd:FuncData):Prop where
 ex:∃ (oc:Value) (od:Option Addr) (kV doc pm:Value) (an:Option Addr) (cdv ct:Value) (osl:Array (Option Value)),fd=PySem.W.fnOf x qual (ww st) (yw st) (qQ st) .none kV doc pm an cdv ct∧K.lookup f=some ⟨oc,od,.func fd,osl⟩∧PySem.W.codeIn K cdv qual=true
 kp:PySem.W.keepIn K (.ref f)=true
section
variable {P:Program} {w:World} {K:Bc} {mg:Str→Option Value} {base:Heap}
theorem Fun.ok {x qual:Str} {st:Stmt} {f:Addr} {fd:FuncData} {N ps:List Str} {k:Nat} {sp:Sp} (F:Fun K x qual st f fd) (S:FnScope N ps (qQ st)) (len:∀ vs H Q E,sp vs H Q E→vs.length=ps.length)
  (hbody:∀ (cdv:Value) (A:Around) (outer:List Env) (s:Shared) (H:Hp) (vs:List V) (Q:VK) (E:XK),Room k (A.deeper (envOfC qual (qQ st) s.heap.objs.size f cdv))→sp vs H Q E→∃ t,PSs (cxOf CX0 P w K mg base N qual (qQ st) f cdv A outer s H E).nox (yw st) t∧t { nx:=fun _ H'=>Q .non H',rt:=Q } (start N vs) H):FnOk P w K mg base CX0 (k+1) f fd ps sp:=by
 obtain ⟨oc,od,kV,doc,pm,an,cdv,ct,osl,rfl,lk,hcd⟩:=F.ex;refine fn_of lk hcd S len fun A outer s H vs Q E hr hsp=>?_
 obtain ⟨t,h,q⟩:=hbody cdv A outer s H vs Q E hr hsp;exact ⟨t,h.nox,q⟩
theorem Fun.binds {x qual:Str} {st:Stmt} {f:Addr} {fd:FuncData} {ps:List Str} (F:Fun K x qual st f fd)
  (h:∀ (kV doc pm:Value) (an:Option Addr) (cdv ct:Value) (us:List Value),us.length=ps.length→bindArgs (PySem.W.fnOf x qual (ww st) (yw st) (qQ st) .none kV doc pm an cdv ct) ⟨us,[]⟩=pure (ps.zip us)):Binds K fd ps []:=by
 obtain ⟨oc,od,kV,doc,pm,an,cdv,ct,osl,rfl,lk,hcd⟩:=F.ex;exact .all (h kV doc pm an cdv ct)
theorem fun_mk {x qual:Str} {st:Stmt} {f:Addr} {oc:Value} {od an:Option Addr} {osl:Array (Option Value)} {kV doc pm cdv ct:Value} (l:K.lookup f=some ⟨oc,od,.func (PySem.W.fnOf x qual (ww st) (yw st) (qQ st) .none kV doc pm an cdv ct),osl⟩)
  (c:PySem.W.codeIn K cdv qual=true) (k:PySem.W.keepIn K (.ref f)=true):Fun K x qual st f (PySem.W.fnOf x qual (ww st) (yw st) (qQ st) .none kV doc pm an cdv ct):=⟨⟨oc,od,kV,doc,pm,an,cdv,ct,osl,rfl,l,c⟩,k⟩
end
theorem hu_of {A:Around} {k:Nat} (hr:Room k A):A.units+1<cLine:=Ao (Nat.add_le_add_left (by decide:1≤64) _) hr.units
theorem zw {n:Nat} (h:n≤1000):n<sizeLine:=Ao h (by decide)
section
variable {X:Cx}
theorem pv (i:Nat) {x:Str} {pos:Pos} (hN:X.N[i]?=some x:=by rfl) (hv:Vis X.env.scope x:=by first | exact Or.inl rfl | exact Or.inr (Or.inl rfl) | exact Or.inr (Or.inr rfl)) (hd:(x==("__debug__" : Str))=false:=by decide)
  (hcd:(x==("__classdict__" : Str))=false:=by decide):PE X (.Name x pos) (tVar i):=pe_var hN hv hd hcd
end
theorem iteF {A B:Prop} (h:B):if false=true then A else B:=by
 rw [if_neg Bool.false_ne_true];exact h
theorem iteT {A B:Prop} (h:A):if true=true then A else B:=by
 rw [if_pos rfl];exact h
theorem iteNS {c A B:Prop} [Decidable c] (hc:c) (h:B):if (!decide c)=true then A else B:=by
 rw [decide_eq_true hc];exact iteF h
def Same (H H':Hp):Prop:=∀ b o,H b=some o→H' b=some o
theorem Same.refl (H:Hp):Same H H:=fun _ _ h=>h
theorem Same.trans {H H1 H2:Hp} (a:Same H H1) (b:Same H1 H2):Same H H2:=fun c o h=>b c o (a c o h)
theorem Same.seq {K:Bc} {H H':Hp} {a:Addr} {xs:List V} (e:Same H H') (h:SqL K H a xs):SqL K H' a xs:=by
 rcases h with (h | ⟨o,h⟩) | h
 ·exact .inl (.inl (e _ _ h))
 ·exact .inl (.inr ⟨o,e _ _ h⟩)
 ·exact .inr h
end L2
namespace BP
def Sm (n:Nat) (x:Int):Prop:=x.natAbs<2^n
theorem Sm.mono {m n:Nat} {x:Int} (h:Sm m x) (l:m≤n):Sm n x:=An h (Ai (by decide) l)
theorem Sm.mul {m n:Nat} {x y:Int} (hx:Sm m x) (hy:Sm n y):Sm (m+n) (x*y):=by
 unfold Sm at *;rw [B4,Nat.pow_add];exact Nat.mul_lt_mul'' hx hy
theorem Sm.sub {n:Nat} {x y:Int} (hx:Sm n x) (hy:Sm n y):Sm (n+1) (x - y):=by
 unfold Sm at *;rw [Nat.pow_succ];omega
theorem Sm.neg {n:Nat} {x:Int} (hx:Sm n x):Sm n (-x):=by
 unfold Sm at *;rw [Int.natAbs_neg]; exact hx
theorem Sm.le {n:Nat} {x y:Int} (h:Sm n y) (l:x.natAbs≤y.natAbs):Sm n x:=Ao l h
theorem Sm.log2 {n:Nat} {x:Int} (h:Sm n x) (hn:0<n):x.natAbs.log2<n:=by
 by_cases h0:x.natAbs=0
 ·rw [h0]; simpa using hn
 ·exact (Nat.log2_lt h0).mpr h
structure IsR (x y:Int):Prop where
 pos:0<y
 low:Int.gcd x y=1
def sg (t b:Int):Int:=if b<0 then -(Int.gcd t b:Int) else (Int.gcd t b:Int)
theorem W9 {t b:Int} (hb:b≠0):0<Int.gcd t b:=Nat.pos_of_ne_zero fun h=>hb (Int.gcd_eq_zero_iff.mp h).2
theorem sg_ne {t b:Int} (hb:b≠0):sg t b≠0:=by
 have:=W9 (t:=t) hb;unfold sg; split <;> omega
theorem sg_dvd_left (t b:Int):sg t b∣t:=by
 unfold sg; split
 ·exact Int.neg_dvd.mpr (Int.gcd_dvd_left t b)
 ·exact Int.gcd_dvd_left t b
theorem sg_dvd_right (t b:Int):sg t b∣b:=by
 unfold sg; split
 ·exact Int.neg_dvd.mpr (Int.gcd_dvd_right t b)
 ·exact Int.gcd_dvd_right t b
def nt (t b:Int):Int:=t.fdiv (sg t b)
def nb (t b:Int):Int:=b.fdiv (sg t b)
theorem sg_nt (t b:Int):sg t b*nt t b=t:=Int.mul_fdiv_cancel' (sg_dvd_left t b)
theorem sg_nb (t b:Int):sg t b*nb t b=b:=Int.mul_fdiv_cancel' (sg_dvd_right t b)
theorem sg_abs (t b:Int):(sg t b).natAbs=Int.gcd t b:=by
 unfold sg; split <;> omega
theorem nb_pos {t b:Int} (hb:b≠0):0<nb t b:=by
 have e:=sg_nb t b;have g:=W9 (t:=t) hb
 by_cases h:b<0
 ·have hs:sg t b<0:=by unfold sg; rw [if_pos h]; omega
  rcases Int.lt_trichotomy (nb t b) 0 with z | z | z
  ·have:=Int.mul_pos_of_neg_of_neg hs z; omega
  ·rw [z] at e; omega
  ·exact z
 ·have hs:0<sg t b:=by unfold sg; rw [if_neg h]; omega
  rcases Int.lt_trichotomy (nb t b) 0 with z | z | z
  ·have:=Int.mul_neg_of_pos_of_neg hs z; omega
  ·rw [z] at e; omega
  ·exact z
theorem n_low {t b:Int} (hb:b≠0):Int.gcd (nt t b) (nb t b)=1:=by
 have g:=W9 (t:=t) hb;have h:=Int.gcd_mul_left (sg t b) (nt t b) (nb t b);rw [sg_nt,sg_nb,sg_abs] at h;exact (Nat.eq_of_mul_eq_mul_left g (by rw [Nat.mul_one]; exact h)).symm
theorem n_isR {t b:Int} (hb:b≠0):IsR (nt t b) (nb t b):=⟨nb_pos hb,n_low hb⟩
theorem n_cross (t b:Int):nt t b*b=t*nb t b:=by
 have h1:=sg_nt t b;have h2:=sg_nb t b
 calc nt t b*b=nt t b*(sg t b*nb t b):=by rw [h2]
  _=(sg t b*nt t b)*nb t b:=by ac_rfl
  _=t*nb t b:=by rw [h1]
theorem isR_unique {x y u v:Int} (a:IsR x y) (b:IsR u v) (h:x*v=u*y):x=u∧y=v:=by
 have hy:=a.pos;have hv:=b.pos;have ca:Nat.Coprime y.natAbs x.natAbs:=by
  have:=a.low;rw [Int.gcd_comm] at this;exact this
 have cb:Nat.Coprime v.natAbs u.natAbs:=by
  have:=b.low;rw [Int.gcd_comm] at this;exact this
 have hn:x.natAbs*v.natAbs=u.natAbs*y.natAbs:=by rw [← B4,← B4,h]
 have d1:y.natAbs∣v.natAbs:=ca.dvd_of_dvd_mul_left ⟨u.natAbs,by rw [hn,Nat.mul_comm]⟩;have d2:v.natAbs∣y.natAbs:=cb.dvd_of_dvd_mul_left ⟨x.natAbs,by rw [← hn,Nat.mul_comm]⟩;have e:y.natAbs=v.natAbs:=Nat.dvd_antisymm d1 d2;have ey:y=v:=by omega
 subst ey;exact ⟨Int.eq_of_mul_eq_mul_right (by omega) h,rfl⟩
theorem nt_le (t b:Int) (hb:b≠0):(nt t b).natAbs≤t.natAbs:=by
 have h:=congrArg Int.natAbs (sg_nt t b);rw [B4,sg_abs] at h;have g:=W9 (t:=t) hb;rw [← h];exact A9 _ g
theorem nb_le (t b:Int) (hb:b≠0):(nb t b).natAbs≤b.natAbs:=by
 have h:=congrArg Int.natAbs (sg_nb t b);rw [B4,sg_abs] at h;have g:=W9 (t:=t) hb;exact Ba (A9 _ g) (Nat.le_of_eq h)
theorem gcd_step {a b:Int}:Int.gcd b (a%b)=Int.gcd a b:=by
 have h:a%b=a+b*(-(a/b)):=by
  have:=Int.emod_add_mul_ediv a b;rw [Int.mul_neg];omega
 rw [h,Int.gcd_add_mul_left_right,Int.gcd_comm]
theorem gcd_end {a:Int} (h:0≤a):((Int.gcd a 0:Nat):Int)=a:=by
 rw [Int.gcd_zero_right]; omega
theorem abs_gcd (t b:Int):Int.gcd (if t<0 then -t else t) (if b<0 then -b else b)=Int.gcd t b:=by
 split <;> split <;> simp [Int.gcd_neg,Int.neg_gcd]
theorem abs_nn (t:Int):0≤(if t<0 then -t else t):=by split <;> omega
end BP
namespace BP
theorem n_of {x y t b:Int} (hb:b≠0) (R:IsR x y) (h:x*b=t*y):x=nt t b∧y=nb t b:=by
 refine isR_unique R (n_isR hb) ?_;have c:=n_cross t b;refine Int.eq_of_mul_eq_mul_right hb ?_
 calc x*nb t b*b=x*b*nb t b:=by ac_rfl
  _=t*y*nb t b:=by rw [h]
  _=t*nb t b*y:=by ac_rfl
  _=nt t b*b*y:=by rw [c]
  _=nt t b*y*b:=by ac_rfl
theorem times_way {x y u v g k:Int} (R1:IsR x y) (R2:IsR u v) (hg:g=(Int.gcd x v:Nat)) (hk:k=(Int.gcd u y:Nat)) :
  IsR (x.fdiv g*u.fdiv k) (y.fdiv k*v.fdiv g)∧(x.fdiv g*u.fdiv k)*(y*v)=(x*u)*(y.fdiv k*v.fdiv g):=by
 have hy:=R1.pos;have hv:=R2.pos;have gp:0<g:=by
  have:=Int.gcd_pos_of_ne_zero_right x (show v≠0 by omega);omega
 have kp:0<k:=by
  have:=Int.gcd_pos_of_ne_zero_right u (show y≠0 by omega);omega
 have gx:g∣x:=by rw [hg]; exact Int.gcd_dvd_left x v
 have gv:g∣v:=by rw [hg]; exact Int.gcd_dvd_right x v
 have ku:k∣u:=by rw [hk]; exact Int.gcd_dvd_left u y
 have ky:k∣y:=by rw [hk]; exact Int.gcd_dvd_right u y
 obtain ⟨x',ex⟩:=gx;obtain ⟨v',ev⟩:=gv;obtain ⟨u',eu⟩:=ku;obtain ⟨y',ey⟩:=ky;have gne:g≠0:=by omega
 have kne:k≠0:=by omega
 have dx:x.fdiv g=x':=by rw [ex]; exact A6 x' gne
 have dv:v.fdiv g=v':=by rw [ev]; exact A6 v' gne
 have du:u.fdiv k=u':=by rw [eu]; exact A6 u' kne
 have dy:y.fdiv k=y':=by rw [ey]; exact A6 y' kne
 rw [dx,dv,du,dy];have py:0<y':=by
  rcases Int.lt_trichotomy y' 0 with z | z | z
  ·have:=Int.mul_neg_of_pos_of_neg kp z; omega
  ·rw [z] at ey; omega
  ·exact z
 have pv:0<v':=by
  rcases Int.lt_trichotomy v' 0 with z | z | z
  ·have:=Int.mul_neg_of_pos_of_neg gp z; omega
  ·rw [z] at ev; omega
  ·exact z
 have c1:Int.gcd x' v'=1:=by
  have h:=Int.gcd_mul_left g x' v';rw [← ex,← ev] at h;have h2:Int.gcd x v=g.natAbs:=by omega
  rw [h2] at h;have:0<g.natAbs:=by omega
  exact (Nat.eq_of_mul_eq_mul_left this (by rw [Nat.mul_one]; exact h)).symm
 have c2:Int.gcd u' y'=1:=by
  have h:=Int.gcd_mul_left k u' y';rw [← eu,← ey] at h;have h2:Int.gcd u y=k.natAbs:=by omega
  rw [h2] at h;have:0<k.natAbs:=by omega
  exact (Nat.eq_of_mul_eq_mul_left this (by rw [Nat.mul_one]; exact h)).symm
 have cop2:∀ {a b c d:Int},Int.gcd a b=1→c∣a→d∣b→Int.gcd c d=1:=fun {a b c d} h h1 h2=>by
  have k:Int.gcd c d∣Int.gcd a b:=Nat.dvd_trans (Int.gcd_dvd_gcd_of_dvd_right c h2) (Int.gcd_dvd_gcd_of_dvd_left b h1);rw [h] at k;exact Nat.eq_one_of_dvd_one k
 have c3:Int.gcd x' y'=1:=cop2 R1.low ⟨g,by rw [ex,Int.mul_comm]⟩ ⟨k,by rw [ey,Int.mul_comm]⟩;have c4:Int.gcd u' v'=1:=cop2 R2.low ⟨k,by rw [eu,Int.mul_comm]⟩ ⟨g,by rw [ev,Int.mul_comm]⟩;have mulr:∀ {a b c:Int},Int.gcd a b=1→Int.gcd a c=1→Int.gcd a (b*c)=1:=fun {a b c} h1 h2=>by
  have k:Nat.Coprime a.natAbs (b.natAbs*c.natAbs):=Nat.Coprime.mul_right h1 h2;show Nat.gcd a.natAbs (b*c).natAbs=1;rw [B4];exact k
 have mull:∀ {a b c:Int},Int.gcd b a=1→Int.gcd c a=1→Int.gcd (b*c) a=1:=fun {a b c} h1 h2=>by
  rw [Int.gcd_comm] at h1 h2 ⊢;exact mulr h1 h2
 refine ⟨⟨Int.mul_pos py pv,mull (mulr c3 c1) (mulr c2 c4)⟩,?_⟩
 calc x'*u'*(y*v)=x'*u'*(k*y'*(g*v')):=by rw [← ev,← ey]
  _=(g*x')*(k*u')*(y'*v'):=by ac_rfl
  _=x*u*(y'*v'):=by rw [← ex,← eu]
theorem isR_sm_t {n:Nat} {t b:Int} (hb:b≠0) (h:Sm n t):Sm n (nt t b):=h.le (nt_le t b hb)
theorem isR_sm_b {n:Nat} {t b:Int} (hb:b≠0) (h:Sm n b):Sm n (nb t b):=h.le (nb_le t b hb)
theorem Sm.gcd_right {n:Nat} {t b:Int} (hb:b≠0) (h:Sm n b):Sm n ((Int.gcd t b:Nat):Int):=h.le (by
 have:Int.gcd t b≤b.natAbs:=Nat.le_of_dvd (by omega) (Int.natAbs_dvd_natAbs.mpr (Int.gcd_dvd_right t b));omega)
theorem gcd_abs_left (t b:Int):Int.gcd (if t<0 then -t else t) b=Int.gcd t b:=by split <;> simp [Int.neg_gcd]
end BP
namespace BP
theorem Y5 (q:Rat):IsR q.num (q.den:Int):=⟨by have:=q.den_pos; omega,by
 have:=q.reduced;unfold Nat.Coprime at this
 simpa [Int.gcd] using this⟩
theorem rat_of {x y:Int} (h:IsR x y):(Rat.divInt x y).num=x∧((Rat.divInt x y).den:Int)=y:=by
 have hy:=h.pos;have ne:y≠0:=by omega
 refine isR_unique (Y5 _) h ?_;have e:=Aq (Rat.divInt x y);have:=(Rat.divInt_eq_divInt_iff (n₁:=(Rat.divInt x y).num) (n₂:=x) (d₁:=((Rat.divInt x y).den:Int)) (d₂:=y) (by have:=(Rat.divInt x y).den_pos; omega) ne).mp e;exact this
theorem n_rat {t b:Int} (hb:b≠0):nt t b=(Rat.divInt t b).num∧nb t b=((Rat.divInt t b).den:Int):=by
 have c:=n_cross t b;have R:=n_isR (t:=t) hb;refine isR_unique R (Y5 _) ?_;have e:=Aq (Rat.divInt t b);have h1:=(Rat.divInt_eq_divInt_iff (n₁:=(Rat.divInt t b).num) (n₂:=t) (d₁:=((Rat.divInt t b).den:Int)) (d₂:=b) (by have:=(Rat.divInt t b).den_pos; omega) hb).mp e;refine Int.eq_of_mul_eq_mul_right hb ?_
 calc nt t b*((Rat.divInt t b).den:Int)*b=nt t b*b*((Rat.divInt t b).den:Int):=by ac_rfl
  _=t*nb t b*((Rat.divInt t b).den:Int):=by rw [c]
  _=t*((Rat.divInt t b).den:Int)*nb t b:=by ac_rfl
  _=(Rat.divInt t b).num*b*nb t b:=by rw [h1]
  _=(Rat.divInt t b).num*nb t b*b:=by ac_rfl
theorem Z1 (q:Rat):(q.den:Int)≠0:=by have:=q.den_pos; omega
theorem q_plus (a b:Rat):nt (a.num*b.den+b.num*a.den) ((a.den:Int)*b.den)=(a+b).num∧nb (a.num*b.den+b.num*a.den) ((a.den:Int)*b.den)=((a+b).den:Int):=by
 have h:=n_rat (t:=a.num*b.den+b.num*a.den) (b:=(a.den:Int)*b.den) (Int.mul_ne_zero (Z1 a) (Z1 b));rw [← Rat.divInt_add_divInt _ _ (Z1 a) (Z1 b),Aq,Aq] at h;exact h
theorem q_times (a b:Rat):nt (a.num*b.num) ((a.den:Int)*b.den)=(a*b).num∧nb (a.num*b.num) ((a.den:Int)*b.den)=((a*b).den:Int):=by
 have h:=n_rat (t:=a.num*b.num) (b:=(a.den:Int)*b.den) (Int.mul_ne_zero (Z1 a) (Z1 b));rw [← Rat.divInt_mul_divInt,Aq,Aq] at h;exact h
theorem q_less (a b:Rat):decide (a.num*b.den<b.num*a.den)=decide (a<b) :=
  decide_eq_decide.mpr (Rat.lt_iff a b).symm
def SmQ (n:Nat) (q:Rat):Prop:=Sm n q.num∧Sm n (q.den:Int)
theorem SmQ.mono {m n:Nat} {q:Rat} (h:SmQ m q) (l:m≤n:=by decide):SmQ n q:=⟨h.1.mono l,h.2.mono l⟩
theorem SmQ.mul {m n:Nat} {a b:Rat} (h:SmQ m a) (k:SmQ n b):SmQ (m+n) (a*b):=by
 have ne:=Int.mul_ne_zero (Z1 a) (Z1 b);have e:=q_times a b;unfold SmQ;rw [← e.1,← e.2];exact ⟨isR_sm_t ne (h.1.mul k.1),isR_sm_b ne (h.2.mul k.2)⟩
end BP
namespace L2
open PySem PySem.Spec PyProof.Rows BP
section
variable {X:Cx}
theorem mulOk {m n:Nat} {x y:Int} (hx:Sm m x) (hy:Sm n y) (h:m+n≤134217728:=by decide):IntMulOk x y:=IntMulOk.of_le (intBits_le_iff.mpr hx) (intBits_le_iff.mpr hy) h
theorem y9:OpR X (binaryOp .Mult) (rI IntMulOk fun i j=>.int (i*j)):=opI fun _ _ _ _ _ _ _ hc q=>mul_int q hc
def CDivB (_ j:Int):Prop:=j≠0∧j.natAbs.log2<9000
theorem jW:OpR X (binaryOp .FloorDiv) (rI CDivB fun i j=>.int (i.fdiv j)):=opI fun _ _ _ _ _ _ _ hc q=>floordiv_int hc.1 q (.inl (PyProof.noPylong_of_log2 hc.2))
inductive IsI (K:Bc) (H:Hp):V→String→Bool→Prop where
 | intInt (i:Int):IsI K H (.int i) "int" true
 | intBool (i:Int):IsI K H (.int i) "bool" false
 | blInt (b:Bool):IsI K H (.bl b) "int" true
 | blBool (b:Bool):IsI K H (.bl b) "bool" true
 | nonInt:IsI K H .non "int" false
 | strInt (x:Str):IsI K H (.str x) "int" false
 | strStr (x:Str):IsI K H (.str x) "str" true
 | tupTup {a:Addr} {xs:List V} (h:SqT K H a xs):IsI K H (.ref a) "tuple" true
 | tupInt {a:Addr} {xs:List V} (h:SqT K H a xs):IsI K H (.ref a) "int" false
 | lstList {a:Addr} {xs:List V} (h:SqL K H a xs):IsI K H (.ref a) "list" true
 | lstInt {a:Addr} {xs:List V} (h:SqL K H a xs):IsI K H (.ref a) "int" false
 | dictInt {a:Addr} {kvs:List (Key×V)} (h:H a=some (.dK kvs)):IsI K H (.ref a) "int" false
theorem Yq:CallR X (.builtin "isinstance") (fun xs H Q=>∃ x T b,xs=[x,.ty T]∧IsI X.K H x T b∧Q (.bl b) H):=by
 intro pins s σ H xs us Q I r h;obtain ⟨x,T,b,rfl,hi,q⟩:=h;obtain ⟨u,u',rfl,rx,rt⟩:=vals2 r
 cases rt
 cases hi with
 | intInt i=>obtain ⟨t,rfl⟩:=rx; exact IsiPair.int_int ⟨.bl true,H,I,rfl,q⟩
 | intBool i=>obtain ⟨t,rfl⟩:=rx; exact IsiPair.int_bool ⟨.bl false,H,I.tok _,rfl,q⟩
 | blInt i=>cases rx; exact IsiPair.bool_int ⟨.bl true,H,I,rfl,q⟩
 | blBool i=>cases rx; exact IsiPair.bool_bool ⟨.bl true,H,I,rfl,q⟩
 | nonInt=>cases rx; exact IsiPair.NoneType_int ⟨.bl false,H,I.tok _,rfl,q⟩
 | strInt i=>obtain ⟨t,rfl⟩:=rx; exact IsiPair.str_int ⟨.bl false,H,I.tok _,rfl,q⟩
 | strStr i=>obtain ⟨t,rfl⟩:=rx; exact IsiPair.str_str ⟨.bl true,H,I,rfl,q⟩
 | tupTup h =>
  cases rx
  obtain ⟨its,_,⟨o,ho,hc,_⟩,_⟩:=I.tuple h;exact IsiPair.tuple_tuple ho hc ⟨.bl true,H,I,rfl,q⟩
 | tupInt h =>
  cases rx
  obtain ⟨its,_,⟨o,ho,hc,_⟩,_⟩:=I.tuple h;exact IsiPair.tuple_int ho hc ⟨.bl false,H,I.tok _,rfl,q⟩
 | lstList h =>
  cases rx
  obtain ⟨its,_,p,_⟩:=I.list h;obtain ⟨o,ho,hc,_⟩:=p.isList;exact IsiPair.list_list ho hc ⟨.bl true,H,I,rfl,q⟩
 | lstInt h =>
  cases rx
  obtain ⟨its,_,p,_⟩:=I.list h;obtain ⟨o,ho,hc,_⟩:=p.isList;exact IsiPair.list_int ho hc ⟨.bl false,H,I.tok _,rfl,q⟩
 | @dictInt ad kvs h =>
  cases rx
  obtain ⟨_,_,vs,_,p⟩:=(show ObjOk X.prog X.w H s.heap ad (.dK kvs) from I.hok ad _ h);obtain ⟨o,es,ep,h1,h2,_⟩:=p;exact IsiPair.dict_int h1 h2.1 ⟨.bl false,H,I.tok _,rfl,q⟩
def eqVs:List V→List V→Bool
 | [],[]=>true
 | x::xs,y::ys=>eqV x y&&eqVs xs ys
 | _,_=>false
theorem eqVs_self:∀ {xs:List V},xs.all flatV=true→eqVs xs xs=true
 | [],_=>rfl
 | x::xs,h=>by
  rw [List.all_cons,Bool.and_eq_true] at h;have e:eqV x x=true:=by cases x <;> first | rfl | (unfold eqV; simp; done) | (exact absurd (show false=true from h.1) Bool.false_ne_true)
  unfold eqVs;rw [e,eqVs_self h.2];rfl
theorem v9:∀ {xs:List V} {us:List Value} (r:Vals xs us) (j:Nat) (h:j<us.length),∃ x,xs[j]?=some x∧RelV x us[j]
 | _,_,.nil,j,h=>absurd h (Az _)
 | _,_,.cons r _,0,_=>⟨_,rfl,r⟩
 | _,_,.cons _ t,j+1,h=>by
  obtain ⟨x,e,r⟩:=v9 t j (by simpa using h);exact ⟨x,by simpa using e,by simpa using r⟩
theorem all_range_eq:∀ (xs ys:List V) (e:Nat→Bool),(∀ j x y,xs[j]?=some x→ys[j]?=some y→e j=eqV x y)→((List.range (min xs.length ys.length)).all e&&xs.length==ys.length)=eqVs xs ys
 | [],[],e,_=>by simp [eqVs]
 | [],y::ys,e,_=>by simp [eqVs]
 | x::xs,[],e,_=>by simp [eqVs]
 | x::xs,y::ys,e,h=>by
  have ih:=all_range_eq xs ys (fun j=>e (j+1)) (fun j a b ha hb=>h (j+1) a b (by simpa using ha) (by simpa using hb));have h0:e 0=eqV x y:=h 0 x y rfl rfl;have hm:min (x::xs).length (y::ys).length=min xs.length ys.length+1:=by simp only [List.length_cons]; omega
  rw [hm,List.range_succ_eq_map,List.all_cons,List.all_map,h0];unfold eqVs;rw [← ih];have hl:((x::xs).length==(y::ys).length)=(xs.length==ys.length):=by simp
  rw [hl,Bool.and_assoc];rfl
def rEqT (K:Bc):R2:=fun x y H Q=>∃ a b xs ys,x=.ref a∧y=.ref b∧SqT K H a xs∧SqT K H b ys∧xs.all flatV=true∧ys.all flatV=true∧Q (.bl (eqVs xs ys)) H
theorem flat_at {xs:List V} (h:xs.all flatV=true) {j:Nat} {x:V} (e:xs[j]?=some x):flatV x=true:=List.all_eq_true.mp h x (Af e)
theorem op_eqT (hu:X.A.units+1<cLine):OpR X (compareOp .Eq) (rEqT X.K):=by
 intro pins s σ H x y v u Q I rx ry h;obtain ⟨a,b,xs,ys,rfl,rfl,ha,hb,fx,fy,q⟩:=h
 cases rx
 cases ry
 obtain ⟨its,r1,p1,_⟩:=I.tuple ha;obtain ⟨its2,r2,p2,_⟩:=I.tuple hb;have h1:=r1.length;have h2:=r2.length;refine SeqAt.eq_tupleAt (e:=fun j=>match xs[j]?,ys[j]? with | some x,some y=>eqV x y | _,_=>true) p1 p2 (by omega) (fun j g1 g2=>?_) ⟨.bl _,H,I,rfl,?_⟩
 ·obtain ⟨x,e1,q1⟩:=v9 r1 j (by simpa using g1)
  obtain ⟨y,e2,q2⟩:=v9 r2 j (by simpa using g2);rw [e1,e2];exact eqAt_V (by simpa using q1) (by simpa using q2) (flat_at fx e1) (flat_at fy e2)
 ·rw [List.size_toArray,List.size_toArray,← h1,← h2,all_range_eq xs ys _ fun j x y e1 e2=>by rw [e1,e2]]
  exact q
end
def plainE:Expr→Bool
 | .Starred _ _=>false
 | _=>true
theorem qq {e:Expr} (h:plainE e=true) (es:List Expr) (env:Env):starEach (e::es) env=(false,eval e env)::starEach es env:=by
 cases e <;> first | rfl | exact absurd (show false=true from h) Bool.false_ne_true
theorem qy {es:List Expr} {env:Env} {pos:Pos} (h:es.all plainE=true):(backTo pos (starEach es env)).any (·.1)=false:=by
 induction es with
 | nil=>rfl
 | cons e es ih =>
  rw [List.all_cons,Bool.and_eq_true] at h;rw [qq h.1];have q:=ih h.2;unfold backTo at q ⊢;rw [List.map_cons,List.any_cons,q];rfl
theorem pa_c {X:Cx} {e:Expr} {es:List Expr} {te:TE} {t:TA} (ha:PE X e te) (hr:PA X es t) (hp:plainE e=true:=by rfl):PA X (e::es) (tCons te t):=pa_cons ha hr (qq hp es X.env)
theorem boot_isinstance:bootBuiltins "isinstance" = some (.builtin "isinstance"):=PyProof.Rows.boot_isinstance
theorem boot_int:bootBuiltins "int" = some (.type "int"):=PyProof.Rows.boot_int
theorem boot_bool:bootBuiltins "bool" = some (.type "bool"):=PyProof.Rows.boot_bool
theorem boot_tuple:bootBuiltins "tuple" = some (.type "tuple"):=PyProof.Rows.boot_tuple
theorem boot_list:bootBuiltins "list" = some (.type "list"):=PyProof.Rows.boot_list
theorem boot_str:bootBuiltins "str" = some (.type "str"):=PyProof.Rows.boot_str
theorem boot_abs:bootBuiltins "abs" = some (.builtin "abs"):=PyProof.Rows.boot_abs
theorem qw {H:Hp} {p:Addr} (h:H p=none) (o:HO):Same H (upd H p o):=fun b u q=>by rw [zZ (qV q h)]; exact q
theorem Same.tup {K:Bc} {H H':Hp} {a:Addr} {xs:List V} (e:Same H H') (h:SqT K H a xs):SqT K H' a xs:=by
 rcases h with (h | ⟨o,h⟩) | h
 ·exact .inl (.inl (e _ _ h))
 ·exact .inl (.inr ⟨o,e _ _ h⟩)
 ·exact .inr h
def RetT (H:Hp) (Q:VK) (xs:List V):Prop:=∀ p H',Same H H'→H' p=some (.tup xs)→Q (.ref p) H'
theorem RetT.new {H:Hp} {Q:VK} {xs:List V} (h:RetT H Q xs) {p:Addr} (hp:H p=none):Q (.ref p) (upd H p (.tup xs)):=h p _ (qw hp _) qj
abbrev T2 (x y:Int):List V:=[.int x,.int y]
theorem jZ:2≤sizeLine:=by decide
theorem iteN {c A B:Prop} [Decidable c] (hc:¬ c) (h:B):if decide c=true then A else B:=by
 rw [decide_eq_false hc];exact iteF h
theorem iteP {c A B:Prop} [Decidable c] (hc:c) (h:A):if decide c=true then A else B:=by
 rw [decide_eq_true hc];exact iteT h
theorem iteD {c A B:Prop} [Decidable c] (h1:c→A) (h2:¬ c→B):if decide c=true then A else B:=by
 by_cases h:c
 ·exact iteP h (h1 h)
 ·exact iteN h (h2 h)
theorem iteNP {c A B:Prop} [Decidable c] (hc:¬ c) (h:A):if (!decide c)=true then A else B:=by
 rw [decide_eq_false hc];exact iteT h
end L2
namespace L2
open PySem PySem.Spec PyProof.Rows BP
section
variable {X:Cx} {pins:List (Addr×Obj)} {σ:St} {H:Hp} {s:Shared}
theorem Inv.track {ea:Addr} {o:HO} (I:Inv X pins σ H s) (hn:H ea=none) (h0:X.s₀.heap.get? ea=none) (hp:∀ p∈X.pn++pins,p.1≠ea) (hL:ea≠X.env.locals)
  (hc:∀ x c,X.env.cells.lookup x=some c→c≠ea) (ok:ObjOk X.prog X.w (upd H ea o) s.heap ea o):Inv X pins σ (upd H ea o) s:=by
 refine ⟨I.ok,I.os,I.bare,⟨I.base.keep,I.base.slot,fun b u q n hx=>?_,I.base.there,fun b xs e=>?_,fun b u xs e=>?_,fun b ps e=>?_⟩,I.loc,I.cell,?_,fun x c e=>?_,fun p hp'=>?_,fun b u e=>?_,I.len⟩
 ·rw [zZ (fun z=>by rw [z,h0] at q; cases q)]
  exact I.base.free b u q n hx
 ·have z:=I.base.tups b xs e
  rw [zZ (qV z hn)];exact z
 ·have z:=I.base.frzs b u xs e
  rw [zZ (qV z hn)];exact z
 ·obtain ⟨m,z⟩:=I.base.tbls b ps e
  exact ⟨m,by rw [zZ (qV z hn)]; exact z⟩
 ·rw [zZ (Ne.symm hL)]
  exact I.free
 ·rw [zZ (hc x c e)]
  exact I.freeC x c e
 ·obtain ⟨e,n,r⟩:=I.pin p hp'
  exact ⟨e,by rw [zZ (hp p hp')]; exact n,r⟩
 ·by_cases hb:b=ea
  ·subst hb
   rw [qj] at e
   cases e
   exact ok
  ·rw [zZ hb] at e
   exact (I.hok b u e).stay (fun c v _ q=>q) (fun c q=>by rw [zZ (qV q hn)]; exact q) fun c xs q=>by rw [zZ (qV q hn)]; exact q
end
end L2
namespace L2
open PySem PySem.Spec PyProof.Rows BP
structure CP where
 C:Addr
 fp:List Addr
 s:Shared
 H:Hp
abbrev Cx.comp (X:Cx) (scope:Scope) (cl:List (Str×Addr)) (N:List Str) (c:CP):Cx :=
 { prog:=X.prog,w:=X.w,K:=X.K,mg:=X.mg,base:=X.base,A:=X.A,N:=N,s₀:=c.s,H₀:=c.H,env:=compEnvC scope cl c.C X.env,outer:=X.stack,stack:=X.stack,ex:=c.fp,fn:=fun _=>false,calm:=X.calm,pn:=[],xe:=fun _ _=>False }
def ixS:St→Nat→Option V
 | [],_=>none
 | x::_,0=>x
 | _::r,n+1=>ixS r n
theorem ixS_some:∀ {σ:St} {j:Nat} {v:V},ixS σ j=some v→σ[j]?=some (some v)
 | [],_,_,h=>by cases h
 | x::r,0,v,h=>by
  have h':x=some v:=h;rw [h']; rfl
 | x::r,n+1,v,h=>by
  have q:=ixS_some (σ:=r) (j:=n) (v:=v) h
  simpa using q
def compS:List (Option Nat)→St→St
 | [],_=>[]
 | none::r,σ=>none::compS r σ
 | some j::r,σ=>ixS σ j::compS r σ
theorem compS_len:∀ (ix:List (Option Nat)) (σ:St),(compS ix σ).length=ix.length
 | [],_=>rfl
 | none::r,σ=>congrArg Nat.succ (compS_len r σ)
 | some _::r,σ=>congrArg Nat.succ (compS_len r σ)
def LeS:St→St→Prop
 | [],[]=>True
 | a::r,b::r'=>(a=none∨a=b)∧LeS r r'
 | _,_=>False
theorem LeS.refl:∀ σ:St,LeS σ σ
 | []=>trivial
 | _::r=>⟨.inr rfl,LeS.refl r⟩
theorem LeS.len:∀ {a b:St},LeS a b→a.length=b.length
 | [],[],_=>rfl
 | _::_,_::_,h=>congrArg Nat.succ (LeS.len h.2)
 | [],_::_,h=>h.elim
 | _::_,[],h=>h.elim
theorem LeS.get:∀ {a b:St} {i:Nat} {v:V},LeS a b→a[i]?=some (some v)→b[i]?=some (some v)
 | [],[],_,_,_,e=>by simp at e
 | [],_::_,_,_,h,_=>h.elim
 | _::_,[],_,_,h,_=>h.elim
 | x::r,y::r',0,v,h,e=>by
  have e':x=some v:=by simpa using e
  rcases h.1 with z | z
  ·rw [z] at e'; cases e'
  ·rw [← z,e']; rfl
 | x::r,y::r',i+1,v,h,e=>by
  have e':r[i]?=some (some v):=by simpa using e
  have q:=LeS.get h.2 e'
  simpa using q
def GOk (g:TG) (σ:St):Prop:=∀ x H Q,g x σ H Q→g x σ H fun σ2 H2=>LeS σ σ2∧Q σ2 H2
theorem leS_set:∀ {σ:St} {i:Nat} {v:V},σ[i]?=some none→LeS σ (σ.set i (some v))
 | [],_,_,h=>by simp at h
 | x::r,0,v,h=>by
  have e:x=none:=by simpa using h
  exact ⟨.inl e,LeS.refl r⟩
 | x::r,i+1,v,h=>by
  have e:r[i]?=some none:=by simpa using h
  exact ⟨.inr rfl,leS_set e⟩
theorem compS_none {ix:List (Option Nat)}:∀ {i:Nat} {σ:St},ix[i]?=some none→(compS ix σ)[i]?=some none:=by
 induction ix with
 | nil=>intro i σ h; simp at h
 | cons a r ih =>
  intro i σ h
  cases i with
  | zero =>
   have e:a=none:=by simpa using h
   subst e; rfl
  | succ i =>
   have e:r[i]?=some none:=by simpa using h
   have q:=ih (σ:=σ) e
   cases a <;> (unfold compS; simpa using q)
theorem jQ {i:Nat} {ix:List (Option Nat)} (h:ix[i]?=some none) (σ:St):GOk (gName i) (compS ix σ):=fun _ _ _ q=>⟨leS_set (compS_none h),q⟩
theorem LeS.trans:∀ {a b c:St},LeS a b→LeS b c→LeS a c
 | [],[],[],_,_=>trivial
 | [],[],_::_,_,h=>h.elim
 | [],_::_,_,h,_=>h.elim
 | _::_,[],_,h,_=>h.elim
 | _::_,_::_,[],_,h=>h.elim
 | x::r,y::r',z::r'',h,k=>by
  refine ⟨?_,LeS.trans h.2 k.2⟩
  rcases h.1 with e | e
  ·exact .inl e
  ·rcases k.1 with e' | e'
   ·exact .inl (e.trans e')
   ·exact .inr (e.trans e')
theorem go_two {K:Bc} {i j:Nat} {ix:List (Option Nat)} (h:ix[i]?=some none) (h':ix[j]?=some none) (hij:i≠j) (σ:St):GOk (gTup K 2 (gCons (gName i) (gCons (gName j) gNil))) (compS ix σ):=by
 intro x H Q q;obtain ⟨a,xs,e1,e2,e3,v,r,e4,v',r',e5,e6,q⟩:=q;have z:(compS ix σ)[i]?=some none:=compS_none h;have z':((compS ix σ).set i (some v))[j]?=some none:=by
  rw [Aj hij];exact compS_none h'
 exact ⟨a,xs,e1,e2,e3,v,r,e4,v',r',e5,e6,(leS_set z).trans (leS_set z'),q⟩
def SubL (cells:List (Str×Addr)):List (Str×Addr)→Prop
 | []=>True
 | p::r=>cells.lookup p.1=some p.2∧SubL cells r
theorem SubL.get {cells:List (Str×Addr)}:∀ {cl:List (Str×Addr)} {x:Str} {c:Addr},SubL cells cl→cl.lookup x=some c→cells.lookup x=some c
 | [],_,_,_,e=>by cases e
 | p::r,x,c,h,e=>by
  rw [List.lookup_cons] at e
  cases hx:x==p.1 with
  | true =>
   rw [hx] at e;have e1:x=p.1:=by simpa using hx
   have e2:p.2=c:=B0 e;rw [e1,← e2];exact h.1
  | false =>
   rw [hx] at e;exact SubL.get h.2 e
def IxOk (X:Cx) (rn:List (Str×NameKind)) (cl:List (Str×Addr)):List Str→List (Option Nat)→Prop
 | [],[]=>True
 | _::N,none::ix=>IxOk X rn cl N ix
 | x::N,some j::ix=>(X.N[j]?=some x∧Vis X.env.scope x∧(X.env.kindOf x≠some .local)∧(cl.lookup x).isSome=true∧(rn.lookup x=some .cell∨rn.lookup x=some .free))∧IxOk X rn cl N ix
 | _,_=>False
theorem IxOk.len {X:Cx} {rn:List (Str×NameKind)} {cl:List (Str×Addr)}:∀ {N:List Str} {ix:List (Option Nat)},IxOk X rn cl N ix→ix.length=N.length
 | [],[],_=>rfl
 | _::_,none::_,h=>congrArg Nat.succ (IxOk.len (show IxOk X rn cl _ _ from h))
 | _::_,some _::_,h=>congrArg Nat.succ (IxOk.len h.2)
 | [],none::_,h=>h.elim
 | [],some _::_,h=>h.elim
 | _::_,[],h=>h.elim
theorem IxOk.get {X:Cx} {rn:List (Str×NameKind)} {cl:List (Str×Addr)}:∀ {N:List Str} {ix:List (Option Nat)} {σ:St} {i:Nat} {x:Str} {v:V},IxOk X rn cl N ix→N[i]?=some x→(compS ix σ)[i]?=some (some v)→∃ j:Nat,X.N[j]?=some x∧σ[j]?=some (some v)∧Vis X.env.scope x∧X.env.kindOf x≠some .local∧(cl.lookup x).isSome=true∧(rn.lookup x=some .cell∨rn.lookup x=some .free)
 | [],[],_,_,_,_,_,e,_=>by simp at e
 | y::N,none::ix,σ,0,x,v,_,_,e=>by
  have z:(none:Option V)=some v:=by simpa [compS] using e
  cases z
 | y::N,none::ix,σ,i+1,x,v,h,e,e'=>IxOk.get (N:=N) (ix:=ix) (σ:=σ) (i:=i) (show IxOk X rn cl N ix from h) (by simpa using e) (by simpa [compS] using e')
 | y::N,some j::ix,σ,0,x,v,h,e,e'=>by
  have z:ixS σ j=some v:=by simpa [compS] using e'
  have y1:y=x:=by simpa using e
  subst y1;exact ⟨j,h.1.1,ixS_some z,h.1.2⟩
 | y::N,some j::ix,σ,i+1,x,v,h,e,e'=>IxOk.get (N:=N) (ix:=ix) (σ:=σ) (i:=i) h.2 (by simpa using e) (by simpa [compS] using e')
 | [],none::_,_,_,_,_,h,_,_=>h.elim
 | [],some _::_,_,_,_,_,h,_,_=>h.elim
 | _::_,[],_,_,_,_,h,_,_=>h.elim
structure CompOk (X:Cx) (scope:Scope) (cl:List (Str×Addr)) (N:List Str) (ix:List (Option Nat)):Prop where
 clos:closureFor scope X.env=pure cl:=by rfl
 kind:scope.kind=.function:=by rfl
 nms:(scope.names.all fun x=>x.2 != .local||scope.names.lookup x.1==some .local)=true:=by rfl
 nocell:(scope.names.all fun x=>x.2 != .cell)=true:=by rfl
 sub:SubL X.env.cells cl
 has:((relabel scope X.env).names.all fun x=>x.2==.local||(cl.lookup x.1).isSome||!(x.2==.cell||x.2==.free))=true:=by rfl
 ixs:IxOk X (relabel scope X.env).names cl N ix
section
variable {X:Cx} {scope:Scope} {cl:List (Str×Addr)} {N:List Str} {ix:List (Option Nat)} {pins:List (Addr×Obj)} {σ:St} {H:Hp} {s:Shared}
theorem Jq:∀ {l:List (Str×NameKind)} {x:Str} {k:NameKind},l.lookup x=some k→(x,k)∈l
 | [],_,_,h=>by cases h
 | (y,k')::r,x,k,h=>by
  rw [List.lookup_cons] at h
  cases hx:x==y with
  | true =>
   rw [hx] at h;have e1:x=y:=by simpa using hx
   have e2:k'=k:=B0 h;rw [e1,e2];exact Am
  | false =>
   rw [hx] at h;exact List.mem_cons_of_mem _ (Jq h)
theorem CompOk.cells (k:CompOk X scope cl N ix) {x:Str} (h:(relabel scope X.env).names.lookup x=some .cell∨(relabel scope X.env).names.lookup x=some .free):∃ c,cl.lookup x=some c:=by
 have all:=List.all_eq_true.mp k.has
 rcases h with h | h
 ·have q:=all _ (Jq h)
  exact Option.isSome_iff_exists.mp (by simpa using q)
 ·have q:=all _ (Jq h)
  exact Option.isSome_iff_exists.mp (by simpa using q)
theorem CompOk.ok (k:CompOk X scope cl N ix) (I:Inv X pins σ H s) {fp:List Addr} {C:Addr} (hf:∀ b∈fp,FpOk X pins H b∧b<s.heap.objs.size) (hC:s.heap.objs.size≤C):(X.comp scope cl N ⟨C,fp,s,H⟩).Ok where
 mod:=I.ok.mod
 kind:=k.kind
 glob:=I.ok.glob
 blt:=I.ok.blt
 above:=hC
 inj:=fun x y c e1 e2=>I.ok.inj x y c (k.sub.get e1) (k.sub.get e2)
 has:=fun x h=>k.cells h
 cab:=fun x c h _=>by cases h
 hd:=I.ok.hd
 frames:=I.ok.frames
 stk:=.inl rfl
 exf:=fun b hb=>⟨Nat.ne_of_lt (An (hf b hb).2 hC),fun x c e=>(hf b hb).1.2.2.2.2.1 x c (k.sub.get e)⟩
 bs:=fun b o e=>I.bs b o e
 bsz:=Ba I.ok.bsz I.sz
 noex:=fun b o e hb=>by
  obtain ⟨⟨_,_,_,z,_⟩,_⟩:=hf b hb
  rcases z with z | z
  ·exact I.ok.noex b o e z
  ·exact absurd (An (Heap.lt_size e) (Ba I.ok.bsz z)) (Nat.lt_irrefl _)
 exfs:=fun b hb z=>by
  obtain ⟨⟨_,nl,nf,_⟩,_⟩:=hf b hb
  rcases List.mem_cons.mp (I.stkSub b z) with e | e
  ·exact nl e
  ·exact nf e
 funs:=I.stack
 frf:=I.stkFree
theorem CompOk.enter (k:CompOk X scope cl N ix) (I:Inv X pins σ H s) {fp:List Addr} {C:Addr} {h':Heap} {t':Nat} {m:Str→Option Value} (hf:∀ b∈fp,FpOk X pins H b∧b<s.heap.objs.size) (hC:s.heap.objs.size≤C)
  (keep:∀ b o,s.heap.get? b=some o→h'.get? b=some o) (hn:h'.Ns C m):Inv (X.comp scope cl N ⟨C,fp,s,H⟩) [] (compS ix σ) H { s with heap:=h',toks:=t' } where
 ok:=k.ok I hf hC
 os:=rfl
 bare:=I.bare
 base:=Un.kept keep
 loc:=⟨m,hn,fun i x v e1 e2 _=>by
  obtain ⟨j,h1,h2,h3,h4,h5,h6⟩:=k.ixs.get e1 e2;obtain ⟨m0,_,hl⟩:=I.loc;obtain ⟨u,r,l⟩:=hl j x v h1 h2 h3
  rcases l with ⟨l,_⟩ | ⟨_,c,ec,z⟩
  ·exact absurd l h4
  ·obtain ⟨c',ec'⟩:=Option.isSome_iff_exists.mp h5
   have e3:=k.sub.get ec';rw [ec] at e3;have e4:c=c':=B0 e3;subst e4;obtain ⟨o,ho,hd⟩:=z;exact ⟨u,r,.inr ⟨h6,c,ec',o,keep _ _ ho,hd⟩⟩⟩
 cell:=fun x c e=>by
  obtain ⟨v,o,ho,hd⟩:=I.cell x c (k.sub.get e);exact ⟨v,o,keep _ _ ho,hd⟩
 free:=I.hok.fresh hC
 freeC:=fun x c e=>I.freeC x c (k.sub.get e)
 pin:=fun p hp=>by cases hp
 hok:=I.hok.kept keep
 len:=(compS_len ix σ).trans k.ixs.len
end
end L2
namespace L2
open PySem PySem.Spec PyProof.Rows BP
section
variable {prog:Program} {w:World} {A:Around} {R:Result→Shared→Prop} {s:Shared}
theorem comp_loop {elt tg iter:Expr} {ifs:List Expr} {scope:Scope} {pos:Pos} {it acc:Value} {env:Env} (J:Nat→Shared→Prop)
  (turn:∀ n s1,J n s1→∀ E:Value→Shared→Prop,wpAny (model prog w) A (pyNext it) (fun r s2=>(r=none∧R (.ok .next) s2)∨∃ v,r=some v∧wpAny (model prog w) A (letOwnedTupleGo tg it v) (fun _ s3=>wpAny (model prog w) A (assign tg env v) (fun _ s4 =>
    wpAny (model prog w) A (forIn ifs true fun c b=>if b=true then do let ok ← isTrue c env (eval c env); pure (ForInStep.yield ok) else pure (ForInStep.yield b)) (fun ok s5 =>
     (ok=true∧wpAny (model prog w) A (eval elt env) (fun x s6=>wpAny (model prog w) A (call (.builtin "list.append") [acc,x]) (fun _ s7=>∃ m,m<n∧J m s7) E s6) E s5)∨(ok=false∧∃ m,m<n∧J m s5)) E s4) E s3) E s2) E s1)
  (n:Nat) (h:J n s):codeAny (model prog w) A (.compLoop (.ListComp elt [⟨tg,iter,ifs,0⟩] scope pos) 0 it acc env) R s:=by
 refine codeAny_loop rfl J (fun n s1 hJ=>?_) n h;show wpAny _ _ ((compTurn (.ListComp elt [⟨tg,iter,ifs,0⟩] scope pos) 0 it acc env).onRaise fun x=>do
  noteFrame x env
  theTreesLotGoes x) _ _ s1
 refine wpAny_noted ?_;rw [compTurn_list];refine wpAny_bind (wpAny_standAt (wpAny_bind (thn (turn n s1 hJ _) fun r s2 h2=>?_)))
 rcases h2 with ⟨e,q⟩ | ⟨v,e,q⟩
 ·subst e
  exact wpAny_pure q
 ·subst e
  refine wpAny_bind (thn q fun _ s3 q3=>wpAny_bind (thn q3 fun _ s4 q4=>wpAny_bind (thn q4 fun ok s5 q5=>?_)))
  rcases q5 with ⟨e,q5⟩ | ⟨e,q5⟩
  ·subst e
   exact wpAny_bind (wpAny_bind (thn q5 fun x s6 q6=>wpAny_bind (thn q6 fun _ s7 q7=>wpAny_pure (wpAny_pure ⟨rfl,q7⟩))))
  ·subst e
   exact wpAny_pure ⟨rfl,q5⟩
end
def PIfs (X:Cx) (ifs:List Expr) (t:TT):Prop :=
 ∀ (pins:List (Addr×Obj)) (s:Shared) (σ:St) (H:Hp) (Q:Bool→Hp→Prop),Inv X pins σ H s→t σ H Q→wpAny (model X.prog X.w) X.A (forIn ifs true fun c b=>if b=true then do let ok ← isTrue c X.env (eval c X.env); pure (ForInStep.yield ok) else pure (ForInStep.yield b)) (TP X pins σ Q) X.xe s
def tNoIf:TT:=fun _ H Q=>Q true H
theorem yy {X:Cx}:PIfs X [] tNoIf:=fun _ _ _ H _ I h=>wpAny_tests_nil ⟨H,I,h⟩
theorem pif_one {X:Cx} {c:Expr} {t:TT} (h:PT X c t):PIfs X [c] t:=fun pins s σ H Q I q=>wpAny_tests_one (h pins s σ H Q I q)
def tCompZ (ix:List (Option Nat)) (wi:TI) (g:CP→TG) (tt:CP→TT) (te:CP→TE) (σ:St) (H:Hp) (Z:List V→Hp→Prop):Prop :=
 wi σ H fun J H1=>∃ W:Nat→Nat→List V→Hp→Prop,(∃ m,W 0 m [] H1)∧∀ i m ys H,W i m ys H→ys.length<sizeLine∧((J.stop i H∧Z ys H)∨(J.go i H∧∀ c x H',J.yld i H x H'→g c x (compS ix σ) H' fun σ2 H2=>tt c σ2 H2 fun b H3 =>
   (b=true∧te c σ2 H3 fun y H4=>∃ m',m'<m∧W (i+1) m' (ys++[y]) H4)∨(b=false∧∃ m',m'<m∧W (i+1) m' ys H3)))
def tComp (ix:List (Option Nat)) (wi:TI) (g:CP→TG) (tt:CP→TT) (te:CP→TE):TE:=fun σ H Q =>
 tCompZ ix wi g tt te σ H fun ys H1=>∀ D,H1 D=none→Q (.ref D) (upd H1 D (.lst ys))
def sComp (ix:List (Option Nat)) (i:Nat) (wi:TI) (g:CP→TG) (tt:CP→TT) (te:CP→TE):TS:=fun D σ H =>
 tCompZ ix wi g tt te σ H fun ys H1=>∀ p,H1 p=none→D.nx (σ.set i (some (.ref p))) (upd H1 p (.lst ys))
theorem comp_run {X:Cx} {scope:Scope} {cl:List (Str×Addr)} {N:List Str} {ix:List (Option Nat)} {elt tg iter:Expr} {ifs:List Expr} {pos pos':Pos} {wi:TI} {g:CP→TG} {tt:CP→TT} {te:CP→TE}
  {pins:List (Addr×Obj)} {σ:St} {H:Hp} {s:Shared} {Z:List V→Hp→Prop} {use:Option (Value→Sem Unit)} {Q0:Value→Shared→Prop}
  (k:CompOk X scope cl N ix) (hc:X.calm=true) (hi:PI X tg iter wi) (hg:∀ c,PG (X.comp scope cl N c) tg (g c)) (ho:∀ c σ,GOk (g c) (compS ix σ)) (ht:∀ c,PIfs (X.comp scope cl N c) ifs (tt c)) (he:∀ c,PE (X.comp scope cl N c) elt (te c))
  (hs:∀ x,foldedSetIterable iter X.env x=pure x) (I:Inv X pins σ H s) (h:tCompZ ix wi g tt te σ H Z)
  (fin:∀ (D C:Addr) (s':Shared) (H':Hp) (ys:List V) (m:Str→Option Value),Inv X pins σ (upd H' D (.lst ys)) s'→FpOk X pins (upd H' D (.lst ys)) C→s'.heap.Ns C m→H' D=none→Z ys H'→compPost (model X.prog X.w) X.A X.xe use Q0 (.ref D) C (.ok .next) s') :
  wpAny (model X.prog X.w) X.A (comprehension (.ListComp elt [⟨tg,iter,ifs,0⟩] scope pos) scope X.env pos' (newList []) false (eval iter X.env) use) Q0 X.xe s:=by
 have hnm:∀ x∈scope.names,x.2=.local→scope.names.lookup x.1=some .local:=fun x hx hl=>by
  have q:=List.all_eq_true.mp k.nms x hx;rw [hl] at q
  simpa using q
 have hnc:∀ x∈scope.names,x.2≠.cell:=fun x hx=>by
  have q:=List.all_eq_true.mp k.nocell x hx
  simpa using q
 refine wpAny_comprehension_free rfl hs k.clos k.kind hnm (thn (hi pins s σ H _ I h) fun v s1 h1=>thn h1 fun itv s2 h2=>?_);obtain ⟨it,fp,tn,J,H2,e,I2,T,st2,f2,W,⟨m0,w0⟩,step⟩:=h2;subst e;refine wpAny_newObj_type (wpAny_newFunctionEnv hnc (by intro y hy; simp at hy) (fun h3 hns hsb=>?_) k.kind);dsimp only at hns hsb ⊢;generalize hD:s2.heap.objs.size=D at hns hsb ⊢;generalize hP:s2.heap.push { cls:=.type "list",dict:=none,data:=.seq ([]:List Value).toArray }=P2 at hns hsb ⊢;generalize hCe:P2.objs.size=C at hns hsb ⊢;have szC:C=D+1:=by rw [← hCe,← hP,Heap.size_push,hD]
 have hDC:D≠C:=by rw [szC]; exact Nat.ne_of_lt (Nat.lt_succ_self _)
 have ltD:∀ {b:Addr} {o:Obj},s2.heap.get? b=some o→b<D:=fun e=>hD ▸ Heap.lt_size e
 have pD:P2.get? D=some { cls:=.type "list",dict:=none,data:=.seq ([]:List Value).toArray }:=by rw [← hP,← hD]; exact Heap.get?_push_size _ rfl
 have old:∀ b o,s2.heap.get? b=some o→h3.get? b=some o:=fun b o e=>by
  have lb:=ltD e;have nb:b≠C:=by rw [szC]; exact Nat.ne_of_lt (Nat.lt_succ_of_lt lb)
  refine (hsb.2 b nb).trans ?_;refine Heap.get?_push_of_some _ ?_;rw [← hP];exact Heap.get?_push_of_some _ e
 have lst0:h3.PlainList D #[]:=⟨_,(hsb.2 D hDC).trans (Heap.get?_push_of_some _ pD)⟩;have lt2:∀ b∈fp,b<s2.heap.objs.size:=fun b hb=>let ⟨_,e,_⟩:=T.obj _ _ st2 b hb; Heap.lt_size e
 have f2':∀ b∈fp,FpOk X pins H2 b∧b<s2.heap.objs.size:=fun b hb=>⟨f2 b hb,lt2 b hb⟩
 have leC:s2.heap.objs.size≤C:=by rw [szC,hD]; exact Nat.le_succ _
 have leD:s2.heap.objs.size≤D:=by rw [hD]; exact Nat.le_refl _
 have nD:D∉fp:=fun z=>Nat.lt_irrefl _ (hD ▸ lt2 D z)
 have nC:C∉fp:=fun z=>Nat.lt_irrefl _ (An (lt2 C z) leC)
 have st3:tn 0 h3:=T.keep _ _ _ st2 fun b _ o e=>old b o e
 generalize hY:X.comp scope cl N ⟨C,fp,s2,H2⟩=Y;have I3:Inv Y [] (compS ix σ) H2 { s2 with heap:=h3,toks:=s2.toks+([]:List (Str×Value)).length }:=hY ▸ k.enter I2 f2' leC old hns;have fpY:∀ {H':Hp},(∀ b∈fp,H' b=none)→∀ b∈fp,FpOk Y [] H' b:=fun {H'} hn b hb=>by
  subst hY;obtain ⟨_,a1,a2,a3,a4,a5⟩:=f2 b hb;refine ⟨hn b hb,Nat.ne_of_lt (An (lt2 b hb) leC),fun z=>?_,.inl hb,fun x c e=>a4 x c (k.sub.get e),fun p hp=>by cases hp⟩
  rcases List.mem_cons.mp (I2.stkSub b z) with e | e
  ·exact a1 e
  ·exact a2 e
 have nDs:D∉frs X.stack:=fun z=>by
  rcases List.mem_cons.mp (I2.stkSub D z) with e | e
  ·exact absurd I2.lt (by rw [← e]; exact Nat.not_lt.mpr leD)
  ·exact I2.nofs leD e
 have cD:∀ x c,cl.lookup x=some c→c≠D:=fun x c e z=>by
  obtain ⟨v,o,ho,_⟩:=I2.cell x c (k.sub.get e);exact absurd (Heap.lt_size ho) (by rw [z]; exact Nat.not_lt.mpr leD)
 have prgY:Y.prog=X.prog:=by rw [← hY]
 have wY:Y.w=X.w:=by rw [← hY]
 have KY:Y.K=X.K:=by rw [← hY]
 have AY:Y.A=X.A:=by rw [← hY]
 have cY:Y.calm=true:=by rw [← hY]; exact hc
 have xeY:Y.xe=fun _ _=>False:=by rw [← hY]
 have envY:Y.env=compEnvC scope cl C X.env:=by rw [← hY]
 have pinD:∀ {σ':St} {H':Hp} {s':Shared} {us:Array Value} {n0:Nat},Inv Y [] σ' H' s'→H' D=none→s'.heap.PlainList D us→s'.heap.get? D=some { cls:=.type "list",data:=.seq us n0 }→Inv Y [(D,{ cls:=.type "list",data:=.seq us n0 })] σ' H' s':=fun I' hn _ e=>I'.pins_of fun p hp=>by
  have e1:p=(D,_):=Al.mp hp;subst e1;exact ⟨e,hn,by rw [← hY]; exact hDC,by rw [← hY]; exact nDs,fun v z=>by cases z⟩
 have fpD:∀ {H':Hp},(∀ b∈fp,H' b=none)→∀ (o:Obj),∀ b∈fp,FpOk Y [(D,o)] H' b:=fun {H'} hn o b hb=>by
  obtain ⟨a0,a1,a2,a3,a4,a5⟩:=fpY hn b hb;refine ⟨a0,a1,a2,a3,a4,fun p hp=>?_⟩
  rcases Aw.mp hp with z | z
  ·exact a5 p (Ah _ z)
  ·have e1:p=(D,o):=Al.mp z
   subst e1;exact fun z=>by
    have z':D=b:=z;rw [z'] at nD;exact nD hb
 have leave:∀ {s':Shared} {H':Hp} {ys:List V} {us:Array Value},Inv Y [] (compS ix σ) H' s'→H' D=none→s'.heap.PlainList D us→Vals ys us.toList→ys.length≤sizeLine→Z ys H'→compPost (model X.prog X.w) X.A X.xe use Q0 (.ref D) C (.ok .next) s':=fun {s' H' ys us} I' hn hpl rv hl z=>by
  subst hY;have I4:Inv X pins σ H' s':=I2.call' (ch:=fp) I'.os I'.base I'.hok I'.bare fun b hb=>let ⟨_,a1,_,a3,a4,a5⟩:=f2 b hb; ⟨a3,a1,a4,a5⟩
  have fD:=I2.fpOk (H':=H') leD hn;have ok:ObjOk X.prog X.w (upd H' D (.lst ys)) s'.heap D (.lst ys):=by
   obtain ⟨n,e⟩:=hpl;exact ⟨hl,us.toList,n,rv,by simpa using e⟩
  have I5:Inv X pins σ (upd H' D (.lst ys)) s':=by
   refine I4.track hn ?_ fD.2.2.2.2.2 fD.2.1 fD.2.2.2.2.1 ok;refine Heap.get?_none_of_le (Ba I2.sz leD)
  obtain ⟨m,hm,_⟩:=I'.loc;have hC':upd H' D (.lst ys) C=none:=by
   rw [zZ (Ne.symm hDC)];exact I'.free
  exact fin D C s' H' ys m I5 (I2.fpOk leC hC') hm hn z
 have loop:codeAny (model X.prog X.w) X.A (.compLoop (.ListComp elt [⟨tg,iter,ifs,0⟩] scope pos) 0 (.ref it) (.ref D) (compEnvC scope cl C X.env))
   (compPost (model X.prog X.w) X.A X.xe use Q0 (.ref D) C) { s2 with heap:=h3,toks:=s2.toks+([]:List (Str×Value)).length }:=by
  refine comp_loop (fun n s'=>∃ i H' ys us,Inv Y [] (compS ix σ) H' s'∧tn i s'.heap∧(∀ b∈fp,H' b=none)∧H' D=none∧s'.heap.PlainList D us∧Vals ys us.toList∧W i n ys H') ?_ m0
   ⟨0,H2,[],#[],I3,st3,fun b hb=>(f2 b hb).1,I2.hok.fresh leD,lst0,.nil,w0⟩
  rintro n s4 ⟨i,H4,ys,us,I4,st4,fr4,d4,l4,v4,w4⟩ E;obtain ⟨hl,step4⟩:=step i n ys H4 w4
  rcases step4 with ⟨stop,z⟩ | ⟨go,turn⟩
  ·obtain ⟨n0,e0⟩:=l4
   have I4':=pinD I4 d4 ⟨n0,e0⟩ e0;have q:=T.done Y prgY wY KY cY i _ s4 (compS ix σ) H4 E I4' (fpD fr4 _) st4 stop;rw [AY] at q;refine thn q fun r s5 q5=>.inl ⟨q5.1,?_⟩
   have e5:=(q5.2.pin _ (Ac _ Am)).1;exact leave (q5.2.pins_of fun p hp=>by cases hp) d4 ⟨n0,e5⟩ v4 (Nat.le_of_lt hl) z
  ·obtain ⟨n0,e0⟩:=l4
   have I4':=pinD I4 d4 ⟨n0,e0⟩ e0;have q:=T.item Y prgY wY KY cY i _ s4 (compS ix σ) H4 E I4' (fpD fr4 _) st4 go;rw [AY] at q;refine thn q fun r s5 q5=>.inr ?_
   obtain ⟨v,er,q5⟩:=q5;refine ⟨v,er,thn q5 fun _ s6 q6=>?_⟩;obtain ⟨x,H6,I6,r6,y6,st6,fr6⟩:=q6;have I6':=I6.pinned (fpD fr6 _) (T.obj _ _ st6);have g6:=ho ⟨C,fp,s2,H2⟩ σ x H6 _ (turn ⟨C,fp,s2,H2⟩ x H6 y6);have inD:∀ {l:List (Addr×Obj)},(D,({ cls:=.type "list",data:=.seq us n0 }:Obj))∈Y.pn++([(D,{ cls:=.type "list",data:=.seq us n0 })]++l):=Ac _ (Ah _ Am);have inF:∀ {b:Addr} {o:Obj},b∈fp→s6.heap.get? b=some o→(b,o)∈Y.pn++([(D,({ cls:=.type "list",data:=.seq us n0 }:Obj))]++pinsAt fp s6.heap):=fun hb e=>Ac _ (Ac _ (mem_pinsAt hb e))
   have back:∀ {σ7:St} {H7:Hp} {s7:Shared},Inv Y ([(D,{ cls:=.type "list",data:=.seq us n0 })]++pinsAt fp s6.heap) σ7 H7 s7→LeS (compS ix σ) σ7→Inv Y [] (compS ix σ) H7 s7∧tn (i+1) s7.heap∧(∀ b∈fp,H7 b=none)∧H7 D=none∧s7.heap.PlainList D us:=fun {σ7 H7 s7} I7 le=>by
    refine ⟨(I7.weak le.len fun i v e=>le.get e).pins_of (fun p hp=>(by cases hp)),T.keep _ _ _ st6 fun b hb o e=>(I7.pin _ (inF hb e)).1,fun b hb=>?_,(I7.pin _ inD).2.1,n0,(I7.pin _ inD).1⟩;obtain ⟨o,e,_⟩:=T.obj _ _ st6 b hb;exact (I7.pin _ (inF hb e)).2.1
   have hgY:=hg ⟨C,fp,s2,H2⟩;have htY:=ht ⟨C,fp,s2,H2⟩;have heY:=he ⟨C,fp,s2,H2⟩;rw [hY] at hgY htY heY;have q7:=hgY _ s6 _ H6 x v _ I6' r6 g6;rw [prgY,wY,AY,xeY,envY] at q7;refine wpAny_mono q7 (fun _ s7 q7=>?_) fun _ _ z=>z.elim
   obtain ⟨σ7,H7,I7,le7,t7⟩:=q7;have q8:=htY _ s7 σ7 H7 _ I7 t7;rw [prgY,wY,AY,xeY,envY] at q8;refine wpAny_mono q8 (fun ok s8 q8=>?_) fun _ _ z=>z.elim
   obtain ⟨H8,I8,q8⟩:=q8
   rcases q8 with ⟨eo,q8⟩ | ⟨eo,m',hm,w8⟩
   ·refine .inl ⟨eo,?_⟩
    have q9:=heY _ s8 σ7 H8 _ I8 q8;rw [prgY,wY,AY,xeY,envY] at q9;refine wpAny_mono q9 (fun u s9 q9=>?_) fun _ _ z=>z.elim
    obtain ⟨y,H9,I9,r9,m',hm,w9⟩:=q9;obtain ⟨J9,t9,f9,d9,l9⟩:=back I9 le7;have hsz:us.size≤sizeLine:=by
     have e1:ys.length=us.toList.length:=v4.length;have e2:us.toList.length=us.size:=by simp
     exact Nat.le_of_lt (e2 ▸ e1 ▸ hl)
    refine wpAny_list_append_plain l9 (fun h10 l10 sb=>?_) hsz;have J10:Inv Y [] (compS ix σ) H9 { s9 with heap:=h10 }:=J9.turned (t':=s9.toks) (fun b o hb e=>(sb.2 b hb).trans e) d9 (by rw [← hY]; exact hDC) (.inr (by rw [← hY]; exact leD)) (fun x c e=>by rw [← hY] at e; exact cD x c e) fun p hp=>by rw [← hY] at hp; cases hp
    refine ⟨m',hm,i+1,H9,ys++[y],us.push u,J10,T.keep _ _ _ t9 fun b hb o e=>(sb.2 b fun z=>nD (z ▸ hb)).trans e,f9,d9,l10,?_,w9⟩;rw [Array.toList_push];exact v4.append (.cons r9 .nil)
   ·refine .inr ⟨eo,m',hm,i+1,H8,ys,us,?_⟩
    obtain ⟨J8,t8,f8,d8,l8⟩:=back I8 le7;exact ⟨J8,t8,f8,d8,l8,v4,w8⟩
 exact codeAny_compStart_list loop (T.self _ 0 _ _ _ st3 loop)
def closL (scope:Scope) (env:Env):List (Str×Addr):=scope.names.foldl (fun cs p=>if p.2==.free then (p.1,(env.cells.lookup p.1).getD 0)::cs else cs) []
theorem jj {k:Option NameKind} (h:k=some .cell):k≠some .local:=fun z=>by rw [h] at z; cases z
theorem vJ {X:Cx} {scope:Scope} {N:List Str} {ix:List (Option Nat)} {elt tg iter:Expr} {ifs:List Expr} {pos:Pos} {wi:TI} {g:CP→TG} {tt:CP→TT} {te:CP→TE}
  (k:CompOk X scope (closL scope X.env) N ix) (hc:X.calm=true) (hi:PI X tg iter wi) (hg:∀ c,PG (X.comp scope (closL scope X.env) N c) tg (g c)) (ho:∀ c σ,GOk (g c) (compS ix σ)) (ht:∀ c,PIfs (X.comp scope (closL scope X.env) N c) ifs (tt c)) (he:∀ c,PE (X.comp scope (closL scope X.env) N c) elt (te c))
  (hs:∀ x,foldedSetIterable iter X.env x=pure x:=by intro _; rfl):PE X (.ListComp elt [⟨tg,iter,ifs,0⟩] scope pos) (tComp ix wi g tt te):=by
 intro pins s σ H Q I h;rw [eval_ListComp];refine comp_run (use:=none) k hc hi hg ho ht he hs I h fun D C s' H' ys m I' fC hm hn z=>?_
 refine ⟨m,hm,fun h' sb=>⟨.ref D,_,I'.turned (t':=s'.toks) (fun b o hb e=>(sb.2 b hb).trans e) fC.1 fC.2.1 fC.2.2.2.1 fC.2.2.2.2.1 fC.2.2.2.2.2,rfl,z D hn⟩⟩
theorem wW {X:Cx} {scope:Scope} {N:List Str} {ix:List (Option Nat)} {elt tg iter:Expr} {ifs:List Expr} {pos ps pn:Pos} {wi:TI} {g:CP→TG} {tt:CP→TT} {te:CP→TE} {i:Nat} {x:Str}
  (hN:X.N.Nodup) (hx:X.N[i]?=some x) (hl:Loc X.env.scope x) (k:CompOk X scope (closL scope X.env) N ix) (hc:X.calm=true) (hi:PI X tg iter wi) (hg:∀ c,PG (X.comp scope (closL scope X.env) N c) tg (g c)) (ho:∀ c σ,GOk (g c) (compS ix σ)) (ht:∀ c,PIfs (X.comp scope (closL scope X.env) N c) ifs (tt c))
  (he:∀ c,PE (X.comp scope (closL scope X.env) N c) elt (te c)) (hsw:swapsWith (.ListComp elt [⟨tg,iter,ifs,0⟩] scope pos) (some (.Name x pn)) ps.line X.env=pure true:=by rfl)
  (hs:∀ x,foldedSetIterable iter X.env x=pure x:=by intro _; rfl) (hf:X.fn x=true∨X.env.scope.names.lookup x=some .local:=by first | exact .inl rfl | exact .inr rfl | assumption) :
  PS X (.Assign [.Name x pn] (.ListComp elt [⟨tg,iter,ifs,0⟩] scope pos) ps) (sComp ix i wi g tt te):=by
 intro pins s σ H D I h;rw [exec_Assign_Name_used _ _ _ _ hsw];refine wpAny_bind (wpAny_standAt (wpAny_bind ?_));show wpAny _ _ (comprehension (.ListComp elt [⟨tg,iter,ifs,0⟩] scope pos) scope X.env _ (newList []) false (eval iter X.env) (some (assign (.Name x pn) X.env)) >>= fun _=>_) _ _ s;refine wpAny_bind (thn (comp_run (use:=some (assign (.Name x pn) X.env)) (Q0:=fun _ s'=>SP X pins D .next s') k hc hi hg ho ht he hs I h fun p C s' H' ys m I' fC hm hn z=>?_) fun _ s' q=>wpAny_pure (wpAny_pure q));show wpAny _ _ (assign (.Name x pn) X.env (.ref p)) _ _ s';refine wpAny_assign_Name (store_ok2 (v:=.ref p) I' hN hx hl rfl (fun s3 I3 same=>?_) hf);obtain ⟨b,sb,hb⟩:=same;have nb:C≠b:=by
  rcases hb with e | e
  ·rw [e]; exact fC.2.1
  ·exact Ne.symm (fC.2.2.2.2.1 x b e)
 refine ⟨m,hm.sameBut sb nb,fun h' sb'=>⟨_,_,I3.turned (t':=s3.toks) (fun c o hc e=>(sb'.2 c hc).trans e) fC.1 fC.2.1 fC.2.2.2.1 fC.2.2.2.2.1 fC.2.2.2.2.2,z p hn⟩⟩
def CW (n:Nat) (Pv:Nat→List V→Hp→Prop) (i m:Nat) (ys:List V) (H:Hp):Prop:=m+i=n∧ys.length≤i∧Pv i ys H
theorem j3 {J:It} {n:Nat} {ix:List (Option Nat)} {g:CP→TG} {tt:CP→TT} {te:CP→TE} {σ:St} {H1:Hp} {Z:List V→Hp→Prop} (Pv:Nat→List V→Hp→Prop) (h0:Pv 0 [] H1) (hn:n<sizeLine)
  (stop:∀ ys H,Pv n ys H→J.stop n H∧Z ys H) (go:∀ i ys H,i<n→Pv i ys H→J.go i H)
  (step:∀ i m ys H c x H',i<n→Pv i ys H→J.yld i H x H'→(∀ y H4,Pv (i+1) (ys++[y]) H4→∃ m',m'<m∧CW n Pv (i+1) m' (ys++[y]) H4)→(∀ H4,Pv (i+1) ys H4→∃ m',m'<m∧CW n Pv (i+1) m' ys H4)→g c x (compS ix σ) H' fun σ2 H2=>tt c σ2 H2 fun b H3=>(b=true∧te c σ2 H3 fun y H4=>∃ m',m'<m∧CW n Pv (i+1) m' (ys++[y]) H4)∨(b=false∧∃ m',m'<m∧CW n Pv (i+1) m' ys H3)) :
  ∃ W:Nat→Nat→List V→Hp→Prop,(∃ m,W 0 m [] H1)∧∀ i m ys H,W i m ys H→ys.length<sizeLine∧((J.stop i H∧Z ys H)∨(J.go i H∧∀ c x H',J.yld i H x H'→g c x (compS ix σ) H' fun σ2 H2=>tt c σ2 H2 fun b H3 =>
    (b=true∧te c σ2 H3 fun y H4=>∃ m',m'<m∧W (i+1) m' (ys++[y]) H4)∨(b=false∧∃ m',m'<m∧W (i+1) m' ys H3))):=by
 refine ⟨CW n Pv,⟨n,by omega,Nat.le_refl _,h0⟩,?_⟩;rintro i m ys H ⟨hm,hl,p⟩;refine ⟨by omega,?_⟩
 by_cases hi:i<n
 ·refine .inr ⟨go i ys H hi p,fun c x H' hy=>step i m ys H c x H' hi p hy (fun y H4 q=>⟨m - 1,by omega,by omega,?_,q⟩) fun H4 q=>⟨m - 1,by omega,by omega,by omega,q⟩⟩
  rw [Ak,Ab];omega
 ·have e:i=n:=by omega
  subst e;exact .inl (stop ys H p)
theorem Z0 {J:It} {n:Nat} {g:TG} {tb:TS} {D:Ends} {σ:St} {H:Hp} (Pv:Nat→St→Hp→Prop) (h0:Pv 0 σ H) (stop:∀ σ H,Pv n σ H→J.stop n H∧D.nx σ H) (go:∀ i σ H,i<n→Pv i σ H→J.go i H)
  (step:∀ i σ H x H',i<n→Pv i σ H→J.yld i H x H'→g x σ H' fun σ2 H2=>tb { D with nx:=Pv (i+1),ct:=Pv (i+1),bk:=D.nx } σ2 H2) :
  ∃ W:Nat→Nat→St→Hp→Prop,(∃ m,W 0 m σ H)∧∀ i m σ H,W i m σ H→(J.stop i H∧D.nx σ H)∨(J.go i H∧∃ N:St→Hp→Prop,(∀ σ' H',N σ' H'→∃ m',m'<m∧W (i+1) m' σ' H')∧∀ x H',J.yld i H x H'→g x σ H' fun σ2 H2=>tb { D with nx:=N,ct:=N,bk:=D.nx } σ2 H2):=by
 refine ⟨fun i m σ H=>m+i=n∧Pv i σ H,⟨n,by omega,h0⟩,?_⟩;rintro i m σ H ⟨hm,p⟩
 by_cases hi:i<n
 ·exact .inr ⟨go i σ H hi p,Pv (i+1),fun σ' H' q=>⟨m - 1,by omega,by omega,q⟩,fun x H' y=>step i σ H x H' hi p y⟩
 ·have e:i=n:=by omega
  subst e;exact .inl (stop σ H p)
end L2
namespace L2
open PySem PySem.Spec PyProof.Rows BP
theorem boot_all:bootBuiltins "all" = some (.builtin "all"):=PyProof.Rows.boot_all
theorem boot_any:bootBuiltins "any" = some (.builtin "any"):=by decide +kernel
theorem boot_zip:bootBuiltins "zip" = some (.type "zip"):=PyProof.Rows.boot_zip
theorem boot_enumerate:bootBuiltins "enumerate" = some (.type "enumerate"):=PyProof.Rows.boot_enumerate
theorem range_all (bs:List Bool) (tr:Nat→Bool) (h:∀ i b,bs[i]?=some b→tr i=b):(List.range bs.length).all tr=bs.all id:=by
 induction bs generalizing tr with
 | nil=>rfl
 | cons b r ih =>
  have q:=ih (fun i=>tr (i+1)) fun i c e=>h (i+1) c (by simpa using e)
  rw [List.length_cons,List.range_succ_eq_map,List.all_cons,List.all_map,List.all_cons,h 0 b rfl];exact congrArg (b&&·) q
theorem range_any (bs:List Bool) (tr:Nat→Bool) (h:∀ i b,bs[i]?=some b→tr i=b):(List.range bs.length).any tr=bs.any id:=by
 induction bs generalizing tr with
 | nil=>rfl
 | cons b r ih =>
  have q:=ih (fun i=>tr (i+1)) fun i c e=>h (i+1) c (by simpa using e)
  rw [List.length_cons,List.range_succ_eq_map,List.any_cons,List.any_map,List.any_cons,h 0 b rfl];exact congrArg (b||·) q
theorem vals_bl:∀ {bs:List Bool} {us:List Value},Vals (bs.map V.bl) us→us=bs.map Value.bool
 | [],_,.nil=>rfl
 | b::r,_,.cons h t=>by
  have e:_=Value.bool b:=h;rw [e,vals_bl t]; rfl
section
variable {X:Cx}
theorem bools_walk {pins:List (Addr×Obj)} {σ:St} {H:Hp} {s:Shared} {p:Addr} {bs:List Bool} (hc:X.calm=true) (I:Inv X pins σ H s) (hq:SqL X.K H p (bs.map V.bl)) {R:(Nat→Bool)→Shared→Prop}
  (fin:∀ (tr:Nat→Bool) (h':Heap) (tk:Nat),(∀ i b,bs[i]?=some b→tr i=b)→Inv X pins σ H { s with heap:=h',toks:=tk }→R tr { s with heap:=h',toks:=tk }) {E:Value→Shared→Prop} :
  wpAny (model X.prog X.w) X.A.in1 (pyIter (.ref p)) (fun it s2=>∃ I fp wr n P St tr,it=.ref I∧Walks X.prog X.w X.A.in1 I fp wr n P St∧St 0 s2.heap∧TruthOf X.prog X.w X.A.in1 P tr∧n=bs.length∧∀ h' tk,(∀ b o,b∉wr→s2.heap.get? b=some o→h'.get? b=some o)→R tr { s2 with heap:=h',toks:=tk }) E s:=by
 obtain ⟨its,rv,pl,hz⟩:=I.list hq;have el:=vals_bl rv;refine wpAny_pyIter_list pl.isList ?_;have ne:p≠s.heap.objs.size:=Nat.ne_of_lt pl.lt;refine ⟨s.heap.objs.size,_,_,_,_,_,fun i=>bs.getD i true,rfl,Walks.list (A:=X.A.in1) (I.ok.hd hc) _ p ne its.toArray,⟨⟨_,Heap.get?_push_size _ rfl,rfl,rfl⟩,?_⟩,fun i v s1 Q E' hv q=>?_,?_,fun h' tk k=>?_⟩
 ·obtain ⟨o,e,r⟩:=pl.isList
  exact ⟨o,Heap.get?_push_of_some _ e,r⟩
 ·have hv':its[i]?=some v:=by simpa using hv
  rw [el,List.getElem?_map] at hv'
  cases hb:bs[i]? with
  | none=>rw [hb] at hv'; cases hv'
  | some b =>
   rw [hb] at hv';have e:Value.bool b=v:=B0 hv';subst e;have e2:bs.getD i true=b:=by simp [List.getD,hb]
   have q:Q (bs.getD i true) s1:=q;rw [e2] at q;exact wpAny_truthy_bool q
 ·rw [el]; simp
 ·refine fin _ h' tk (fun i b e=>by simp [List.getD,e]) (I.kept fun b u e=>k b u (fun z=>?_) (Heap.get?_push_of_some _ e))
  have e1:b=s.heap.objs.size:=by simpa using z
  exact absurd (Heap.lt_size e) (by rw [e1]; exact Nat.lt_irrefl _)
theorem call_all (hc:X.calm=true):CallR X (.builtin "all") (fun xs H Q=>∃ (p:Addr) (bs:List Bool),xs=[.ref p]∧SqL X.K H p (bs.map V.bl)∧Q (.bl (bs.all id)) H):=by
 intro pins s σ H xs us Q I r h;obtain ⟨p,bs,rfl,hq,q⟩:=h;obtain ⟨u,rfl,rx⟩:=vals1 r
 cases rx
 refine call_all_walk (thn (bools_walk hc I hq (R:=fun tr s'=>EP X pins σ Q (.bool ((List.range bs.length).all tr)) s') fun tr h' tk e I'=>⟨.bl (bs.all id),H,I',by rw [range_all bs tr e]; rfl,q⟩) ?_);rintro it s2 ⟨I',fp,wr,n,P,St,tr,e1,e2,e3,e4,rfl,e6⟩;exact ⟨I',fp,wr,_,P,St,tr,e1,e2,e3,e4,e6⟩
theorem call_any (hc:X.calm=true):CallR X (.builtin "any") (fun xs H Q=>∃ (p:Addr) (bs:List Bool),xs=[.ref p]∧SqL X.K H p (bs.map V.bl)∧Q (.bl (bs.any id)) H):=by
 intro pins s σ H xs us Q I r h;obtain ⟨p,bs,rfl,hq,q⟩:=h;obtain ⟨u,rfl,rx⟩:=vals1 r
 cases rx
 refine call_any_walk (thn (bools_walk hc I hq (R:=fun tr s'=>EP X pins σ Q (.bool ((List.range bs.length).any tr)) s') fun tr h' tk e I'=>⟨.bl (bs.any id),H,I',by rw [range_any bs tr e]; rfl,q⟩) ?_);rintro it s2 ⟨I',fp,wr,n,P,St,tr,e1,e2,e3,e4,rfl,e6⟩;exact ⟨I',fp,wr,_,P,St,tr,e1,e2,e3,e4,e6⟩
end
def Itz (K:Bc) (a b:Addr):It :=
 ⟨fun i H=>∃ xs ys x y,SqL K H a xs∧SqL K H b ys∧xs[i]?=some x∧ys[i]?=some y,fun i H v H'=>∃ p x y,H p=none∧v=.ref p∧H'=upd H p (.tup [x,y])∧(∀ xs,SqL K H a xs→xs[i]?=some x)∧∀ ys,SqL K H b ys→ys[i]?=some y,fun i H=>∃ xs ys,SqL K H a xs∧SqL K H b ys∧(xs.length≤i∨ys.length≤i)⟩
theorem ty_ne {x y:String} (h:x≠y):Value.type x≠Value.type y:=fun q=>h (Value.type.inj q)
structure ZipSt (z TI TO i1 i2 a b:Addr) (i:Nat) (h:Heap):Prop where
 nd:[z,TI,TO,i1,i2].Nodup
 zip:IsZip h z TI TO .none
 its:IsPair h TI (.ref i1) (.ref i2)
 out:∃ x y,IsPair h TO x y
 one:h.IsListIter i1 a i
 two:h.IsListIter i2 b i
theorem ZipSt.apart {z TI TO i1 i2 a b:Addr} {i:Nat} {h:Heap} {xs ys:Array Value} (t:ZipSt z TI TO i1 i2 a b i h) (ha:h.IsList a xs) (hb:h.IsList b ys):ZipApart z TI TO i1 i2 a b:=by
 have nd:=t.nd
 simp only [List.nodup_cons,List.mem_cons,List.not_mem_nil,or_false,not_or,List.nodup_nil,and_true,not_false_eq_true] at nd
 obtain ⟨⟨n1,n2,n3,n4⟩,⟨n5,n6,n7⟩,⟨n8,n9⟩,n10⟩:=nd;have lst:∀ {c d:Addr} {zs:Array Value} {o:Obj},h.IsList c zs→h.get? d=some o→o.cls≠.type "list" → c≠d:=fun {c d zs o} hc e hn q=>by
  obtain ⟨o',e',c',_⟩:=hc;rw [q,e] at e'
  cases e'
  exact hn c'
 obtain ⟨x,y,ho⟩:=t.out;obtain ⟨o1,e1,c1,_⟩:=t.one;obtain ⟨o2,e2,c2,_⟩:=t.two;have k1:o1.cls≠.type "list" := by rw [c1]; exact ty_ne (by decide)
 have k2:o2.cls≠.type "list" := by rw [c2]; exact ty_ne (by decide)
 exact { TIz:=Ne.symm n1,TOz:=Ne.symm n2,i1z:=Ne.symm n3,i2z:=Ne.symm n4,TITO:=n5,TIi1:=n6,TIi2:=n7,TOi1:=n8,TOi2:=n9,i12:=n10,l1z:=lst ha t.zip (ty_ne (by decide)),l1TO:=lst ha ho (ty_ne (by decide)),l1i1:=lst ha e1 k1,l1i2:=lst ha e2 k2,l2z:=lst hb t.zip (ty_ne (by decide)),l2TO:=lst hb ho (ty_ne (by decide)),l2i1:=lst hb e1 k1,l2i2:=lst hb e2 k2 }
theorem Inv.turnedAll {X:Cx} {pins:List (Addr×Obj)} {σ:St} {H:Hp} {s:Shared} {h':Heap} {t':Nat} {fp:List Addr} (I:Inv X pins σ H s) (hf:∀ b∈fp,FpOk X pins H b)
  (k:∀ b o,b∉fp→s.heap.get? b=some o→h'.get? b=some o):Inv X pins σ H { s with heap:=h',toks:=t' }:=by
 have nf:∀ b u,H b=some u→b∉fp:=fun b u e z=>by rw [(hf b z).1] at e; cases e
 refine I.step (g':=s.gens) (d':=s.drawn) (ch:=fp) (fun b hb=>?_) (fun b o _ _ hc e _=>k b o hc e) (fun b o _ _ hc e _=>⟨o.slots,k b o hc e⟩) (fun _ _ _ _ n=>n)
  (fun b o hc e=>⟨o,k b o hc e⟩) (fun _ _ e=>e) (fun _ _ _ e=>e) (fun b ps e=>⟨#[],by rw [e]; simp⟩) (fun m hm=>?_) (fun b u e=>?_) I.bare
 ·obtain ⟨_,a1,_,a3,a4,a5⟩:=hf b hb
  exact ⟨a3,a1,a4,a5⟩
 ·obtain ⟨o,es,ep,ho,r⟩:=hm
  exact ⟨o,es,ep,k _ o (fun z=>(hf _ z).2.1 rfl) ho,r⟩
 ·refine (I.hok b u e).stay (fun c v hc q=>k c v ?_ q) (fun _ q=>q) fun _ _ q=>q
  rcases hc with z | z
  ·rw [z]; exact nf b u e
  ·exact nf c _ z
theorem pair_ok {P:Program} {w:World} {H:Hp} {h:Heap} {p:Addr} {x y:V} {u v:Value} (e:IsPair h p u v) (rx:RelV x u) (ry:RelV y v):ObjOk P w H h p (.tup [x,y]) :=
 ⟨(show 2≤sizeLine by decide),[u,v],.cons rx (.cons ry .nil),_,e,rfl,_,rfl⟩
theorem turn_zip {P:Program} {w:World} {K:Bc} {es:List Expr} {k1:Nat} {pt:Pos} (z TI TO i1 i2 a b:Addr):Turn P w K (.Tuple es k1 pt) (Itz K a b) [z,TI,TO,i1,i2] z (ZipSt z TI TO i1 i2 a b) where
 mem:=by simp
 obj:=fun i h t c hc=>by
  obtain ⟨x,y,ho⟩:=t.out;obtain ⟨o1,e1,c1,d1⟩:=t.one;obtain ⟨o2,e2,c2,d2⟩:=t.two
  simp only [List.mem_cons,List.not_mem_nil,or_false] at hc
  rcases hc with rfl | rfl | rfl | rfl | rfl
  ·exact ⟨_,t.zip,fun v q=>by cases q⟩
  ·exact ⟨_,t.its,fun v q=>by cases q⟩
  ·exact ⟨_,ho,fun v q=>by cases q⟩
  ·exact ⟨_,e1,fun v q=>by rw [d1] at q; cases q⟩
  ·exact ⟨_,e2,fun v q=>by rw [d2] at q; cases q⟩
 keep:=fun i h h' t k=>by
  obtain ⟨x,y,ho⟩:=t.out;exact ⟨t.nd,k z (by simp) _ t.zip,k TI (by simp) _ t.its,⟨x,y,k TO (by simp) _ ho⟩,t.one.at fun o e=>k i1 (by simp) o e,t.two.at fun o e=>k i2 (by simp) o e⟩
 item:=by
  intro X hP hw hK hc i pins s σ H E I hf t hg;subst hP hw hK;obtain ⟨xs,ys,x,y,qa,qb,hx,hy⟩:=hg;obtain ⟨as,ra,pa,_⟩:=I.list qa;obtain ⟨bs,rb,pb,_⟩:=I.list qb;obtain ⟨u,hu,ru⟩:=ra.get hx;obtain ⟨v,hv,rv⟩:=rb.get hy;obtain ⟨x0,y0,ho⟩:=t.out;have D:=t.apart pa.isList pb.isList;refine wpAny_pyNext_zip_item D t.zip t.its ho t.one t.two pa.isList pb.isList (x:=u) (y:=v) (by simpa using hu) (by simpa using hv) fun h1 a1 a2 a3 a4 a5 a6 hk=>⟨_,rfl,?_⟩
  refine wpAny_letOwnedTupleGo_zip (s:={ s with heap:=h1 }) a1 fun h2 b1 sb=>?_
  have zl:z<s.heap.objs.size:=Heap.lt_size t.zip;have nz:s.heap.objs.size≠z:=Nat.ne_of_gt zl;have kp:∀ c o,c∉[z,TI,TO,i1,i2]→s.heap.get? c=some o→h2.get? c=some o:=fun c o hc e=>by
   simp only [List.mem_cons,List.not_mem_nil,or_false,not_or] at hc
   exact (sb.2 c hc.1).trans (hk c o hc.1 hc.2.2.1 hc.2.2.2.1 hc.2.2.2.2 e)
  have I1:Inv X pins σ H { s with heap:=h2,toks:=s.toks }:=I.turnedAll hf kp;have np:H s.heap.objs.size=none:=I.hok.fresh (Nat.le_refl _);have pr:IsPair h2 s.heap.objs.size u v:=(sb.2 _ nz).trans a5;have I2:Inv X pins σ (upd H s.heap.objs.size (.tup [x,y])) { s with heap:=h2,toks:=s.toks }:=by
   have fo:=I.fpOk (H':=H) (Nat.le_refl _) np;refine I1.track np ?_ fo.2.2.2.2.2 fo.2.1 fo.2.2.2.2.1 (pair_ok pr ru rv);exact Heap.get?_none_of_le I.sz
  refine ⟨.ref s.heap.objs.size,_,I2,rfl,⟨_,x,y,np,rfl,rfl,fun zs hz=>by rw [I.list_inj hz qa]; exact hx,fun zs hz=>by rw [I.list_inj hz qb]; exact hy⟩,?_,fun c hc=>?_⟩
  ·have up:∀ c o,c≠z→h1.get? c=some o→h2.get? c=some o:=fun c o hc e=>(sb.2 c hc).trans e
   refine ⟨t.nd,b1,up _ _ D.TIz (hk _ _ D.TIz D.TITO D.TIi1 D.TIi2 t.its),⟨u,v,up _ _ D.TOz a2⟩,a3.at fun o e=>up _ _ D.i1z e,a4.at fun o e=>up _ _ D.i2z e⟩
  ·obtain ⟨c0,c1,_⟩:=hf c hc
   have ne:c≠s.heap.objs.size:=fun q=>by
    have ob:∃ o,s.heap.get? c=some o:=by
     obtain ⟨o1,e1,_⟩:=t.one;obtain ⟨o2,e2,_⟩:=t.two
     simp only [List.mem_cons,List.not_mem_nil,or_false] at hc
     rcases hc with rfl | rfl | rfl | rfl | rfl
     ·exact ⟨_,t.zip⟩
     ·exact ⟨_,t.its⟩
     ·exact ⟨_,ho⟩
     ·exact ⟨_,e1⟩
     ·exact ⟨_,e2⟩
    obtain ⟨o,e⟩:=ob;exact absurd (Heap.lt_size e) (by rw [q]; exact Nat.lt_irrefl _)
   rw [zZ ne];exact c0
 done:=by
  intro X hP hw hK hc i pins s σ H E I hf t hg;subst hP hw hK;obtain ⟨xs,ys,qa,qb,hl⟩:=hg;obtain ⟨as,ra,pa,_⟩:=I.list qa;obtain ⟨bs,rb,pb,_⟩:=I.list qb;obtain ⟨x0,y0,ho⟩:=t.out;have D:=t.apart pa.isList pb.isList;have l1:=ra.length;have l2:=rb.length;refine wpAny_pyNext_zip_end (I.ok.hd hc) D t.zip t.its ho t.one t.two pa.isList pb.isList ?_ fun h1 hk=>⟨rfl,?_⟩
  ·rcases hl with h | h
   ·exact .inl (by simp; omega)
   ·exact .inr (by simp; omega)
  ·refine I.turnedAll (t':=s.toks) hf fun c o hc e=>?_
   simp only [List.mem_cons,List.not_mem_nil,or_false,not_or] at hc
   exact hk c o hc.1 hc.2.2.1 hc.2.2.2.1 hc.2.2.2.2 e
 self:=fun _ _ _ _ _ t h=>wpAny_pyIter_zip t.zip h
def iZip (K:Bc) (ta:TA):TI:=fun σ H R=>ta σ H fun vs H1=>∃ a b,vs=[.ref a,.ref b]∧(∃ xs,SqL K H1 a xs)∧(∃ ys,SqL K H1 b ys)∧R (Itz K a b) H1
theorem pi_zip {X:Cx} {es:List Expr} {k1:Nat} {pt p pos:Pos} {e1 e2:Expr} {ta:TA} (hg:Gl X "zip") (hm:X.mg "zip" = none) (ha:PA X [e1,e2] ta) (q1:plainE e1=true:=by rfl) (q2:plainE e2=true:=by rfl) :
  PI X (.Tuple es k1 pt) (.Call (.Name "zip" p) [e1,e2] [] pos) (iZip X.K ta):=by
 intro pins s σ H R I h;have hpl:(backTo pos (starEach [e2] X.env)).any (·.1)=false:=qy (by simp [q2]);refine Call_ (V2 I hg hm boot_zip (PyProof.Rows.callWith_type1 (thn (ha pos pins s σ H _ I h) fun us s1 ⟨vs,H1,I1,r1,q⟩=>?_) (qq q1 _ _) hpl));obtain ⟨a,b,rfl,⟨xs,qa⟩,⟨ys,qb⟩,q⟩:=q;obtain ⟨u,v,rfl,ra,rb⟩:=vals2 r1
 cases ra
 cases rb
 obtain ⟨as,_,pa,_⟩:=I1.list qa;obtain ⟨bs,_,pb,_⟩:=I1.list qb;refine call_zip_2 pa.isList pb.isList fun h2 z1 z2 z3 z4 z5 z6 kp=>?_
 refine wpAny_pyIter_zip z1 ?_;have I2:Inv X pins σ H1 { s1 with heap:=h2,toks:=s1.toks }:=I1.kept kp;refine ⟨_,_,_,_,H1,rfl,I2,turn_zip _ _ _ _ _ a b,⟨?_,z1,z2,⟨_,_,z3⟩,z4,z5⟩,fun c hc=>?_,q⟩
 ·simp
 ·have hc':s1.heap.objs.size≤c:=by
   simp only [List.mem_cons,List.not_mem_nil,or_false] at hc
   rcases hc with h | h | h | h | h <;> rw [h] <;> first | exact Nat.le_refl _ | exact Nat.le_add_right _ _
  exact I1.fpOk hc' (I1.hok.fresh hc')
def Ite (K:Bc) (a:Addr):It :=
 ⟨fun i H=>∃ xs x,SqL K H a xs∧xs[i]?=some x,fun i H v H'=>∃ p x,H p=none∧v=.ref p∧H'=upd H p (.tup [.int i,x])∧∀ xs,SqL K H a xs→xs[i]?=some x,fun i H=>∃ xs,SqL K H a xs∧xs.length≤i⟩
structure EnumSt (e it a:Addr) (i:Nat) (h:Heap):Prop where
 ne:e≠it
 enm:∃ old,IsEnum h e it i old
 one:h.IsListIter it a i
theorem turn_enum {P:Program} {w:World} {K:Bc} {es:List Expr} {k1:Nat} {pt:Pos} (e it a:Addr):Turn P w K (.Tuple es k1 pt) (Ite K a) [e,it] e (EnumSt e it a) where
 mem:=by simp
 obj:=fun i h t c hc=>by
  obtain ⟨old,e0⟩:=t.enm;obtain ⟨o1,e1,c1,d1⟩:=t.one
  simp only [List.mem_cons,List.not_mem_nil,or_false] at hc
  rcases hc with rfl | rfl
  ·exact ⟨_,e0,fun v q=>by cases q⟩
  ·exact ⟨_,e1,fun v q=>by rw [d1] at q; cases q⟩
 keep:=fun i h h' t k=>by
  obtain ⟨old,e0⟩:=t.enm;exact ⟨t.ne,⟨old,k e (by simp) _ e0⟩,t.one.at fun o q=>k it (by simp) o q⟩
 item:=by
  intro X hP hw hK hc i pins s σ H E I hf t hg;subst hP hw hK;obtain ⟨xs,x,qa,hx⟩:=hg;obtain ⟨as,ra,pa,_⟩:=I.list qa;obtain ⟨u,hu,ru⟩:=ra.get hx;obtain ⟨old,e0⟩:=t.enm;refine wpAny_pyNext_enum_item e0 t.one pa.isList (x:=u) (by simpa using hu) t.ne fun h1 a1 a2 a3 a4 hk=>⟨_,rfl,?_⟩
  refine wpAny_letOwnedTupleGo_enum (s:={ s with heap:=h1,toks:=s.toks+1 }) a1 fun h2 b1 sb=>?_
  have el:e<s.heap.objs.size:=Heap.lt_size e0;have il:it<s.heap.objs.size:=by obtain ⟨_,q,_⟩:=t.one; exact Heap.lt_size q
  have kp:∀ c o,c∉[e,it]→s.heap.get? c=some o→h2.get? c=some o:=fun c o hc q=>by
   simp only [List.mem_cons,List.not_mem_nil,or_false,not_or] at hc
   exact (sb.2 c hc.1).trans (hk c o hc.1 hc.2 q)
  have I1:Inv X pins σ H { s with heap:=h2,toks:=s.toks+1 }:=I.turnedAll hf kp;have np:H s.heap.objs.size=none:=I.hok.fresh (Nat.le_refl _);have pr:IsPair h2 s.heap.objs.size (.int i s.toks) u:=(sb.2 _ (Nat.ne_of_gt el)).trans a3;have I2:Inv X pins σ (upd H s.heap.objs.size (.tup [.int i,x])) { s with heap:=h2,toks:=s.toks+1 }:=by
   have fo:=I.fpOk (H':=H) (Nat.le_refl _) np;refine I1.track np ?_ fo.2.2.2.2.2 fo.2.1 fo.2.2.2.2.1 (pair_ok pr ⟨_,rfl⟩ ru);exact Heap.get?_none_of_le I.sz
  refine ⟨.ref s.heap.objs.size,_,I2,rfl,⟨_,x,np,rfl,rfl,fun zs hz=>by rw [I.list_inj hz qa]; exact hx⟩,⟨t.ne,⟨u,b1⟩,a2.at fun o q=>(sb.2 it (Ne.symm t.ne)).trans q⟩,fun c hc=>?_⟩;obtain ⟨c0,c1,_⟩:=hf c hc;have ne:c≠s.heap.objs.size:=fun q=>by
   simp only [List.mem_cons,List.not_mem_nil,or_false] at hc
   rcases hc with h | h
   ·rw [← h,q] at el
    exact Nat.lt_irrefl _ el
   ·rw [← h,q] at il
    exact Nat.lt_irrefl _ il
  rw [zZ ne];exact c0
 done:=by
  intro X hP hw hK hc i pins s σ H E I hf t hg;subst hP hw hK;obtain ⟨xs,qa,hl⟩:=hg;obtain ⟨as,ra,pa,_⟩:=I.list qa;obtain ⟨old,e0⟩:=t.enm;have l1:=ra.length;refine wpAny_pyNext_enum_end (I.ok.hd hc) e0 t.one pa.isList (by simp; omega) fun h1 hk=>⟨rfl,?_⟩
  refine I.turnedAll (t':=s.toks) hf fun c o hc q=>?_
  simp only [List.mem_cons,List.not_mem_nil,or_false,not_or] at hc
  exact hk c o hc.2 q
 self:=fun A i s Q E t h=>by
  obtain ⟨old,e0⟩:=t.enm;exact wpAny_pyIter_enum e0 h
def iEnum (K:Bc) (ta:TA):TI:=fun σ H R=>ta σ H fun vs H1=>∃ a,vs=[.ref a]∧(∃ xs,SqL K H1 a xs)∧R (Ite K a) H1
theorem pi_enum {X:Cx} {es:List Expr} {k1:Nat} {pt p pos:Pos} {e1:Expr} {ta:TA} (hg:Gl X "enumerate") (hm:X.mg "enumerate" = none) (ha:PA X [e1] ta) (q1:plainE e1=true:=by rfl) :
  PI X (.Tuple es k1 pt) (.Call (.Name "enumerate" p) [e1] [] pos) (iEnum X.K ta):=by
 intro pins s σ H R I h;refine Call_ (V2 I hg hm boot_enumerate (PyProof.Rows.callWith_type1 (thn (ha pos pins s σ H _ I h) fun us s1 ⟨vs,H1,I1,r1,q⟩=>?_) (qq q1 _ _) rfl));obtain ⟨a,rfl,⟨xs,qa⟩,q⟩:=q;obtain ⟨u,rfl,ra⟩:=vals1 r1
 cases ra
 obtain ⟨as,_,pa,_⟩:=I1.list qa;refine call_enumerate_list pa.isList fun h2 z1 z2 z3 kp=>?_
 refine wpAny_pyIter_enum z1 ?_;have I2:Inv X pins σ H1 { s1 with heap:=h2,toks:=s1.toks }:=I1.kept kp;refine ⟨_,_,_,_,H1,rfl,I2,turn_enum _ _ a,⟨Nat.succ_ne_self _,⟨_,z1⟩,z2⟩,fun c hc=>?_,q⟩;have hc':s1.heap.objs.size≤c:=by
  simp only [List.mem_cons,List.not_mem_nil,or_false] at hc
  rcases hc with h | h <;> rw [h] <;> first | exact Nat.le_refl _ | exact Nat.le_add_right _ _
 exact I1.fpOk hc' (I1.hok.fresh hc')
end L2
namespace L2
open PySem PySem.Spec PyProof.Rows BP
inductive DEq (K:Bc) (H:Hp):Nat→V→V→Prop where
 | flat {n:Nat} {x:V} (h:flatV x=true):DEq K H n x x
 | same {n:Nat} (a:Addr):DEq K H n (.ref a) (.ref a)
 | tup {n:Nat} {a b:Addr} {xs ys:List V} (ha:SqT K H a xs) (hb:SqT K H b ys) (hl:xs.length=ys.length) (h:∀ (j:Nat) (x y:V),xs[j]?=some x→ys[j]?=some y→DEq K H n x y):DEq K H (n+1) (.ref a) (.ref b)
 | lst {n:Nat} {a b:Addr} {xs ys:List V} (ha:SqL K H a xs) (hb:SqL K H b ys) (hl:xs.length=ys.length) (h:∀ (j:Nat) (x y:V),xs[j]?=some x→ys[j]?=some y→DEq K H n x y):DEq K H (n+1) (.ref a) (.ref b)
theorem eqV_self {x:V} (h:flatV x=true):eqV x x=true:=by
 cases x <;> first | rfl | (unfold eqV; simp; done) | (exact absurd (show false=true from h) Bool.false_ne_true)
theorem VV (n:Nat):(List.range n).all (fun _=>true)=true:=List.all_eq_true.mpr fun _ _=>rfl
section
variable {X:Cx} {pins:List (Addr×Obj)} {σ:St} {H:Hp} {s:Shared}
theorem DEq.at (I:Inv X pins σ H s) {n:Nat} {x y:V} (d:DEq X.K H n x y):∀ (A:Around) (u v:Value),RelV x u→RelV y v→A.units+n<cLine→SeqAt.EqAt A s u v true:=by
 induction d with
 | flat h =>
  intro A u v rx ry _;have q:=eqAt_V (A:=A) (s:=s) rx ry h h;rw [eqV_self h] at q;exact q
 | same a =>
  intro A u v rx ry _
  cases rx
  cases ry
  exact SeqAt.EqAt.same _
 | @tup n a b xs ys ha hb hl h ih =>
  intro A u v rx ry hu
  cases rx
  cases ry
  by_cases hab:a=b
  ·subst hab
   exact SeqAt.EqAt.same _
  ·obtain ⟨its,r1,p1,_⟩:=I.tuple ha
   obtain ⟨its2,r2,p2,_⟩:=I.tuple hb;have h1:=r1.length;have h2:=r2.length;have q:=SeqAt.RcAt.tuples (A:=A) (e:=fun _=>true) p1 p2 (by omega) fun j g1 g2=>by
    obtain ⟨x,e1,q1⟩:=v9 r1 j (by simpa using g1);obtain ⟨y,e2,q2⟩:=v9 r2 j (by simpa using g2);exact ih j x y e1 e2 A.in1 _ _ (by simpa using q1) (by simpa using q2) (by show A.units+1+n<cLine; omega)
   have e:((List.range (min its.toArray.size its2.toArray.size)).all (fun _=>true)&&its.toArray.size==its2.toArray.size)=true:=by
    rw [VV,List.size_toArray,List.size_toArray,← h1,← h2,hl]
    simp
   rw [e] at q;exact SeqAt.EqAt.of_refs hab q
 | @lst n a b xs ys ha hb hl h ih =>
  intro A u v rx ry hu
  cases rx
  cases ry
  by_cases hab:a=b
  ·subst hab
   exact SeqAt.EqAt.same _
  ·obtain ⟨its,r1,p1,_⟩:=I.list ha
   obtain ⟨its2,r2,p2,_⟩:=I.list hb;have h1:=r1.length;have h2:=r2.length;have q:=SeqAt.RcAt.lists (A:=A) (e:=fun _=>true) p1.isList p2.isList (by simp only [List.size_toArray]; omega) (by omega) fun j g1 g2=>by
    obtain ⟨x,e1,q1⟩:=v9 r1 j (by simpa using g1);obtain ⟨y,e2,q2⟩:=v9 r2 j (by simpa using g2);exact ih j x y e1 e2 A.in1 _ _ (by simpa using q1) (by simpa using q2) (by show A.units+1+n<cLine; omega)
   rw [VV] at q;exact SeqAt.EqAt.of_refs hab q
def Alike (K:Bc) (H:Hp) (xs ys:List V):Prop:=xs.length=ys.length∧∀ (j:Nat) (x y:V),xs[j]?=some x→ys[j]?=some y→DEq K H 20 x y
def rEqD (K:Bc) (b:Bool):R2:=fun x y H Q=>∃ p r xs ys,x=.ref p∧y=.ref r∧((SqL K H p xs∧SqL K H r ys)∨(SqT K H p xs∧SqT K H r ys))∧Alike K H xs ys∧Q (.bl b) H
theorem op_eqD (hu:X.A.units+64<cLine):OpR X (compareOp .Eq) (rEqD X.K true):=by
 intro pins s σ H x y v u Q I rx ry h;obtain ⟨p,r,xs,ys,rfl,rfl,hq,⟨hl,al⟩,q⟩:=h
 cases rx
 cases ry
 rcases hq with ⟨ha,hb⟩ | ⟨ha,hb⟩
 ·obtain ⟨its,r1,p1,_⟩:=I.list ha
  obtain ⟨its2,r2,p2,_⟩:=I.list hb;have h1:=r1.length;have h2:=r2.length;refine SeqAt.eq_listAt (e:=fun _=>true) p1.isList p2.isList (by simp only [List.size_toArray]; omega) (by omega) (fun j g1 g2=>?_) ⟨.bl true,H,I,by rw [VV]; rfl,q⟩;obtain ⟨x,e1,q1⟩:=v9 r1 j (by simpa using g1);obtain ⟨y,e2,q2⟩:=v9 r2 j (by simpa using g2);exact (al j x y e1 e2).at I X.A.in1 _ _ (by simpa using q1) (by simpa using q2) (by show X.A.units+1+20<cLine; omega)
 ·obtain ⟨its,r1,p1,_⟩:=I.tuple ha
  obtain ⟨its2,r2,p2,_⟩:=I.tuple hb;have h1:=r1.length;have h2:=r2.length;refine SeqAt.eq_tupleAt (e:=fun _=>true) p1 p2 (by omega) (fun j g1 g2=>?_) ⟨.bl true,H,I,?_,q⟩
  ·obtain ⟨x,e1,q1⟩:=v9 r1 j (by simpa using g1)
   obtain ⟨y,e2,q2⟩:=v9 r2 j (by simpa using g2);exact (al j x y e1 e2).at I X.A.in1 _ _ (by simpa using q1) (by simpa using q2) (by show X.A.units+1+20<cLine; omega)
  ·rw [VV,List.size_toArray,List.size_toArray,← h1,← h2,hl]
   simp [RelV]
theorem op_neD (hu:X.A.units+64<cLine):OpR X (compareOp .NotEq) (rEqD X.K false):=by
 intro pins s σ H x y v u Q I rx ry h;obtain ⟨p,r,xs,ys,rfl,rfl,hq,⟨hl,al⟩,q⟩:=h
 cases rx
 cases ry
 rcases hq with ⟨ha,hb⟩ | ⟨ha,hb⟩
 ·obtain ⟨its,r1,p1,_⟩:=I.list ha
  obtain ⟨its2,r2,p2,_⟩:=I.list hb;have h1:=r1.length;have h2:=r2.length;refine SeqAt.RcNeAt.lists (e:=fun _=>true) p1.isList p2.isList (by simp only [List.size_toArray]; omega) (by omega) (fun j g1 g2=>?_) _ _ _ _ ⟨.bl false,H,I,by rw [VV]; rfl,q⟩;obtain ⟨x,e1,q1⟩:=v9 r1 j (by simpa using g1);obtain ⟨y,e2,q2⟩:=v9 r2 j (by simpa using g2);exact (al j x y e1 e2).at I X.A.in1 _ _ (by simpa using q1) (by simpa using q2) (by show X.A.units+1+20<cLine; omega)
 ·obtain ⟨its,r1,p1,_⟩:=I.tuple ha
  obtain ⟨its2,r2,p2,_⟩:=I.tuple hb;have h1:=r1.length;have h2:=r2.length;refine SeqAt.RcNeAt.tuples (e:=fun _=>true) p1 p2 (by omega) (fun j g1 g2=>?_) _ _ _ _ ⟨.bl false,H,I,?_,q⟩
  ·obtain ⟨x,e1,q1⟩:=v9 r1 j (by simpa using g1)
   obtain ⟨y,e2,q2⟩:=v9 r2 j (by simpa using g2);exact (al j x y e1 e2).at I X.A.in1 _ _ (by simpa using q1) (by simpa using q2) (by show X.A.units+1+20<cLine; omega)
  ·rw [VV,List.size_toArray,List.size_toArray,← h1,← h2,hl]
   simp [RelV]
end
end L2
namespace L2
open PySem PySem.Spec PyProof.Rows BP
theorem vals_int:∀ {ns:List Int} {us:List Value} {i:Nat} {v:Value},Vals (ns.map V.int) us→us[i]?=some v→∃ t,v=.int (ns.getD i 0) t
 | [],_,_,_,.nil,e=>by simp at e
 | n::ns,u::us,0,v,.cons r _,e=>by
  obtain ⟨t,h⟩:=r;have e':u=v:=by simpa using e
  exact ⟨t,by rw [← e',h]; rfl⟩
 | n::ns,u::us,i+1,v,.cons _ t,e=>by
  have q:=vals_int (i:=i) (v:=v) t (by simpa using e)
  simpa using q
section
variable {X:Cx}
end
end L2
namespace L2
open PySem PySem.Spec PyProof.Rows BP
section
variable {X:Cx}
end
end L2
namespace L2
open PySem PySem.Spec PyProof.Rows BP
section
variable {X:Cx} {pins:List (Addr×Obj)} {σ:St} {H:Hp} {s:Shared}
end
end L2
namespace BP
end BP
namespace L2
open PySem PySem.Spec PyProof.Rows BP
def RngAt (p:Addr) (n:Nat) (h:Heap):Prop:=∃ t u v,IsRange h p 0 n 1 t u v
theorem boot_range:bootBuiltins "range" = some (.type "range"):=PyProof.Rows.boot_range
theorem boot_divmod:bootBuiltins "divmod" = some (.builtin "divmod"):=PyProof.Rows.boot_divmod
theorem boot_max:bootBuiltins "max" = some (.builtin "max"):=PyProof.Rows.boot_max
section
variable {X:Cx}
theorem call_range1:CallR X (.type "range") (fun xs H Q=>∃ n:Nat,xs=[.int n]∧∀ p,H p=none→Q (.ref p) (upd H p (.ext (RngAt p n)))):=by
 intro pins s σ H xs us Q I r h;obtain ⟨n,rfl,q⟩:=h;obtain ⟨u,rfl,t,rfl⟩:=vals1 r;refine call_range_1 ⟨.ref s.heap.objs.size,_,I.laid (a:=s.heap.objs.size) (o:=.ext (RngAt s.heap.objs.size n)) (t':=s.toks+1+1) (fun b o e=>Heap.get?_push_of_some _ e) (Nat.le_refl _) ?_,rfl,q _ (I.hok.fresh (Nat.le_refl _))⟩;exact ⟨⟨_,_,_,IsRange.new _ _ _ _ _ _ _⟩,⟨_,Heap.get?_push_size _ rfl⟩,fun h1 h2 ⟨t,u,v,e⟩ k=>⟨t,u,v,k _ e⟩⟩
theorem vals_of_get:∀ {xs:List V} {us:List Value},xs.length=us.length→(∀ (j:Nat) (x:V) (u:Value),xs[j]?=some x→us[j]?=some u→RelV x u)→Vals xs us
 | [],[],_,_=>.nil
 | x::xs,u::us,hl,h=>.cons (h 0 x u rfl rfl) (vals_of_get (by simpa using hl) fun j y v e1 e2=>h (j+1) y v (by simpa using e1) (by simpa using e2))
 | [],_::_,hl,_=>by simp at hl
 | _::_,[],hl,_=>by simp at hl
theorem call_list_rng (hc:X.calm=true):CallR X (.type "list") (fun xs H Q=>∃ (p:Addr) (n:Nat),xs=[.ref p]∧H p=some (.ext (RngAt p n))∧n≤1000∧∀ l,H l=none→Q (.ref l) (upd H l (.lst ((List.range n).map fun k:Nat=>V.int (k:Int))))):=by
 intro pins s σ H xs us Q I r h;obtain ⟨p,n,rfl,hp,small,q⟩:=h;obtain ⟨u,rfl,rx⟩:=vals1 r
 cases rx
 obtain ⟨⟨t,u,v,e⟩,_,_⟩:=(show ObjOk X.prog X.w H s.heap p (.ext (RngAt p n)) from I.hok p _ hp);refine call_list_range (n:=n) (I.ok.hd hc) e (small_one (by omega) (by omega) (by omega) (by omega)) (by rw [rangeSize_one]; split <;> omega) (by omega) fun h' tk acc' c' kp e' its=>?_
 obtain ⟨i1,i2⟩:=its;have rv:Vals ((List.range n).map fun k:Nat=>V.int (k:Int)) acc'.toList:=by
  refine vals_of_get (by simp [i1]) fun j x u e1 e2=>?_
  obtain ⟨t,rfl⟩:=i2 j u (by simpa using e2);have hj:j<n:=by
   have:=(A3.mp e1).1
   simpa using this
  have ex:V.int (j:Int)=x:=by simpa [hj] using e1
  subst ex;exact ⟨t,by simp⟩
 refine ⟨.ref s.heap.objs.size,_,I.laid (t':=tk) kp (Nat.le_refl _) (show ObjOk X.prog X.w _ h' _ (.lst _) from ⟨?_,acc'.toList,c',rv,by simpa using e'⟩),rfl,q _ (I.hok.fresh (Nat.le_refl _))⟩;have hs:sizeLine=16777216:=sizeLine_eq
 simp; omega
end
end L2
namespace BP
def D0:Nat:=84000000000
def Bq (d b:Nat) (q:Rat):Prop:=q.den∣D0^d∧q.num.natAbs≤2^b*q.den
theorem Bq.mono {d b d' b':Nat} {q:Rat} (h:Bq d b q) (hd:d≤d') (hb:b≤b'):Bq d' b' q :=
 ⟨Nat.dvd_trans h.1 (Nat.pow_dvd_pow _ hd),Ba h.2 (Nat.mul_le_mul_right _ (Ai (by decide) hb))⟩
theorem Bq.of {d b:Nat} {t:Int} {m:Nat} (hm:0<m) (h1:m∣D0^d) (h2:t.natAbs≤2^b*m):Bq d b (Rat.divInt t m):=by
 have hne:(m:Int)≠0:=by omega
 have e:=n_rat (t:=t) (b:=(m:Int)) hne;have s1:=sg_nt t (m:Int);have s2:=sg_nb t (m:Int);rw [e.1] at s1;rw [e.2] at s2;have a1:=congrArg Int.natAbs s1;have a2:=congrArg Int.natAbs s2;rw [B4,sg_abs] at a1 a2;have g:=W9 (t:=t) hne;rw [Ap,Ap] at a2;refine ⟨Nat.dvd_trans ⟨Int.gcd t m,by rw [Nat.mul_comm]; exact a2.symm⟩ h1,?_⟩;have h2:Int.gcd t m*(Rat.divInt t m).num.natAbs≤2^b*(Int.gcd t m*(Rat.divInt t m).den):=by rw [a1,a2]; exact h2
 refine Nat.le_of_mul_le_mul_left (c:=Int.gcd t m) ?_ g
 calc Int.gcd t m*(Rat.divInt t m).num.natAbs≤2^b*(Int.gcd t m*(Rat.divInt t m).den):=h2
  _=Int.gcd t m*(2^b*(Rat.divInt t m).den):=by rw [← Nat.mul_assoc,← Nat.mul_assoc,Nat.mul_comm (2^b)]
theorem Bq.zero (d b:Nat):Bq d b 0:=⟨Nat.one_dvd _,Nat.zero_le _⟩
theorem Bq.neg {d b:Nat} {q:Rat} (h:Bq d b q):Bq d b (-q):=⟨h.1,by show (-q.num).natAbs≤_; rw [Int.natAbs_neg]; exact h.2⟩
def Shr (q:Rat):Prop:=Bq 1 63 q
theorem shr_part {t:Int} {m:Nat} (h:m=1∨m=2∨m=3∨m=4∨m=7∨m=1000000000) (ht:t.natAbs≤2^63):Shr (Rat.divInt t m):=by
 refine Bq.of (by omega) ?_ (Ba ht (Nat.le_mul_of_pos_right _ (by omega)))
 rcases h with h | h | h | h | h | h <;> subst h <;> decide
end BP
namespace BP
def Bd (D b:Nat) (q:Rat):Prop:=q.den∣D∧q.num.natAbs≤2^b*q.den
theorem Bd.mono {D b D' b':Nat} {q:Rat} (h:Bd D b q) (hd:D∣D') (hb:b≤b'):Bd D' b' q :=
 ⟨Nat.dvd_trans h.1 hd,Ba h.2 (Nat.mul_le_mul_right _ (Ai (by decide) hb))⟩
theorem Bd.sm {D b n:Nat} {q:Rat} (h:Bd D b q) (h0:0<D) (hD:D<2^n):SmQ (b+n) q:=by
 have k:q.den<2^n:=Ao (Nat.le_of_dvd h0 h.1) hD
 constructor
 ·show q.num.natAbs<2^(b+n)
  rw [Nat.pow_add];exact Ao h.2 (Nat.mul_lt_mul_of_pos_left k (Nat.pow_pos (by decide)))
 ·show (q.den:Int).natAbs<2^(b+n)
  rw [Ap];exact An k (Ai (by decide) (by omega))
theorem Bd.of {D b:Nat} {t:Int} {m:Nat} (hm:0<m) (h1:m∣D) (h2:t.natAbs≤2^b*m):Bd D b (Rat.divInt t m):=by
 have hne:(m:Int)≠0:=by omega
 have e:=n_rat (t:=t) (b:=(m:Int)) hne;have s1:=sg_nt t (m:Int);have s2:=sg_nb t (m:Int);rw [e.1] at s1;rw [e.2] at s2;have a1:=congrArg Int.natAbs s1;have a2:=congrArg Int.natAbs s2;rw [B4,sg_abs] at a1 a2;have g:=W9 (t:=t) hne;rw [Ap,Ap] at a2;refine ⟨Nat.dvd_trans ⟨Int.gcd t m,by rw [Nat.mul_comm]; exact a2.symm⟩ h1,?_⟩;have h2:Int.gcd t m*(Rat.divInt t m).num.natAbs≤2^b*(Int.gcd t m*(Rat.divInt t m).den):=by rw [a1,a2]; exact h2
 refine Nat.le_of_mul_le_mul_left (c:=Int.gcd t m) ?_ g
 calc Int.gcd t m*(Rat.divInt t m).num.natAbs≤2^b*(Int.gcd t m*(Rat.divInt t m).den):=h2
  _=Int.gcd t m*(2^b*(Rat.divInt t m).den):=by rw [← Nat.mul_assoc,← Nat.mul_assoc,Nat.mul_comm (2^b)]
theorem Bd.mul {D b E c:Nat} {x y:Rat} (h:Bd D b x) (k:Bd E c y):Bd (D*E) (b+c) (x*y):=by
 have r:x*y=Rat.divInt (x.num*y.num) ((x.den*y.den:Nat):Int):=by
  rw [Int.natCast_mul,← Rat.divInt_mul_divInt,Aq,Aq]
 rw [r];refine Bd.of (Nat.mul_pos x.den_pos y.den_pos) (Nat.mul_dvd_mul h.1 k.1) ?_;rw [B4,Nat.pow_add]
 calc x.num.natAbs*y.num.natAbs≤(2^b*x.den)*(2^c*y.den):=Nat.mul_le_mul h.2 k.2
  _=2^b*2^c*(x.den*y.den):=by ac_rfl
theorem Bd.add {D b:Nat} {x y:Rat} (D0:0<D) (h:Bd D b x) (k:Bd D b y):Bd D (b+1) (x+y):=by
 obtain ⟨p,hp⟩:=h.1;obtain ⟨q,hq⟩:=k.1;have ne:((D:Nat):Int)≠0:=by omega
 have pp:p≠0:=fun z=>by rw [z,Nat.mul_zero] at hp; omega
 have qp:q≠0:=fun z=>by rw [z,Nat.mul_zero] at hq; omega
 have ex:x=Rat.divInt (x.num*(p:Int)) ((D:Nat):Int):=by
  have e:((D:Nat):Int)=(x.den:Int)*(p:Int):=by rw [← Int.natCast_mul,← hp]
  rw [e,Rat.divInt_mul_right (by omega),Aq]
 have ey:y=Rat.divInt (y.num*(q:Int)) ((D:Nat):Int):=by
  have e:((D:Nat):Int)=(y.den:Int)*(q:Int):=by rw [← Int.natCast_mul,← hq]
  rw [e,Rat.divInt_mul_right (by omega),Aq]
 have s:x+y=Rat.divInt (x.num*(p:Int)+y.num*(q:Int)) ((D:Nat):Int):=by
  have z:=Rat.divInt_add_divInt (x.num*(p:Int)) (y.num*(q:Int)) ne ne;rw [← ex,← ey] at z;rw [z];have e:x.num*(p:Int)*((D:Nat):Int)+y.num*(q:Int)*((D:Nat):Int)=(x.num*(p:Int)+y.num*(q:Int))*((D:Nat):Int):=by rw [Int.add_mul]
  rw [e,Rat.divInt_mul_right ne]
 rw [s];refine Bd.of D0 (Nat.dvd_refl _) ?_;have a1:(x.num*(p:Int)).natAbs≤2^b*D:=by
  rw [B4,Ap,hp]
  calc x.num.natAbs*p≤2^b*x.den*p:=Nat.mul_le_mul_right _ h.2
   _=2^b*(x.den*p):=Nat.mul_assoc _ _ _
 have a2:(y.num*(q:Int)).natAbs≤2^b*D:=by
  rw [B4,Ap,hq]
  calc y.num.natAbs*q≤2^b*y.den*q:=Nat.mul_le_mul_right _ k.2
   _=2^b*(y.den*q):=Nat.mul_assoc _ _ _
 have a3:=Int.natAbs_add_le (x.num*(p:Int)) (y.num*(q:Int));have e:2^(b+1)*D=2^b*D+2^b*D:=by rw [Nat.pow_succ,Nat.mul_comm (2^b) 2,Nat.mul_assoc,Nat.two_mul]
 omega
theorem Bd.zero (D b:Nat):Bd D b 0:=⟨Nat.one_dvd _,Nat.zero_le _⟩
end BP
namespace L2
open PySem PySem.Spec PyProof.Rows BP
def CDmB (j:Int):Prop:=0<j∧j.natAbs.log2<9000
theorem call_divmodB {X:Cx}:CallR X (.builtin "divmod") (fun xs H Q=>∃ i j,xs=[.int i,.int j]∧CDmB j∧∀ p,H p=none→Q (.ref p) (upd H p (.tup [.int (i/j),.int (i%j)]))):=by
 intro pins s σ H xs us Q I r h;obtain ⟨i,j,rfl,⟨pos,few⟩,q⟩:=h;obtain ⟨_,_,rfl,⟨_,rfl⟩,⟨_,rfl⟩⟩:=vals2 r;refine divmod_int (by omega) ?_ (.inl (PyProof.noPylong_of_log2 few));rw [Int.fdiv_eq_ediv_of_nonneg i (by omega),Int.fmod_eq_emod_of_nonneg i (by omega)];have two:[V.int (i/j),V.int (i%j)].length≤sizeLine:=jZ;refine ⟨.ref s.heap.objs.size,_,?_,rfl,q _ (I.hok.fresh (Nat.le_refl _))⟩;refine I.laid (fun b o e=>Heap.get?_push_of_some _ e) (Nat.le_refl _) ⟨two,[.int (i/j) s.toks,.int (i%j) (s.toks+1)],.cons ⟨_,rfl⟩ (.cons ⟨_,rfl⟩ .nil),?_⟩;exact ⟨_,Heap.get?_push_size s.heap rfl,rfl,0,rfl⟩
end L2
namespace L2
open PySem PySem.Spec PyProof.Rows
section
variable {X:Cx}
end
end L2
namespace L2
open PySem PySem.Spec PyProof.Rows
section
variable {X:Cx}
end
end L2
namespace L2
open PySem PySem.Spec PyProof.Rows
section
variable {X:Cx}
inductive IsL (K:Bc) (H:Hp):V→String→Bool→Prop where
 | old {v:V} {s:String} {b:Bool} (h:IsI K H v s b):IsL K H v s b
 | lstTup {a:Addr} {xs:List V} (h:SqL K H a xs):IsL K H (.ref a) "tuple" false
 | tupList {a:Addr} {xs:List V} (h:SqT K H a xs):IsL K H (.ref a) "list" false
 | intList (i:Int):IsL K H (.int i) "list" false
 | intTup (i:Int):IsL K H (.int i) "tuple" false
end
end L2
namespace L2
open PySem PySem.Spec PyProof.Rows
section
variable {prog:Program} {w:World} {A:Around} {E:Value→Shared→Prop} {h:Heap} {gs:Array GenState} {dr:Drawn} {tk:Nat} {os:OsState}
abbrev zobj (I O:Addr) (f0:Value):Obj:={ cls:=.type "zip",dict:=none,data:=.fields #[f0,.bool false,.bool false,.ref I,.ref O],slots:=#[] }
abbrev pobj (x y:Value):Obj:={ cls:=.type "tuple",data:=.seq #[x,y] }
abbrev tobj (b:Addr) (n:Nat):Obj:={ cls:=.type "tuple_iterator",data:=.fields #[.ref b,.int n 0] }
end
structure ZipStT (z I O i j a b:Addr) (n:Nat) (h:Heap):Prop where
 nd:[z,I,O,i,j].Nodup
 zip:h.get? z=some (zobj I O .none)
 its:h.get? I=some (pobj (.ref i) (.ref j))
 out:∃ x y,h.get? O=some (pobj x y)
 one:h.get? i=some (tobj a n)
 two:h.get? j=some (tobj b n)
 far:a≠O∧b≠O
end L2
namespace L2
open PySem PySem.Spec PyProof.Rows
section
variable {prog:Program} {w:World} {A:Around} {E:Value→Shared→Prop} {h:Heap} {gs:Array GenState} {dr:Drawn} {tk:Nat} {os:OsState}
abbrev tri (x y v:Value):Obj:={ cls:=.type "tuple",data:=.seq #[x,y,v] }
abbrev lobj (b:Addr) (n:Nat):Obj:={ cls:=.type "list_iterator",data:=.fields #[.ref b,.int n 0] }
end
structure ZipSt3 (z I O i j l a b c:Addr) (n:Nat) (h:Heap):Prop where
 nd:[z,I,O,i,j,l].Nodup
 zip:h.get? z=some (zobj I O .none)
 its:h.get? I=some (tri (.ref i) (.ref j) (.ref l))
 out:∃ x y v,h.get? O=some (tri x y v)
 one:h.get? i=some (lobj a n)
 two:h.get? j=some (lobj b n)
 thr:h.get? l=some (lobj c n)
end L2
namespace L2
open PySem PySem.Spec PyProof.Rows
section
variable {X:Cx}
theorem noPylong_left {x y:Int} (h:x.natAbs.log2<13500):Builtin.divisionGoesByPylong x y=false:=by
 have a:(if x==0 then 0 else x.natAbs.log2/30+1)≤450:=by
  split
  ·exact Nat.zero_le _
  ·omega
 show (decide ((if y==0 then 0 else y.natAbs.log2/30+1)>300)&&decide ((if x==0 then 0 else x.natAbs.log2/30+1)>(if y==0 then 0 else y.natAbs.log2/30+1)+150))=false;generalize (if y==0 then 0 else y.natAbs.log2/30+1)=dy at *;generalize (if x==0 then 0 else x.natAbs.log2/30+1)=dx at *
 by_cases c:dy>300
 ·rw [decide_eq_false (show ¬ dx>dy+150 by omega),Bool.and_false]
 ·rw [decide_eq_false c,Bool.false_and]
def CDivL (i j:Int):Prop:=j≠0∧i.natAbs.log2<13500
theorem op_fdivL:OpR X (binaryOp .FloorDiv) (rI CDivL fun i j=>.int (i.fdiv j)):=opI fun _ _ _ _ _ _ _ hc q=>floordiv_int hc.1 q (.inl (noPylong_left hc.2))
end
end L2
namespace L2
open PySem PySem.Spec PyProof.Rows BP
section
variable {P:Program} {w:World} {H:Hp} {h:Heap} {a:Addr} {o:HO}
end
section
variable {X:Cx} {pins:List (Addr×Obj)} {σ:St} {H H':Hp} {s s':Shared} {h' B:Heap}
end
abbrev veB:List Value:=[.type "ValueError",.type "Exception",.type "BaseException",.type "object"]
section
variable {X:Cx}
end
end L2
namespace L2
open PySem PySem.Spec PyProof.Rows BP
section
variable {X:Cx} {pins:List (Addr×Obj)} {σ:St} {H H1 H':Hp} {s s1 s':Shared} {h' B:Heap}
end
structure Under (K:Bc) (C CB:Addr):Prop where
 up:PySem.W.excIn K CB veB "ValueError.__new__" = true
 mro:PySem.W.mroIn K C (.ref CB)=some true
section
variable {X:Cx}
end
end L2
namespace L2
open PySem PySem.Spec PyProof.Rows BP
open PySem.Calls PySem.Builtin PySem.Builtin.ObjectAttr PySem.Builtin.Getset_descriptor
structure ExcCls (K:Bc) (C:Addr):Prop where
 cls:(PySem.W.clsIn K C).isSome=true
 ga:PySem.W.findIn K (.ref C) "__getattribute__" = some (some (.builtin "BaseException.__getattribute__"))
 hook:PySem.W.findIn K (.ref C) "__getattr__" = some none
 own:PySem.W.findIn K (.ref C) "__class__" = some (some (.builtin "object.__class__"))
 get:PySem.W.specialIn K (.builtin "object.__class__") "__get__" = some (some (.builtin "getset_descriptor.__get__"))
 takes:PySem.W.takesIn K (.builtin "object.__class__")=some true
 obj:PySem.W.mroIn K C (.type "object")=some true
 exc:PySem.W.mroIn K C (.type "BaseException")=some true
section
variable {K:Bc} {C ea:Addr} {prog:Program} {w:World} {A:Around} {E:Value→Shared→Prop} {s:Shared}
end
end L2
namespace L2
open PySem PySem.Spec PyProof.Rows BP
section
variable {X:Cx} {e stp:Expr} {te:TE} {lo hi:Option Expr} {tl th ts:TO} {pos p2:Pos}
end
end L2
namespace L2
open PySem PySem.Spec PyProof.Rows BP
section
variable {X:Cx} {tg:Expr}
end
section
variable {prog:Program} {w:World} {A:Around} {E:Value→Shared→Prop} {s:Shared} {I l:Addr}
theorem rev_nolen:typeLookup (.type "list_reverseiterator") "__len__" = pure none:=by rw [typeLookup_type,builtinLookup_eq_fast]; kernel_rfl
theorem rev_hint:typeLookup (.type "list_reverseiterator") "__length_hint__" = pure (some (.builtin "list_reverseiterator.__length_hint__")):=by rw [typeLookup_type,builtinLookup_eq_fast]; kernel_rfl
end
section
variable {X:Cx}
end
end L2
namespace BP
open PySem PySem.NumText
end BP
namespace L2
open PySem PySem.Spec PyProof.Rows BP
section
variable {X:Cx}
inductive IsS (K:Bc) (H:Hp):V→Prop where
 | int (i:Int):IsS K H (.int i)
 | bl (b:Bool):IsS K H (.bl b)
 | non:IsS K H .non
 | tup {a:Addr} {xs:List V} (h:SqT K H a xs):IsS K H (.ref a)
 | lst {a:Addr} {xs:List V} (h:SqL K H a xs):IsS K H (.ref a)
 | dict {a:Addr} {kvs:List (Key×V)} (h:H a=some (.dK kvs)):IsS K H (.ref a)
end
end L2
namespace BP
open PySem PySem.NumText L2
def valS (a:Str):Nat:=digitsVal a.cps.toList
def sgnS (s:Bool):Str:=if s then Str.ofString "-" else Str.empty
structure Pts (x:Str) (s:Bool) (ps:List Str):Prop where
 sg:s=decide (x.cps.toList[0]?=some 45)
 eq:x=sgnS s++Str.join ⟨#[47]⟩ ps
 ne:ps≠[]
 free:∀ p∈ps,47∉p.cps.toList
def tv (s:Bool) (a:Str):Int:=if s then -(valS a:Int) else (valS a:Int)
end BP
namespace L2
open PySem PySem.Spec PyProof.Rows BP
section
variable {M:Model} {A:Around} {E:Value→Shared→Prop} {s:Shared} {B:Heap} {l:List Env} {e:Addr} {cls a0:Value}
end
section
variable {X:Cx} {pins:List (Addr×Obj)} {σ:St} {H H':Hp} {s s':Shared} {h' B:Heap}
end
section
variable {X:Cx} {scope:Scope} {cl:List (Str×Addr)} {N:List Str} {ix:List (Option Nat)} {pins py:List (Addr×Obj)} {σ σy:St} {H1 H2:Hp} {s1 s2 sx:Shared} {E:XK}
end
section
variable {A:Around} {prog:Program} {w:World} {s:Shared} {R:Result→Shared→Prop}
end
end L2
namespace L2
open PySem PySem.Spec PyProof.Rows BP
section
variable {X:Cx}
end
end L2
namespace L2
open PySem PySem.Spec PyProof.Rows BP
inductive IsA (K:Bc) (H:Hp):V→String→Bool→Prop where
 | old {v:V} {s:String} {b:Bool} (h:IsL K H v s b):IsA K H v s b
 | blTup (b:Bool):IsA K H (.bl b) "tuple" false
 | blList (b:Bool):IsA K H (.bl b) "list" false
 | nonTup:IsA K H .non "tuple" false
 | nonList:IsA K H .non "list" false
 | strTup (z:Str):IsA K H (.str z) "tuple" false
 | strList (z:Str):IsA K H (.str z) "list" false
 | dictTup {a:Addr} {kvs:List (Key×V)} (h:H a=some (.dK kvs)):IsA K H (.ref a) "tuple" false
 | dictList {a:Addr} {kvs:List (Key×V)} (h:H a=some (.dK kvs)):IsA K H (.ref a) "list" false
section
variable {X:Cx}
end
end L2
namespace L2
open PySem PySem.Spec PyProof.Rows BP
inductive IsB (K:Bc) (H:Hp):V→String→Bool→Prop where
 | a {v:V} {s:String} {b:Bool} (h:IsA K H v s b):IsB K H v s b
 | str (z:Str):IsB K H (.str z) "str" true
 | noStr {v:V} (h:IsS K H v):IsB K H v "str" false
section
variable {X:Cx}
end
end L2
namespace L2
open PySem PySem.Spec PyProof.Rows BP
section
variable {X:Cx}
end
end L2
namespace L2
open PySem PySem.Spec PyProof.Rows BP
section
variable {X:Cx} {pins:List (Addr×Obj)} {σ:St} {H:Hp} {s:Shared}
end
end L2
namespace L2
open PySem PySem.Spec PyProof.Rows BP
def noT:HO→Bool
 | .tbl _=>false
 | _=>true
def SameL (H H':Hp):Prop:=∀ b o,H b=some o→noT o=true→H' b=some o
theorem Same.toL {H H':Hp} (g:Same H H'):SameL H H':=fun b o e _=>g b o e
theorem SameL.trans {H H' H'':Hp} (a:SameL H H') (b:SameL H' H''):SameL H H'':=fun c o e n=>b c o (a c o e n) n
theorem SameL.tup {K:Bc} {H H':Hp} {a:Addr} {xs:List V} (e:SameL H H') (h:SqT K H a xs):SqT K H' a xs:=by
 rcases h with (h | ⟨o,h⟩) | h
 ·exact .inl (.inl (e _ _ h rfl))
 ·exact .inl (.inr ⟨o,e _ _ h rfl⟩)
 ·exact .inr h
theorem SameL.seq {K:Bc} {H H':Hp} {a:Addr} {xs:List V} (e:SameL H H') (h:SqL K H a xs):SqL K H' a xs:=by
 rcases h with (h | ⟨o,h⟩) | h
 ·exact .inl (.inl (e _ _ h rfl))
 ·exact .inl (.inr ⟨o,e _ _ h rfl⟩)
 ·exact .inr h
def V6 (c:Addr) (q:Str) (h:Heap):Prop:=∃ o vs t,h.get? c=some o∧o.data=.fields vs∧vs[1]?=some (.str q t)
def LamSt (P:Addr) (pos:Pos) (q:Str) (H:Hp):Prop :=
 H P=some (.tbl #[])∨∃ c,H P=some (.tbl #[rawInt pos.line,rawInt pos.col,.ref c])∧H c=some (.ext (V6 c q))
theorem LamSt.mono {P:Addr} {pos:Pos} {q:Str} {H H':Hp} (h:LamSt P pos q H) (g:Same H H'):LamSt P pos q H':=by
 rcases h with h | ⟨c,h1,h2⟩
 ·exact .inl (g _ _ h)
 ·exact .inr ⟨c,g _ _ h1,g _ _ h2⟩
def LamAt (f c:Addr) (qual:Str) (params:Arguments) (body:Expr) (scope:Scope) (cl:List (Str×Addr)) (h:Heap):Prop :=
 ∃ pm ct,h.get? f=some (PySem.W.kla_obj (Str.ofString "<lambda>") qual params body scope cl pm c ct)
structure LP where
 A:Around
 f:Addr
 c:Addr
 s:Shared
 H:Hp
abbrev lamEnv (scope:Scope) (qual:Str) (cl:List (Str×Addr)) (c:LP):Env:=PySem.W.envX qual scope c.s.heap.objs.size c.f (.ref c.c) cl
abbrev Cx.lam (X:Cx) (scope:Scope) (qual:Str) (cl:List (Str×Addr)) (N:List Str) (c:LP):Cx :=
 { prog:=X.prog,w:=X.w,K:=X.K,mg:=X.mg,base:=X.base,A:=c.A.deeper (lamEnv scope qual cl c),N:=N,s₀:=c.s,H₀:=c.H,env:=lamEnv scope qual cl c,outer:=X.stack,stack:=lamEnv scope qual cl c::X.stack,ex:=[],fn:=fun _=>false,calm:=true,pn:=[],xe:=fun _ _=>False }
structure LamOk (X:Cx) (scope:Scope) (cl:List (Str×Addr)) (x:Str) (N:List Str) (ix:List (Option Nat)):Prop where
 clos:closureFor scope X.env=pure cl:=by rfl
 kind:scope.kind=.function:=by rfl
 co:scope.isCoroutine=false:=by rfl
 gen:scope.isGenerator=false:=by rfl
 nocell:(scope.names.all fun x=>x.2 != .cell)=true:=by rfl
 sub:SubL X.env.cells cl
 has:(scope.names.all fun x=>x.2==.local||(cl.lookup x.1).isSome||!(x.2==.cell||x.2==.free))=true:=by rfl
 own:scope.names.lookup x=some .local:=by rfl
 ixs:IxOk X scope.names cl N ix
section
variable {X:Cx} {scope:Scope} {qual:Str} {cl:List (Str×Addr)} {x:Str} {N:List Str} {ix:List (Option Nat)} {pins:List (Addr×Obj)} {σ:St} {H:Hp} {s:Shared}
theorem LamOk.cells (k:LamOk X scope cl x N ix) {y:Str} (h:scope.names.lookup y=some .cell∨scope.names.lookup y=some .free):∃ c,cl.lookup y=some c:=by
 have all:=List.all_eq_true.mp k.has
 rcases h with h | h
 ·exact Option.isSome_iff_exists.mp (by simpa using all _ (Jq h))
 ·exact Option.isSome_iff_exists.mp (by simpa using all _ (Jq h))
theorem LamOk.ok (k:LamOk X scope cl x N ix) (I:Inv X pins σ H s) {A:Around} {f c:Addr} (hd:A.handled=none) (hf:A.frames=some X.stack):(X.lam scope qual cl (x::N) ⟨A,f,c,s,H⟩).Ok where
 mod:=I.ok.mod
 kind:=k.kind
 glob:=rfl
 blt:=rfl
 above:=Nat.le_refl _
 inj:=fun y z b e1 e2=>I.ok.inj y z b (k.sub.get e1) (k.sub.get e2)
 has:=fun y h=>k.cells h
 cab:=fun y b h _=>by cases h
 hd:=fun _=>hd
 frames:=Around.frames_deeper hf
 stk:=.inr ⟨rfl,rfl⟩
 exf:=fun b hb=>by cases hb
 bs:=fun b o e=>I.bs b o e
 bsz:=Ba I.ok.bsz I.sz
 noex:=fun b o e hb=>by cases hb
 exfs:=fun b hb=>by cases hb
 funs:=I.stack
 frf:=I.stkFree
theorem LamOk.enter (k:LamOk X scope cl x N ix) (I:Inv X pins σ H s) {A:Around} {f c:Addr} (hd:A.handled=none) (hf:A.frames=some X.stack) {h':Heap} {t':Nat} {v:V} {u:Value}
  (keep:∀ b o,s.heap.get? b=some o→h'.get? b=some o) (hn:h'.Ns s.heap.objs.size fun y=>List.lookup y [(x,u)]) (r:RelV v u) :
  Inv (X.lam scope qual cl (x::N) ⟨A,f,c,s,H⟩) [] (some v::compS ix σ) H { s with heap:=h',toks:=t' } where
 ok:=k.ok I hd hf
 os:=rfl
 bare:=I.bare
 base:=Un.kept keep
 loc:=⟨_,hn,fun i y v' e1 e2 e3=>by
  cases i with
  | zero =>
   have a1:x=y:=by simpa using e1
   have a2:v=v':=by simpa using e2
   subst a1 a2;exact ⟨u,r,.inl ⟨k.own,by simp [List.lookup]⟩⟩
  | succ i =>
   have a1:N[i]?=some y:=by simpa using e1
   have a2:(compS ix σ)[i]?=some (some v'):=by simpa using e2
   obtain ⟨j,h1,h2,h3,h4,h5,h6⟩:=k.ixs.get a1 a2;obtain ⟨m0,_,hl⟩:=I.loc;obtain ⟨u',r',l⟩:=hl j y v' h1 h2 h3
   rcases l with ⟨l,_⟩ | ⟨_,b,ec,z⟩
   ·exact absurd l h4
   ·obtain ⟨b',ec'⟩:=Option.isSome_iff_exists.mp h5
    have e3:=k.sub.get ec';rw [ec] at e3;have e4:b=b':=B0 e3;subst e4;obtain ⟨o,ho,hd⟩:=z;exact ⟨u',r',.inr ⟨h6,b,ec',o,keep _ _ ho,hd⟩⟩⟩
 cell:=fun y b e=>by
  obtain ⟨w',o,ho,hd⟩:=I.cell y b (k.sub.get e);exact ⟨w',o,keep _ _ ho,hd⟩
 free:=I.hok.fresh (Nat.le_refl _)
 freeC:=fun y b e=>I.freeC y b (k.sub.get e)
 pin:=fun p hp=>by cases hp
 hok:=I.hok.kept keep
 len:=by
  show (compS ix σ).length+1=N.length+1;rw [compS_len,k.ixs.len]
theorem lam_run (k:LamOk X scope cl x N ix) {params:Arguments} {body:Expr} {te:TE} {A:Around} {f c:Addr} {v:V} {u:Value} {Q:VK} {E:Value→Shared→Prop} (I:Inv X pins σ H s) (hd:A.handled=none) (hfr:A.frames=some X.stack) (hdp:A.depth<recursionLimit)
  (hbind:∀ (pm cd ct u:Value),bindArgs (PySem.W.kla_fn (Str.ofString "<lambda>") qual params body scope cl pm cd ct) ⟨[u],[]⟩=pure [(x,u)])
  (hF:H f=some (.ext (LamAt f c qual params body scope cl))) (hC:H c=some (.ext (V6 c qual))) (hb:PE (X.lam scope qual cl (x::N) ⟨A,f,c,s,H⟩) body te) (r:RelV v u) (h:te (some v::compS ix σ) H Q) :
  wpAny (model X.prog X.w) A (call (.ref f) [u]) (EP X pins σ Q) E s:=by
 obtain ⟨⟨pm,ct,ef⟩,_,_⟩:=(show ObjOk X.prog X.w H s.heap f (.ext _) from I.hok f _ hF);obtain ⟨⟨o,vs,t,e1,e2,e3⟩,_,_⟩:=(show ObjOk X.prog X.w H s.heap c (.ext _) from I.hok c _ hC);refine wpAny_call (PySem.W.kla_callFunE hdp ef rfl k.co k.gen rfl ⟨c,o,vs,t,rfl,e1,e2,e3⟩ ?_);rw [hbind];refine wpAny_pure (wpAny_newFunctionEnv (fun y hy=>by have q:=List.all_eq_true.mp k.nocell y hy; simpa using q) (fun y hy=>?_) (fun h1 hns hsb=>?_) k.kind)
 ·have e:y=(x,u):=Al.mp hy
  subst e;exact k.own
 have keep:∀ b o,s.heap.get? b=some o→h1.get? b=some o:=fun b o e=>(hsb.2 b (Nat.ne_of_lt (Heap.lt_size e))).trans (Heap.get?_push_of_some _ e)
 refine ⟨(I.nolimit).keeps keep,PySem.W.kla_codeExpr ?_⟩;have I1:=k.enter (A:=A) (f:=f) (c:=c) (t':=s.toks+1) (qual:=qual) I hd hfr keep hns r;refine wpAny_mono (hb [] _ _ H Q I1 h) (fun u' s' q=>?_) fun _ _ z=>z.elim
 obtain ⟨v',H',J,r',q'⟩:=q;exact I.after ⟨v',H',J.os,J.bare,J.base,J.hok,r',q'⟩
end
end L2
namespace L2
open PySem PySem.Spec PyProof.Rows BP
def BMain (mg:Str→Option Value) (base:Heap):Prop:=∃ bm ob,mg (Str.ofString "__builtins__")=some (.ref bm)∧bm≠builtinsNs∧base.get? bm=some ob∧ob.cls=.type "module" ∧ ob.dict=some builtinsNs∧ob.data=.plain
def tLam (P:Addr) (lpos:Pos) (qual:Str) (params:Arguments) (body:Expr) (scope:Scope) (cl:List (Str×Addr)):TE:=fun _ H Q =>
 LamSt P lpos qual H∧∀ f c H',SameL H H'→LamSt P lpos qual H'→H' c=some (.ext (V6 c qual))→H f=none→H' f=some (.ext (LamAt f c qual params body scope cl))→Q (.ref f) H'
theorem lamAt_ok {P:Program} {w:World} {H:Hp} {h:Heap} {f c:Addr} {qual:Str} {params:Arguments} {body:Expr} {scope:Scope} {cl:List (Str×Addr)} {pm ct:Value}
  (e:h.get? f=some (PySem.W.kla_obj (Str.ofString "<lambda>") qual params body scope cl pm c ct)):ObjOk P w H h f (.ext (LamAt f c qual params body scope cl)) :=
 ⟨⟨pm,ct,e⟩,⟨_,e⟩,fun _ _ ⟨pm,ct,e1⟩ k=>⟨pm,ct,k _ e1⟩⟩
theorem pe_lam {X:Cx} {params:Arguments} {body:Expr} {scope:Scope} {lpos:Pos} {c P:Addr} (hcode:X.env.code=.ref c) (C:∀ h,X.K.In h→PySem.W.CodeHd h c P) (B:BMain X.mg X.base)
  (hdef:defaultsOf params X.env=([],[]):=by rfl) (hcl:closureFor scope X.env=pure (closL scope X.env):=by rfl) :
  PE X (.Lambda params body scope lpos) (tLam P lpos (X.env.qual++Str.ofString "<lambda>") params body scope (closL scope X.env)):=by
 intro pins s σ H Q I h;obtain ⟨st,h⟩:=h;generalize closL scope X.env=cl at *;refine PySem.W.kla_eval hdef ?_;have hg:s.heap.Ns mainGlobals X.mg:=by
  obtain ⟨o,es,ep,e,r⟩:=I.mod.glob;exact ⟨o,es,ep,I.bk _ _ e,r⟩
 have bmf:∀ {ps:Array Value},s.heap.get? P=some (PySem.W.tabObj ps)→s.heap.BuiltinsAt X.mg P∧mainGlobals≠P:=fun {ps} eP=>by
  obtain ⟨bm,ob,b1,b2,b3,b4,b5,b6⟩:=B;obtain ⟨o,es,ep,e,hd,_⟩:=id hg;have b3':=I.bk _ _ b3;refine ⟨⟨bm,ob,b1,b2,fun z=>?_,fun z=>?_,b3',b4,b5,b6⟩,fun z=>?_⟩
  ·rw [z,e] at b3'; cases b3'; rw [hd] at b6; cases b6
  ·rw [z,eP] at b3'; cases b3'; cases b4
  ·rw [z,eP] at e; cases e; cases hd
 rcases st with st | ⟨c0,st,sc⟩
 ·have eP:s.heap.get? P=some (PySem.W.tabObj #[]):=I.hok P _ st
  refine PySem.W.kla_makeFunction hcl I.ok.glob hg hcode (C _ I.kIn) eP trivial rfl (bmf eP).2 (bmf eP).1 fun c' ctv h' tk hx hge hlt hrec htb=>?_
  have eT:(#[]:Array Value)++#[rawInt lpos.line,rawInt lpos.col,Value.ref c']=#[rawInt lpos.line,rawInt lpos.col,.ref c']:=by simp
  rw [eT] at htb;have hc0:H c'=none:=I.hok.fresh hge;have cP:c'≠P:=Ne.symm (qV st hc0);have h1P:upd (upd H c' (.ext (V6 c' (X.env.qual++Str.ofString "<lambda>")))) P (.tbl #[rawInt lpos.line,rawInt lpos.col,.ref c']) P=some (.tbl #[rawInt lpos.line,rawInt lpos.col,.ref c']):=qj;have h1c:upd (upd H c' (.ext (V6 c' (X.env.qual++Str.ofString "<lambda>")))) P (.tbl #[rawInt lpos.line,rawInt lpos.col,.ref c']) c'=some (.ext (V6 c' (X.env.qual++Str.ofString "<lambda>"))):=by rw [zZ cP,qj]
  have h1o:∀ b,b≠P→b≠c'→upd (upd H c' (.ext (V6 c' (X.env.qual++Str.ofString "<lambda>")))) P (.tbl #[rawInt lpos.line,rawInt lpos.col,.ref c']) b=H b:=fun b n1 n2=>by rw [zZ n1,zZ n2]
  have okc:∀ H2,ObjOk X.prog X.w H2 h' c' (.ext (V6 c' (X.env.qual++Str.ofString "<lambda>"))):=fun _=>by
   obtain ⟨c2,o,vs,t,e1,e2,e3,e4⟩:=hrec
   cases e1
   exact ⟨⟨o,vs,t,e2,e3,e4⟩,⟨o,e2⟩,fun g1 g2 ⟨o,vs,t,a1,a2,a3⟩ k=>⟨o,vs,t,k _ a1,a2,a3⟩⟩
  generalize hH1:upd (upd H c' (.ext (V6 c' (X.env.qual++Str.ofString "<lambda>")))) P (.tbl #[rawInt lpos.line,rawInt lpos.col,.ref c'])=H1 at h1P h1c h1o;have nP:∀ {b:Addr},H b=none→b≠P:=fun e z=>by rw [z,st] at e; cases e
  have nc:∀ {b:Addr} {o:Obj},s.heap.get? b=some o→b≠c':=fun e z=>absurd (Heap.lt_size e) (by rw [z]; exact Nat.not_lt.mpr hge)
  have ncH:∀ {b:Addr} {u:HO},H b=some u→b≠c':=fun e=>qV e hc0
  have g1:SameL H H1:=fun b o e n=>by
   have bP:b≠P:=fun z=>by rw [z,st] at e; cases e; cases n
   rw [h1o b bP (ncH e)];exact e
  have I1:Inv X pins σ H1 { s with heap:=h',toks:=tk }:=by
   refine I.step (g':=s.gens) (d':=s.drawn) (ch:=[]) (fun _ z=>nomatch z) (fun b o _ _ _ e n=>hx b o (nP n) e) (fun b o _ _ _ e n=>⟨o.slots,hx b o (nP n) e⟩) (fun b o _ e n=>by rw [h1o b (nP n) (nc e)]; exact n)
    (fun b o _ e=>?_) (fun b xs e=>g1 b _ e rfl) (fun b o u e=>g1 b _ e rfl) (fun b ps e=>?_) (fun m hm=>?_) (fun b u e=>?_) I.bare
   ·by_cases z:b=P
    ·exact ⟨_,by rw [z]; exact htb⟩
    ·exact ⟨o,hx b o z e⟩
   ·by_cases z:b=P
    ·subst z
     rw [st] at e
     cases e
     exact ⟨_,by rw [h1P,eT]⟩
    ·exact ⟨#[],by rw [h1o b z (ncH e),e]; simp⟩
   ·obtain ⟨o,es,ep,ho,r⟩:=hm
    exact ⟨o,es,ep,hx _ o (nP I.free) ho,r⟩
   ·by_cases z:b=P
    ·subst z
     rw [h1P] at e
     cases e
     exact htb
    ·by_cases y:b=c'
     ·subst y
      rw [h1c] at e
      cases e
      exact okc _
     ·rw [h1o b z y] at e
      refine (I.hok b u e).stay (fun d v hd q=>hx d v ?_ q) (fun d q=>g1 d _ q rfl) fun d xs q=>g1 d _ q rfl
      rcases hd with hd | hd
      ·rw [hd]; exact z
      ·intro w'
       rw [w',st] at hd
       cases hd
  have nf:H1 h'.objs.size=none:=I1.hok.fresh (Nat.le_refl _);have g2:=qw nf (.ext (LamAt h'.objs.size c' (X.env.qual++Str.ofString "<lambda>") params body scope cl));refine ⟨.ref h'.objs.size,_,I1.laid (a:=h'.objs.size) (o:=.ext (LamAt h'.objs.size c' (X.env.qual++Str.ofString "<lambda>") params body scope cl)) (t':=tk) (fun b u e=>Heap.get?_push_of_some _ e) (Nat.le_refl _) (lamAt_ok (Heap.get?_push_size _ rfl)),rfl,h _ c' _ (g1.trans g2.toL) (.inr ⟨c',g2 _ _ h1P,g2 _ _ h1c⟩) (g2 _ _ h1c) ?_ qj⟩
  cases e:H h'.objs.size with
  | none=>rfl
  | some u =>
   by_cases z:h'.objs.size=P
   ·rw [z,h1P] at nf; cases nf
   ·rw [h1o _ z (ncH e),e] at nf; cases nf
 ·have eP:s.heap.get? P=some (PySem.W.tabObj #[rawInt lpos.line,rawInt lpos.col,.ref c0]):=I.hok P _ st
  refine PySem.W.kla_makeFunctionHit (cv:=.ref c0) hcl I.ok.glob hg hcode (C _ I.kIn) eP (by simp [TriplesOk,rawInt]) (by simp [codeAmong,rawInt]) (bmf eP).1 fun ctv h' tk hx hsz=>?_
  have I1:Inv X pins σ H { s with heap:=h',toks:=tk }:=I.kept hx;have nf:H h'.objs.size=none:=I1.hok.fresh (Nat.le_refl _);have g2:=qw nf (.ext (LamAt h'.objs.size c0 (X.env.qual++Str.ofString "<lambda>") params body scope cl));exact ⟨.ref h'.objs.size,_,I1.laid (a:=h'.objs.size) (o:=.ext (LamAt h'.objs.size c0 (X.env.qual++Str.ofString "<lambda>") params body scope cl)) (t':=tk) (fun b u e=>Heap.get?_push_of_some _ e) (Nat.le_refl _) (lamAt_ok (Heap.get?_push_size _ rfl)),rfl,h _ c0 _ g2.toL (.inr ⟨c0,g2 _ _ st,g2 _ _ sc⟩) (g2 _ _ sc) nf qj⟩
abbrev lobM (us:Array Value) (n:Nat):Obj:={ cls:=.type "list",data:=.seq us n }
theorem max_key {X:Cx} {pins:List (Addr×Obj)} {σ:St} {H:Hp} {s:Shared} {l q:Addr} {xs:List V} {Q:VK} (hc:X.calm=true) (I:Inv X pins σ H s) (hl:SqL X.K H l xs) (x0:xs≠[])
  (turn:∀ (s':Shared) (pins':List (Addr×Obj)) (v:V) (u:Value),v∈xs→RelV v u→Inv X pins' σ H s'→wpAny (model X.prog X.w) X.A.in1 (call (.ref q) [u]) (fun r s''=>(∃ (k:Int) (t:Tok),r=.int k t)∧Inv X pins' σ H s'') (fun _ _=>False) s')
  (fin:∀ v∈xs,Q v H):wpAny (model X.prog X.w) X.A (call (.builtin "max") [.ref l] [(Str.ofString "key",.ref q)]) (EP X pins σ Q) X.xe s:=by
 obtain ⟨its,rv,pl,_⟩:=I.list hl;have len:its.length=xs.length:=rv.length.symm;have ltl:l<s.heap.objs.size:=pl.lt;obtain ⟨ol,el,ol1,ol2⟩:=pl.isList;refine kmk_tree PySem.F.kind_max PySem.F.plain_max PySem.F.entry_max (kmk_max_key _ _) ?_;show wpAny _ X.A.in1 (Builtin.Builtins.bindParams "max" ["key", "default"] 0 ⟨[],[(Str.ofString "key",.ref q)]⟩ >>= _) _ _ s;rw [show Builtin.Builtins.bindParams "max" ["key", "default"] 0 ⟨[],[(Str.ofString "key",Value.ref q)]⟩=pure [some (.ref q),none] from rfl];refine wpAny_bind (wpAny_pure (wpAny_bind (wpAny_pure (wpAny_bind (wpAny_pyIter_list pl.isList (wpAny_bind (wpAny_newList ?_ (Nat.zero_le _))))))));generalize hI:s.heap.objs.size=it at *;generalize h1e:s.heap.push { cls:=.type "list_iterator",data:=.fields #[.ref l,.int 0 0] }=h1 at *;have sz1:h1.objs.size=it+1:=by rw [← h1e,Heap.size_push,hI]
 generalize hS:h1.objs.size=S at *;have keep:∀ b o,s.heap.get? b=some o→(h1.push (lobM #[] 0)).get? b=some o:=fun b o e=>Heap.get?_push_of_some _ (by rw [← h1e]; exact Heap.get?_push_of_some _ e)
 have Hit:H it=none:=I.hok.fresh (by rw [hI]; exact Nat.le_refl _);have HS:H S=none:=I.hok.fresh (by rw [hI,sz1]; exact Nat.le_succ _);have fit:FpOk X pins H it:=I.fpOk (by rw [hI]; exact Nat.le_refl _) Hit;have fS:FpOk X pins H S:=I.fpOk (by rw [hI,sz1]; exact Nat.le_succ _) HS;have neS:S≠it:=by rw [sz1]; exact Nat.ne_of_gt (Nat.lt_succ_self _)
 have nel:l≠it:=Nat.ne_of_lt ltl;have ours:∀ {s':Shared} {h':Heap} {t':Nat},Inv X pins σ H s'→(∀ b o,b∉[S,it]→s'.heap.get? b=some o→h'.get? b=some o)→Inv X pins σ H { s' with heap:=h',toks:=t' }:=fun I' k =>
  I'.turnedAll (fp:=[S,it]) (fun b hb=>by
   rcases List.mem_cons.mp hb with z | z
   ·rw [z]; exact fS
   ·rw [Al.mp z]; exact fit) k
 have okp:∀ {b:Addr} {o:Obj} {s':Shared},FpOk X pins H b→s'.heap.get? b=some o→(∀ v,o.data≠.cell v)→s'.heap.get? b=some o∧H b=none∧b≠X.env.locals∧b∉X.fs∧∀ v,o.data≠.cell v:=fun f e d=>⟨e,f.1,f.2.1,f.2.2.1,d⟩
 have nm:(toString "max" ++ toString ".loop" : String) = "max.loop" := by decide
 have loop:∀ (n i:Nat) (s':Shared) (old:Array Value) (k0:Nat),n+i=xs.length→Inv X pins σ H s'→s'.heap.IsListIter it l i→s'.heap.get? S=some (lobM old k0)→((i=0∧old=#[])∨(0<i∧∃ v∈xs,∃ (u:Value) (k:Int) (t:Tok),RelV v u∧old=#[u,.int k t]))→codeAny (model X.prog X.w) X.A (.builtin "max.loop" ⟨[.ref it,.ref q,.ref S],[]⟩) (fun r s'=>match r with | .ok (.ret v)=>EP X pins σ Q v s' | .ok _=>False | .error e=>X.xe e s') s':=by
  intro n
  induction n with
  | zero =>
   intro i s' old k0 hn I' ei eS ho;obtain ⟨io,v,hv,u,k,t,ruv,rfl⟩:0<i∧∃ v∈xs,∃ (u:Value) (k:Int) (t:Tok),RelV v u∧old=#[u,.int k t]:=by
    rcases ho with ho | ho
    ·have:=List.length_pos_iff.mpr x0; omega
    ·exact ho
   obtain ⟨its',rv',pl',_⟩:=I'.list hl;have W:=Walks.list (prog:=X.prog) (w:=X.w) (A:=X.A.in1) (I.ok.hd hc) it l nel its'.toArray;have z:its'.toArray.size=i:=by rw [List.size_toArray,← rv'.length]; omega
   refine codeAny_builtin PySem.F.entry_max_loop ?_; rw [Around.under_plainId PySem.F.plain_max_loop _];refine wpAny_bind (wpAny_seqItems eS rfl (wpAny_bind (wpAny_tryCatch (W.done _ _ _ ⟨by rw [z]; exact ei,pl'.isList⟩ fun h' tk' hk'=>?_))));refine wpAny_bind (wpAny_updateSeq (hk' S _ (by simpa using neS) eS) rfl (wpAny_bind (wpAny_letGo (wpAny_pure ?_))));have I2:Inv X pins σ H { s' with heap:=h',toks:=tk' }:=ours I' fun b o nb e=>hk' b o (by simp only [List.mem_cons,List.not_mem_nil,or_false,not_or] at nb; simpa using nb.2) e
   exact ⟨v,H,ours I2 fun b o nb e=>Heap.get?_update_of_ne _ (fun y=>nb (by rw [← y]; exact Am)) e,ruv,fin v hv⟩
  | succ n ih =>
   intro i s' old k0 hn I' ei eS ho;obtain ⟨its',rv',pl',_⟩:=I'.list hl;have W:=Walks.list (prog:=X.prog) (w:=X.w) (A:=X.A.in1) (I.ok.hd hc) it l nel its'.toArray;have z:its'.toArray.size=xs.length:=by rw [List.size_toArray,← rv'.length]
   refine codeAny_builtin PySem.F.entry_max_loop ?_; rw [Around.under_plainId PySem.F.plain_max_loop _];refine wpAny_bind (wpAny_seqItems eS rfl (wpAny_bind (wpAny_tryCatch (W.item i _ _ _ (by rw [z]; omega) ⟨ei,pl'.isList⟩ fun u h' tk' hu st' hk'=>?_))));obtain ⟨v,hv,ruv⟩:∃ v,v∈xs∧RelV v u:=by
    obtain ⟨v,e1,r1⟩:=v9 rv' i (by rw [← rv'.length]; omega);refine ⟨v,Af e1,?_⟩;have e2:its'[i]?=some u:=by simpa using hu
    rw [A7 (by rw [← rv'.length]; omega)] at e2
    rwa [B0 e2] at r1
   obtain ⟨oi,hoi,ci,di⟩:=id st'.1;have eS2:=hk' S _ (by simpa using neS) eS;have I2:Inv X pins σ H { s' with heap:=h',toks:=tk' }:=ours I' fun b o nb e=>hk' b o (by simp only [List.mem_cons,List.not_mem_nil,or_false,not_or] at nb; simpa using nb.2) e
   have I3:Inv X (pins++[(S,lobM old k0),(it,oi)]) σ H { s' with heap:=h',toks:=tk' }:=I2.pins_of fun p hp=>by
    rcases Aw.mp hp with y | y
    ·exact I2.pin p (Ac _ y)
    ·rcases List.mem_cons.mp y with y | y
     ·subst y; exact okp fS eS2 (fun w y=>by cases y)
     ·rw [Al.mp y]; exact okp fit hoi (fun w y=>by rw [di] at y; cases y)
   refine wpAny_bind (wpAny_tryCatch (wpAny_holding (wpAny_mono (turn _ _ v u hv ruv I3) (fun r s2 h2=>?_) fun _ _ y=>y.elim)));obtain ⟨⟨k,t,rfl⟩,I4⟩:=h2;have eS4:=(I4.pin (S,lobM old k0) (Ac _ (Ac _ Am))).1;have ei4:s2.heap.IsListIter it l (i+1):=⟨oi,(I4.pin (it,oi) (Ac _ (Ac _ (List.mem_cons_of_mem _ Am)))).1,ci,di⟩;have I5:Inv X pins σ H s2:=I4.pins_of fun p hp=>I4.pin p (Ac _ (Ah _ hp))
   have next:∀ {us:Array Value} {k1:Nat} {h6:Heap} {t6:Nat},(∀ b o,b≠S→s2.heap.get? b=some o→h6.get? b=some o)→h6.get? S=some (lobM us k1)→(∃ v∈xs,∃ (u:Value) (k:Int) (t:Tok),RelV v u∧us=#[u,.int k t])→codeAny (model X.prog X.w) X.A (.builtin "max.loop" ⟨[.ref it,.ref q,.ref S],[]⟩) (fun r s'=>match r with | .ok (.ret v)=>EP X pins σ Q v s' | .ok _=>False | .error e=>X.xe e s') { s2 with heap:=h6,toks:=t6 }:=fun {us k1 h6 t6} k6 e6 o6=>by
    refine ih (i+1) _ us k1 (by omega) (ours I5 fun b o nb e=>k6 b o (fun y=>nb (by rw [y]; exact Am)) e) ?_ e6 (.inr ⟨by omega,o6⟩);obtain ⟨o,e1,r1⟩:=ei4;exact ⟨o,k6 it o (Ne.symm neS) e1,r1⟩
   have put:∀ (x y:Value),∃ k1,(s2.heap.update S (Obj.mapSeq fun _=>#[x,y])).get? S=some (lobM #[x,y] k1):=fun x y=>⟨_,get?_update_seq eS4 fun _=>#[x,y]⟩
   have other:∀ (F:Obj→Obj) b o,b≠S→s2.heap.get? b=some o→(s2.heap.update S F).get? b=some o:=fun F b o nb e=>Heap.get?_update_of_ne _ (Ne.symm nb) e
   rcases ho with ⟨_,rfl⟩ | ⟨_,v0,hv0,u0,k2,t2,ruv0,rfl⟩
   ·obtain ⟨k1,e1⟩:=put u (.int k t)
    refine wpAny_bind (wpAny_updateSeq eS4 rfl ?_);rw [nm];exact wpAny_pure ⟨plainId_quiet PySem.F.plain_max_loop _,next (other _) e1 ⟨v,hv,u,k,t,ruv,rfl⟩⟩
   ·refine wpAny_bind (wpAny_tryCatch (wpAny_holding (wpAny_bind ((CmpOf.ints_gt (prog:=X.prog) (w:=X.w) (A:=X.A.in1) (P:=fun j y=>∃ t,y=.int (if j=0 then k else k2) t) (fun j=>if j=0 then k else k2) fun _ _ y=>y) 0 1 _ _ _ _ _ ⟨t,rfl⟩ ⟨t2,rfl⟩ ?_))))
    refine wpAny_bind (wpAny_holding (wpAny_truthy_bool (wpAny_bind (wpAny_letGo (wpAny_pure ?_)))))
    by_cases better:k>k2
    ·obtain ⟨k1,e1⟩:=put u (.int k t)
     simp only [better,decide_true,if_true,Nat.one_ne_zero,if_false]
     refine wpAny_bind (wpAny_updateSeq eS4 rfl (wpAny_bind (wpAny_letGo ?_)));rw [nm];exact wpAny_pure ⟨plainId_quiet PySem.F.plain_max_loop _,next (other _) e1 ⟨v,hv,u,k,t,ruv,rfl⟩⟩
    ·simp only [better,decide_false,Bool.false_eq_true,if_true,Nat.one_ne_zero,if_false]
     refine wpAny_bind (wpAny_letGo ?_);rw [nm];exact wpAny_pure ⟨plainId_quiet PySem.F.plain_max_loop _,next (fun b o _ e=>e) eS4 ⟨v0,hv0,u0,k2,t2,ruv0,rfl⟩⟩
 rw [nm];refine wpAny_pure ⟨plainId_quiet PySem.F.plain_max_loop _,loop xs.length 0 _ #[] 0 rfl (I.kept keep) ?_ (by rw [← hS]; exact Heap.get?_push_size _ rfl) (.inl ⟨rfl,rfl⟩)⟩;exact ⟨_,Heap.get?_push_of_some _ (by rw [← h1e,← hI]; exact Heap.get?_push_size _ rfl),rfl,rfl⟩
end L2
namespace L2
open PySem PySem.Spec PyProof.Rows BP
theorem Room.lam {j k:Nat} {A:Around} {env:Env} (r:Room k A) (h:j+2≤k):Room j (A.in1.deeper env):=((r.mono h).in1).deeper env
def tMaxK (K:Bc) (qual:Str) (params:Arguments) (body:Expr) (scope:Scope) (cl:List (Str×Addr)) (ix:List (Option Nat)) (ta tl:TE) (te:Addr→Addr→Shared→Hp→TE):TE:=fun σ H Q =>
 ta σ H fun x H1=>tl σ H1 fun y H2=>∃ l f c xs,x=.ref l∧y=.ref f∧SqL K H2 l xs∧xs≠[]∧H2 f=some (.ext (LamAt f c qual params body scope cl))∧H2 c=some (.ext (V6 c qual))∧(∀ f' c' s' v,v∈xs→te f' c' s' H2 (some v::compS ix σ) H2 fun r H3=>H3=H2∧∃ k,r=.int k)∧∀ v∈xs,Q v H2
theorem pe_maxK {X:Cx} {x y:Str} {N:List Str} {ix:List (Option Nat)} {p pos kpos lpos:Pos} {e body:Expr} {params:Arguments} {scope:Scope} {ta tl:TE} {te:Addr→Addr→Shared→Hp→TE} {k0:Nat}
  (k:LamOk X scope (closL scope X.env) y N ix) (hc:X.calm=true) (hr:Room k0 X.A) (hg:Gl X x) (hm:X.mg x=none) (hv:bootBuiltins x=some (.builtin "max")) (ha:PE X e ta) (hl:PE X (.Lambda params body scope lpos) tl)
  (hb:∀ f c s H,PE (X.lam scope (X.env.qual++Str.ofString "<lambda>") (closL scope X.env) (y::N) ⟨X.A.in1,f,c,s,H⟩) body (te f c s H))
  (hbind:∀ (q:Str) (cl:List (Str×Addr)) (pm cd ct u:Value),bindArgs (PySem.W.kla_fn (Str.ofString "<lambda>") q params body scope cl pm cd ct) ⟨[u],[]⟩=pure [(y,u)]:=by intro _ _ _ _ _ _; rfl)
  (hn:x ≠ "__name__" := by decide) (hdb:(x==("__debug__" : Str))=false:=by decide)
  (he:starEach [e] X.env=[(false,eval e X.env)]:=by rfl) :
  PE X (.Call (.Name x p) [e] [⟨some (Str.ofString "key"),.Lambda params body scope lpos,kpos⟩] pos) (tMaxK X.K (X.env.qual++Str.ofString "<lambda>") params body scope (closL scope X.env) ix ta tl te):=by
 intro pins s σ H Q I h;refine wpAny_Call_Name_kw (V2 I hg hm hv ?_ hn hdb);have he1:backTo pos (starEach [e] X.env)=(false,eval e X.env)::backTo pos (starEach [] X.env):=by rw [he]; rfl
 refine callWith_kw ?_ he1 (by rw [he1]; rfl) rfl rfl;rw [he1];refine Calls.spliced_cons (thn (ha pins s σ H _ I h) fun u1 s1 ⟨y1,H1,I1,r1,q1⟩=>Calls.spliced_nil ?_);refine kws_cons (thn (hl pins s1 σ H1 _ I1 q1) fun u s2 ⟨y2,H2,I2,r2,q2⟩=>kws_nil ?_);obtain ⟨l,f,c,xs,rfl,rfl,hS,x0,hF,hC,ht,hQ⟩:=q2
 cases r1
 cases r2
 refine max_key hc I2 hS x0 (fun s' pins' v u hv rv I'=>?_) hQ;refine wpAny_mono (lam_run (E:=fun _ _=>False) k I' (hr.hd) I'.ok.frames hr.depth (hbind _ _) hF hC (hb f c s' H2) rv (ht f c s' v hv)) (fun u' s'' q=>?_) fun _ _ z=>z
 obtain ⟨v',H',I3,r3,rfl,n,rfl⟩:=q;obtain ⟨t3,rfl⟩:=r3;exact ⟨⟨n,t3,rfl⟩,I3⟩
structure FunC (K:Bc) (x qual:Str) (st:Stmt) (f:Addr) (fd:FuncData) (c tb:Addr):Prop where
 ex:∃ (oc:Value) (od:Option Addr) (kV doc pm:Value) (an:Option Addr) (ct:Value) (osl:Array (Option Value)),fd=PySem.W.fnOf x qual (ww st) (yw st) (qQ st) .none kV doc pm an (.ref c) ct∧K.lookup f=some ⟨oc,od,.func fd,osl⟩∧PySem.W.codeIn K (.ref c) qual=true
 hd:∀ h:Heap,K.In h→PySem.W.CodeHd h c tb
 kp:PySem.W.keepIn K (.ref f)=true
theorem FunC.ok {P:Program} {w:World} {K:Bc} {mg:Str→Option Value} {base:Heap} {x qual:Str} {st:Stmt} {f c tb:Addr} {fd:FuncData} {N ps:List Str} {k:Nat} {sp:Sp} (F:FunC K x qual st f fd c tb) (S:FnScope N ps (qQ st)) (len:∀ vs H Q E,sp vs H Q E→vs.length=ps.length)
  (hbody:∀ (cdv:Value),cdv=.ref c→∀ (A:Around) (outer:List Env) (s:Shared) (H:Hp) (vs:List V) (Q:VK) (E:XK),Room k (A.deeper (envOfC qual (qQ st) s.heap.objs.size f cdv))→sp vs H Q E→∃ t,PSs (cxOf CX0 P w K mg base N qual (qQ st) f cdv A outer s H E).nox (yw st) t∧t { nx:=fun _ H'=>Q .non H',rt:=Q } (start N vs) H):FnOk P w K mg base CX0 (k+1) f fd ps sp:=by
 obtain ⟨oc,od,kV,doc,pm,an,ct,osl,rfl,lk,hcd⟩:=F.ex;refine fn_of lk hcd S len fun A outer s H vs Q E hr hsp=>?_
 obtain ⟨t,h,q⟩:=hbody _ rfl A outer s H vs Q E hr hsp;exact ⟨t,h.nox,q⟩
theorem FunC.binds {K:Bc} {x qual:Str} {st:Stmt} {f c tb:Addr} {fd:FuncData} {ps:List Str} (F:FunC K x qual st f fd c tb)
  (h:∀ (kV doc pm:Value) (an:Option Addr) (cdv ct:Value) (us:List Value),us.length=ps.length→bindArgs (PySem.W.fnOf x qual (ww st) (yw st) (qQ st) .none kV doc pm an cdv ct) ⟨us,[]⟩=pure (ps.zip us)):Binds K fd ps []:=by
 obtain ⟨oc,od,kV,doc,pm,an,ct,osl,rfl,lk,hcd⟩:=F.ex;exact .all (h kV doc pm an (.ref c) ct)
def codeVs (vs:Array Value) (tb:Addr):Bool:=match (vs[11]?:Option Value),vs.getD 11 .none,vs.getD 18 .none,vs.getD 7 .none,vs.getD 9 .none,vs.getD 10 .none with
 | some (.ref p),.ref q,.str _ _,.int _ _,.bool _,.int _ _=>p==tb&&q==tb
 | _,_,_,_,_,_=>false
theorem codeHd_of {K:Bc} {c tb:Addr} {od:Option Addr} {vs:Array Value} {sl:Array (Option Value)} (l:K.lookup c=some ⟨.type "code",od,.fields vs,sl⟩) (v:codeVs vs tb=true) (ne:K.lookup tb=none):∀ h:Heap,K.In h→PySem.W.CodeHd h c tb:=fun h X=>by
 have e:=X _ _ l;unfold codeVs at v
 split at v
 ·rename_i p q fl tf fg tg inF tx tt h1 h2 h3 h4 h5 h6
  have v1:p=tb∧q=tb:=by simpa using v
  obtain ⟨rfl,rfl⟩:=v1;exact ⟨_,vs,fl,tf,fg,tg,inF,tx,tt,e,rfl,rfl,h1,h2,h3,h4,h5,h6,fun z=>by rw [← z,l] at ne; cases ne⟩
 ·cases v
theorem func_mk {K:Bc} {x qual:Str} {st:Stmt} {f c tb:Addr} {oc:Value} {od an oe:Option Addr} {osl sl:Array (Option Value)} {kV doc pm ct:Value} {vs:Array Value} (l:K.lookup f=some ⟨oc,od,.func (PySem.W.fnOf x qual (ww st) (yw st) (qQ st) .none kV doc pm an (.ref c) ct),osl⟩)
  (cc:PySem.W.codeIn K (.ref c) qual=true) (k:PySem.W.keepIn K (.ref f)=true) (l2:K.lookup c=some ⟨.type "code",oe,.fields vs,sl⟩) (v:codeVs vs tb=true) (ne:K.lookup tb=none):FunC K x qual st f (PySem.W.fnOf x qual (ww st) (yw st) (qQ st) .none kV doc pm an (.ref c) ct) c tb :=
 ⟨⟨oc,od,kV,doc,pm,an,ct,osl,rfl,l,cc⟩,codeHd_of l2 v ne,k⟩
theorem law_callT {P:Program} {w:World} {K:Bc} {mg mb:Str→Option Value} {k:Nat} {fa a c tb:Addr} {fd:FuncData} {x:Str} {sp:Sp} {s1:Shared} {vs:List Value} {ns:List Int}
  (KX:K.In s1.heap) (hns:s1.heap.Ns mainGlobals mg) (hb:s1.heap.Ns builtinsNs mb) (hbb:∀ x:Str,x ≠ "__name__" → mb x=bootBuiltins x) (hlim:s1.heap.NoLimit) (hg:s1.gens=#[]) (bm:BMain mg s1.heap)
  (ha:s1.heap.get? a=some { cls:=.type "list",data:=.seq vs.toArray }) (hi:IntsAre vs ns) (hl:ns.length≤sizeLine) (hr:Room k callerA) (tt:s1.heap.TableAt c tb #[]) (nk:K.lookup tb=none)
  (F:∀ base:Heap,K.In base→base.Ns mainGlobals mg→BMain mg base→FnOk P w K mg base CX0 k fa fd [x] sp) (hbind:∀ (s:Shared) (u:Value),BindsTo s fd ⟨[u],[]⟩ [(x,u)])
  (hsp:∀ H:Hp,H tb=some (.tbl #[])→SqL K H a (ns.map V.int)→sp [.ref a] H (fun v _=>v=.bl true) fun _ _ _=>False) :
  codeAny (model P w) callerA (.call (.ref fa) ⟨[.ref a],[]⟩) (fun r s'=>r=.ok (.ret (.bool true))∧OldK s1.heap s'.heap∧s'.os=s1.os∧AllBare s'.gens) s1:=by
 have rv:=vals_ints hi;have at':a≠tb:=fun z=>by have e:=tt.2; rw [← z,ha] at e; cases e
 have core:∀ H:Hp,H tb=some (.tbl #[])→(H a=none∨∃ o u,H a=some (.frz o u))→(∀ b,b≠tb→b≠a→H b=none)→SqL K H a (ns.map V.int)→HOk P w H s1.heap→(H a≠none→K.lookup a=none)→codeAny (model P w) callerA (.call (.ref fa) ⟨[.ref a],[]⟩) (fun r s'=>r=.ok (.ret (.bool true))∧OldK s1.heap s'.heap∧s'.os=s1.os∧AllBare s'.gens) s1:=by
  intro H hT hA hO hS hok hK;have free:∀ {b:Addr} {o:Obj},s1.heap.get? b=some o→o.cls≠.none→(b=a→K.lookup a=none→False)→H b=none:=fun {b o} e n na=>by
   by_cases z:b=tb
   ·rw [z,tt.2] at e; cases e; exact absurd rfl n
   ·by_cases y:b=a
    ·cases q:H b with
     | none=>rfl
     | some u=>exact (na y (hK (by rw [← y,q]; simp))).elim
    ·exact hO b z y
  have nsK:∀ {b:Addr} {m:Str→Option Value},s1.heap.Ns b m→(hidT s1.heap H).Ns b m:=fun {b m} ⟨o,es,ep,e,d,r⟩=>⟨o,es,ep,hidT_get e (by
   by_cases z:b=tb
   ·rw [z,tt.2] at e; cases e; cases d
   ·by_cases y:b=a
    ·rw [y,ha] at e; cases e; cases d
    ·exact hO b z y),d,r⟩
  have hKb:K.In (hidT s1.heap H):=fun b o e=>hidT_get (KX b o e) (by
   by_cases z:b=tb
   ·rw [z,nk] at e; cases e
   ·by_cases y:b=a
    ·cases q:H b with
     | none=>rfl
     | some u =>
      have w':=hK (by rw [← y,q]; simp);rw [y,w'] at e; cases e
    ·exact hO b z y)
  have hBM:BMain mg (hidT s1.heap H):=by
   obtain ⟨bm,ob,b1,b2,b3,b4,b5,b6⟩:=bm;refine ⟨bm,ob,b1,b2,hidT_get b3 ?_,b4,b5,b6⟩
   by_cases z:bm=tb
   ·rw [z,tt.2] at b3; cases b3; cases b4
   ·by_cases y:bm=a
    ·rw [y,ha] at b3; cases b3; cases b6
    ·exact hO bm z y
  have hM:Mod K mg (hidT s1.heap H):=⟨hKb,nsK hns,⟨mb,nsK hb,hbb⟩,let ⟨mc,h1,h2⟩:=hlim; ⟨mc,nsK h1,h2⟩⟩;have e0:Env0 P w K mg (hidT s1.heap H) callerA [] s1 H:=⟨rfl,hM,fun b o e=>of_hidT e,Nat.le_of_eq (hidT_size _ _),trivial,fun b hb=>(by cases hb),hok,.of_eq hg⟩;refine codeAny_mono ((F _ hKb (nsK hns) hBM).run callerA [] s1 H ⟨[.ref a],[]⟩ [.ref a] [.ref a] _ _ hr e0 (hbind s1 (.ref a)) (.cons rfl .nil) (hsp H hT hS)) fun r s' h=>?_
  cases r with
  | error e=>exact (show False from h).elim
  | ok fl =>
   cases fl with
   | next=>exact False.elim h
   | brk=>exact False.elim h
   | cont=>exact False.elim h
   | ret u =>
    obtain ⟨v,H',os,bare,un,hok',r',q⟩:=h;have q':v=.bl true:=q;subst q';obtain rfl:u=Value.bool true:=r';refine ⟨rfl,⟨fun b o e=>?_,fun b o e=>un.there b o e (by simp)⟩,os,bare⟩
    by_cases z:b=tb
    ·subst z
     obtain ⟨more,em⟩:=un.tbls b _ hT;have e1:s'.heap.get? b=some { cls:=.none,data:=.fields (#[]++more) }:=hok' b _ em;rw [tt.2] at e
     cases e
     exact .inr (.inl ⟨tt.isCodeTable,rfl,#[],more,rfl,e1⟩)
    ·left
     by_cases y:b=a
     ·rcases hA with n | ⟨ob,u,n⟩
      ·exact un.keep b o e (by rw [y]; exact n) (by intro z; cases z) (by simp)
      ·have z2:=un.frzs a ob u n
       obtain ⟨e1,_⟩:=hok a _ n;obtain ⟨e2,_⟩:=hok' a _ z2;rw [y,e1] at e
       cases e
       rw [y];exact e2
     ·exact un.keep b o e (hO b z y) (by intro z; cases z) (by simp)
 cases hk:K.lookup a with
 | some o =>
  have e:=KX a o hk;rw [ha] at e
  cases e
  refine core (fun b=>if b=tb then some (.tbl #[]) else none) (if_pos rfl) (.inl (if_neg at')) (fun b n _=>if_neg n) (.inr ⟨_,vs.toArray,_,hk,rfl,rfl,rfl,by rw [List.size_toArray,hi.length]; exact hl,by simpa using rv⟩) (fun b u z=>?_) fun z=>absurd (if_neg at') z
  by_cases y:b=tb
  ·have z':=(if_pos y).symm.trans z
   cases z'
   rw [y];exact tt.2
  ·have z':=(if_neg y).symm.trans z
   cases z'
 | none =>
  refine core (fun b=>if b=tb then some (.tbl #[]) else if b=a then some (.frz { cls:=.type "list",data:=.seq vs.toArray } (.lst (ns.map V.int))) else none) (if_pos rfl) (.inr ⟨_,_,(if_neg at').trans (if_pos rfl)⟩) (fun b n m=>(if_neg n).trans (if_neg m)) (.inl (.inr ⟨{ cls:=.type "list",data:=.seq vs.toArray },(if_neg at').trans (if_pos rfl)⟩)) (fun b u z=>?_) fun _=>hk
  by_cases y:b=tb
  ·have z':=(if_pos y).symm.trans z
   cases z'
   rw [y];exact tt.2
  ·by_cases y2:b=a
   ·have z':=((if_neg y).trans (if_pos y2)).symm.trans z
    cases z'
    rw [y2];exact ⟨ha,by rw [Av]; exact hl,vs,_,rv,ha⟩
   ·have z':=((if_neg y).trans (if_neg y2)).symm.trans z
    cases z'
theorem walk_ofT {l:PySem.W.OpenLaw} {n k:Nat} {q:Program} {loose:List Str} {XP:(Str→Option Value)→Heap→Prop} {YP:World→Heap→Prop} {d:DefRec} {K:Params→Bc} {sp:World→Sp} {x:Str} {tb:Addr}
  (hn:l.most=some n) (hn2:n≤sizeLine) (hdf:d.params.defaults=[]) (hr:Room k callerA) (hY:∀ (w:World) (h:Heap),YP w h→(K w.params).In h) (hT:∀ (w:World) (h:Heap),YP w h→h.get? tb=some (PySem.W.tabObj #[]))
  (hC:∀ w:World,∃ c,(∀ h:Heap,(K w.params).In h→PySem.W.CodeHd h c tb)∧(K w.params).lookup tb=none)
  (F:∀ (w:World) (mg:Str→Option Value) (fa:Addr) (h:Heap),(K w.params).In h→h.Ns mainGlobals mg→mg d.name=some (.ref fa)→∃ fd:FuncData,(∀ (s:Shared) (u:Value),BindsTo s fd ⟨[u],[]⟩ [(x,u)])∧∀ base:Heap,(K w.params).In base→base.Ns mainGlobals mg→BMain mg base→FnOk l.prog w (K w.params) mg base CX0 k fa fd [x] (sp w))
  (hsp:∀ (w:World) (H:Hp) (a:Addr) (ns:List Int),ns.length≤n→H tb=some (.tbl #[])→SqL (K w.params) H a (ns.map V.int)→sp w [.ref a] H (fun v _=>v=.bl true) fun _ _ _=>False) :
  PySem.W.WalkO q loose XP YP l.row.toRowW d [] (fun f vs=>PySem.call f vs):=by
 refine Att.attach_call hn hdf fun w s₀ s1 mg mb fa o pm cd doc a vs ns G Y ho hd hcd hmg hobj hints hlen hg=>?_
 have KX:=hY w _ Y;obtain ⟨fd,hb,hF⟩:=F w mg fa _ KX G.T.g hmg;obtain ⟨c,hc,nk⟩:=hC w;exact law_callT KX G.T.g G.T.b G.T.builtins G.T.nolimit hg G.T.bmain hobj hints (Ba hlen hn2) hr ((hc _ KX).tab (hT w _ Y)) nk hF hb fun H h1 h2=>hsp w H a ns hlen h1 h2
end L2
namespace L2
open PySem PySem.Spec PyProof.Rows BP
section
variable {X:Cx}
def ItrD (hi:Int) (n:Nat):It:=⟨fun i _=>i<n,fun i H x H'=>H'=H∧x=.int (hi - i),fun i _=>n≤i⟩
theorem turn_rangeD {P:Program} {w:World} {K:Bc} {tg:Expr} (it:Addr) (hi:Int) (n:Nat):Turn P w K tg (ItrD hi n) [it] it (fun i h=>IsRangeIter h it (hi+(i:Nat)*(-1)) ((n:Int) - (i:Nat)) (-1)) where
 mem:=by simp
 obj:=fun i h st b hb=>by
  rw [Al.mp hb];exact ⟨_,st,fun v z=>by have z':Data.fields _=Data.cell v:=z; cases z'⟩
 keep:=fun i h h' st k=>k it (by simp) _ st
 item:=by
  intro X hP hw hK hc i pins s σ H E I hf st hg;subst hP hw hK;obtain ⟨f0,f1,_,f3,f4,f5⟩:=hf it (by simp);refine (Walks.range (prog:=X.prog) (w:=X.w) (I.ok.hd hc) it hi (-1) n).item i s _ _ hg st fun v h' tk hv st' kk=>?_
  obtain ⟨t,rfl⟩:=hv;refine ⟨_,rfl,go_of (s:={ s with heap:=h',toks:=tk }) (n := "range_iterator") st' rfl rfl (by decide) ⟨.int (hi - i),H,I.turned (fun b o hb e=>kk b o (by simpa using hb) e) f0 f1 f3 f4 f5,⟨t,?_⟩,⟨rfl,rfl⟩,st',fun b hb=>(hf b hb).1⟩⟩;rw [show hi+(i:Int)*(-1)=hi - i by omega]
 done:=by
  intro X hP hw hK hc i pins s σ H E I hf st hg;subst hP hw hK;obtain ⟨f0,f1,_,f3,f4,f5⟩:=hf it (by simp);exact wpAny_pyNext_range_end (I.ok.hd hc) st (by have:n≤i:=hg; omega) fun h' eb=>⟨rfl,I.turned (t':=s.toks) (fun b o hb e=>eb b o hb e) f0 f1 f3 f4 f5⟩
 self:=fun _ _ _ _ _ st h=>wpAny_pyIter_rangeiter st h
def iRngD (ta:TA):TI:=fun σ H R=>ta σ H fun vs H1=>∃ n:Nat,vs=[.int ((n:Int) - 1),.int (-1),.int (-1)]∧n<1000000∧R (ItrD ((n:Int) - 1) n) H1
theorem pi_range3 {tg a b c:Expr} {ta:TA} {p pos:Pos} (hg:Gl X "range") (hm:X.mg "range" = none) (ha:PA X [a,b,c] ta) (hs:starEach [a,b,c] X.env=(false,eval a X.env)::starEach [b,c] X.env:=by rfl) (hp:(backTo pos (starEach [b,c] X.env)).any (·.1)=false:=by rfl) :
  PI X tg (.Call (.Name "range" p) [a,b,c] [] pos) (iRngD ta):=by
 intro pins s σ H R I h;refine wpAny_Call_Name_kw (V2 I hg hm PyProof.Rows.boot_range (PyProof.Rows.callWith_type1 (thn (ha pos pins s σ H _ I h) fun us s1 ⟨vs,H1,I1,r1,q1⟩=>?_) hs hp));obtain ⟨n,e,hn,q⟩:=q1;subst e
 cases r1 with
 | cons r rr =>
  cases rr with
  | cons r' rr =>
   cases rr with
   | cons r'' rr =>
    cases rr
    obtain ⟨t,rfl⟩:=r;obtain ⟨t',rfl⟩:=r';obtain ⟨t'',rfl⟩:=r'';have sm:Builtin.divisionGoesByPylong (-1 - ((n:Int) - 1)) (-1)=false:=PyProof.noPylong_of_log2 (by decide);refine call_range_3 (by decide) ?_ (.inl sm);have sz:Builtin.Range.rangeSize ((n:Int) - 1) (-1) (-1)=(n:Int):=by
     unfold Builtin.Range.rangeSize;rw [if_neg (by decide)]
     split
     ·rw [show (-(-1):Int)=1 from rfl,Int.ediv_one]; omega
     ·omega
    have small:Builtin.Range.small ((n:Int) - 1) (-1) (-1)=true:=by
     have ft:∀ z:Int,-5≤z→z<1000000→Builtin.Range.rangeFitsLong z=true:=fun z h1 h2=>by
      unfold Builtin.Range.rangeFitsLong
      simp
      omega
     unfold Builtin.Range.small;rw [sz,ft _ (by omega) (by omega),ft (-1) (by decide) (by decide),ft (n:Int) (by omega) (by omega),if_neg (by decide),ft _ (by decide) (by decide)]
     simp
    refine wpAny_pyIter_range (IsRange.new ..) small ?_;have I2:Inv X pins σ H1 { s1 with heap:=s1.heap.push { cls:=.type "range",data:=.fields #[.int ((n:Int) - 1) t,.int (-1) t',.int (-1) t''] },toks:=s1.toks }:=I1.kept fun b o e=>Heap.get?_push_of_some _ e
    refine ⟨_,[_],_,_,H1,rfl,I2.kept (t':=s1.toks) fun b o e=>Heap.get?_push_of_some _ e,turn_rangeD _ ((n:Int) - 1) n,?_,fun b hb=>?_,q⟩
    ·show IsRangeIter _ _ ((n:Int) - 1+((0:Nat):Int)*(-1)) ((n:Int) - ((0:Nat):Int)) (-1)
     rw [show (n:Int) - 1+((0:Nat):Int)*(-1)=(n:Int) - 1 by omega,show (n:Int) - ((0:Nat):Int)=n by omega];refine Eq.trans (Heap.get?_push_size _ rfl) ?_;rw [sz]
    ·rw [Al.mp hb]
     exact I2.fpOk (Nat.le_refl _) (I2.hok.fresh (Nat.le_refl _))
end
theorem call_max_ints {X:Cx} (hc:X.calm=true):CallR X (.builtin "max") (fun xs H Q=>∃ (p:Addr) (ns:List Int),xs=[.ref p]∧SqL X.K H p (ns.map V.int)∧ns≠[]∧∀ m∈ns,Q (.int m) H):=by
 intro pins s σ H xs us Q I r h;obtain ⟨p,ns,rfl,hq,n0,q⟩:=h;obtain ⟨u,rfl,rx⟩:=vals1 r
 cases rx
 obtain ⟨its,rv,pl,_⟩:=I.list hq;have len:its.length=ns.length:=by rw [← rv.length,Av]
 have ne:p≠s.heap.objs.size:=Nat.ne_of_lt pl.lt;have n1:=List.length_pos_iff.mpr n0;have isI:∀ (i:Nat) (v:Value),its.toArray[i]?=some v→∃ t,v=.int (ns.getD i 0) t:=fun i v hv=>vals_int rv (by simpa using hv)
 refine call_max_walk (wpAny_pyIter_list pl.isList ?_);refine ⟨s.heap.objs.size,_,_,_,_,_,_,rfl,Walks.list (A:=X.A.in1) (I.ok.hd hc) _ p ne its.toArray,⟨⟨_,Heap.get?_push_size _ rfl,rfl,rfl⟩,?_⟩,fun b hb=>?_,by rw [List.size_toArray]; omega,CmpOf.ints_gt (fun i=>ns.getD i 0) isI,fun v h' tk hv k=>?_⟩
 ·obtain ⟨o,e,r⟩:=pl.isList
  exact ⟨o,Heap.get?_push_of_some _ e,r⟩
 ·rw [Heap.size_push]
  rcases List.mem_cons.mp hb with e | e
  ·rw [e]; exact Nat.lt_succ_self _
  ·rw [Al.mp e]; exact Nat.lt_succ_of_lt pl.lt
 ·obtain ⟨t,rfl⟩:=isI _ v hv
  have hk:=Nat.lt_of_lt_of_eq (Array.getElem?_eq_some_iff.mp hv).1 (List.size_toArray.trans len);refine ⟨.int _,H,I.kept (fun b o e=>k b o (fun z=>?_) (Heap.get?_push_of_some _ e)),⟨t,rfl⟩,q _ ?_⟩
  ·rw [Al.mp z] at e
   exact absurd (Heap.lt_size e) (Nat.lt_irrefl _)
  ·rw [A1,A7 hk]
   exact At _
def tBits (to:TE):TE:=fun σ H Q=>to σ H fun x H1=>∃ i:Int,x=.int i∧∀ n:Nat,Q (.int n) H1
theorem pe_bits {X:Cx} {o:Expr} {to:TE} {apos cpos:Pos} (ho:PE X o to) (hbase:attributeBase o "bit_length" X.env (eval o X.env)=eval o X.env:=by rfl) (hline:(apos.endLine==cpos.line)=true:=by rfl):PE X (.Call (.Attribute o "bit_length" apos) [] [] cpos) (tBits to):=by
 intro pins s σ H Q I h;refine wpAny_Call_method0_late hbase hline (thn (ho pins s σ H _ I h) fun v s1 ⟨x,H1,I1,r1,q1⟩=>?_);obtain ⟨i,rfl,q⟩:=q1;obtain ⟨t,rfl⟩:=r1;refine ⟨"int", "int.bit_length",PySem.F.plainAttrs_int,PySem.F.slot_int_bit_length,PySem.F.type_int_bit_length,typeIs_int _ _ _,(by intro _ z; cases z),Calls.callWith_builtin rfl (PySem.evalArgs_none ?_)⟩;exact call_int_bit_length ⟨.int _,H1,I1.tok _,⟨_,rfl⟩,q _⟩
def tCallV (i:Nat) (f:Addr) (sp:Sp) (dvs:List V) (E:XK) (t:TA):TE:=fun σ H Q=>σ[i]?=some (some (.ref f))∧t σ H fun vs H1=>sp (vs++dvs) H1 Q E
theorem pe_callV {X:Cx} {CX:CXT} {k:Nat} {f:Addr} {fd:FuncData} {ps:List Str} {sp:Sp} {dvs:List V} {ds:List Value} {E:XK} {x:Str} {p pos:Pos} {e:Expr} {es:List Expr} {t:TA} {i:Nat} (F:FnOk X.prog X.w X.K X.mg X.base CX k f fd ps sp) (hr:Room k X.A) (hv:PE X (.Name x p) (tVar i)) (hk:PySem.W.keepIn X.K (.ref f)=true) (hb:Binds X.K fd ps ds) (hd:Vals dvs ds) (hx:Passes CX X E)
  (ha:PA X (e::es) t) (he:starEach (e::es) X.env=(false,eval e X.env)::starEach es X.env:=by exact qq rfl _ _) (hpl:(backTo pos (starEach es X.env)).any (·.1)=false:=by exact qy rfl) :
  PE X (.Call (.Name x p) (e::es) [] pos) (tCallV i f sp dvs E t):=by
 intro pins s σ H Q I h;refine wpAny_Call_Name_kw (thn (hv pins s σ H (fun v H1=>v=.ref f∧t σ H1 fun vs H1=>sp (vs++dvs) H1 Q E) I ⟨_,h.1,rfl,h.2⟩) fun u s0 ⟨x,H0,I0,r0,e0,q0⟩=>?_);subst e0
 cases r0
 refine PySem.W.callWith_K (h₀:=X.base) I.ok.mod.kin hk (thn (ha pos pins s0 σ H0 _ I0 q0) fun us s1 ⟨vs,H1,I1,r,q⟩=>⟨I1.kIn,?_⟩) he hpl;exact run_fn F hr hb hd hx I1 r q
inductive DCmp (K:Bc) (H:Hp):Nat→V→V→Prop where
 | flat {n:Nat} {x y:V} (h:flatV x=true) (h':flatV y=true):DCmp K H n x y
 | lst {n:Nat} {a b:Addr} {xs ys:List V} (ha:SqL K H a xs) (hb:SqL K H b ys) (hl:xs.length=ys.length) (h:∀ (j:Nat) (x y:V),xs[j]?=some x→ys[j]?=some y→DCmp K H n x y):DCmp K H (n+1) (.ref a) (.ref b)
theorem DCmp.at {X:Cx} {pins:List (Addr×Obj)} {σ:St} {H:Hp} {s:Shared} (I:Inv X pins σ H s) {n:Nat} {x y:V} (d:DCmp X.K H n x y):∀ (A:Around) (u v:Value),RelV x u→RelV y v→A.units+n<cLine→∃ b,SeqAt.EqAt A s u v b:=by
 induction d with
 | flat h h'=>intro A u v rx ry _; exact ⟨_,eqAt_V rx ry h h'⟩
 | @lst n a b xs ys ha hb hl h ih =>
  intro A u v rx ry hu
  cases rx
  cases ry
  by_cases hab:a=b
  ·subst hab
   exact ⟨true,SeqAt.EqAt.same _⟩
  ·obtain ⟨its,r1,p1,_⟩:=I.list ha
   obtain ⟨its2,r2,p2,_⟩:=I.list hb;have h1:=r1.length;have h2:=r2.length;have all:∀ j,∃ b,∀ (g1:j<its.toArray.size) (g2:j<its2.toArray.size),SeqAt.EqAt A.in1 s its.toArray[j] its2.toArray[j] b:=fun j=>by
    by_cases g:j<its.length
    ·obtain ⟨x,e1,q1⟩:=v9 r1 j g
     obtain ⟨y,e2,q2⟩:=v9 r2 j (by omega);obtain ⟨b,hb⟩:=ih j x y e1 e2 A.in1 _ _ q1 q2 (by show A.units+1+n<cLine; omega);exact ⟨b,fun g1 g2=>by simpa using hb⟩
    ·exact ⟨true,fun g1 _=>absurd (by simpa using g1) g⟩
   have q:=SeqAt.RcAt.lists (A:=A) (e:=fun j=>Classical.choose (all j)) p1.isList p2.isList (by simp only [List.size_toArray]; omega) (by omega) fun j g1 g2=>Classical.choose_spec (all j) g1 g2
   exact ⟨_,SeqAt.EqAt.of_refs hab q⟩
def rEqC (K:Bc):R2:=fun x y H Q=>∃ p r xs ys,x=.ref p∧y=.ref r∧SqL K H p xs∧SqL K H r ys∧xs.length=ys.length∧(∀ (j:Nat) (x y:V),xs[j]?=some x→ys[j]?=some y→DCmp K H 20 x y)∧∀ b,Q (.bl b) H
theorem op_eqC {X:Cx} (hu:X.A.units+64<cLine):OpR X (compareOp .Eq) (rEqC X.K):=by
 intro pins s σ H x y v u Q I rx ry h;obtain ⟨p,r,xs,ys,rfl,rfl,ha,hb,hl,al,q⟩:=h
 cases rx
 cases ry
 obtain ⟨its,r1,p1,_⟩:=I.list ha;obtain ⟨its2,r2,p2,_⟩:=I.list hb;have h1:=r1.length;have h2:=r2.length;have all:∀ j,∃ b,∀ (g1:j<its.toArray.size) (g2:j<its2.toArray.size),SeqAt.EqAt X.A.in1 s its.toArray[j] its2.toArray[j] b:=fun j=>by
  by_cases g:j<its.length
  ·obtain ⟨x,e1,q1⟩:=v9 r1 j g
   obtain ⟨y,e2,q2⟩:=v9 r2 j (by omega);obtain ⟨b,hb⟩:=(al j x y e1 e2).at I X.A.in1 _ _ q1 q2 (by show X.A.units+1+20<cLine; omega);exact ⟨b,fun g1 g2=>by simpa using hb⟩
  ·exact ⟨true,fun g1 _=>absurd (by simpa using g1) g⟩
 exact SeqAt.eq_listAt (e:=fun j=>Classical.choose (all j)) p1.isList p2.isList (by simp only [List.size_toArray]; omega) (by omega) (fun j g1 g2=>Classical.choose_spec (all j) g1 g2) ⟨.bl _,H,I,rfl,q _⟩
end L2
namespace BP
def sumTo:Nat→(Nat→Int)→Int
 | 0,_=>0
 | n+1,f=>sumTo n f+f n
theorem xX {f g:Nat→Int}:∀ n:Nat,(∀ i,i<n→f i=g i)→sumTo n f=sumTo n g
 | 0,_=>rfl
 | n+1,h=>by
  show sumTo n f+f n=sumTo n g+g n;rw [xX n fun i hi=>h i (by omega),h n (by omega)]
theorem V8 {f g h:Nat→Int} {a b:Int}:∀ n:Nat,(∀ i,i<n→f i=a*g i+b*h i)→sumTo n f=a*sumTo n g+b*sumTo n h
 | 0,_=>by show (0:Int)=a*0+b*0; omega
 | n+1,k=>by
  show sumTo n f+f n=a*(sumTo n g+g n)+b*(sumTo n h+h n);rw [V8 n fun i hi=>k i (by omega),k n (by omega),Int.mul_add,Int.mul_add];omega
theorem vK {f:Nat→Int} (n:Nat) (h:∀ i,i<n→f i=0):sumTo n f=0:=by
 induction n with
 | zero=>rfl
 | succ n ih =>
  show sumTo n f+f n=0;rw [ih fun i hi=>h i (by omega),h n (by omega)];rfl
theorem sumTo_two {f:Nat→Int} {i j:Nat} (ij:i<j):∀ n:Nat,j<n→(∀ k,k<n→k≠i→k≠j→f k=0)→sumTo n f=f i+f j
 | 0,h,_=>absurd h (Az _)
 | n+1,h,k=>by
  show sumTo n f+f n=_
  by_cases e:j=n
  ·subst e
   have one:∀ m:Nat,i<m→m≤j→sumTo m f=f i:=fun m=>by
    induction m with
    | zero=>intro z; exact absurd z (Az _)
    | succ m ih =>
     intro im mj;show sumTo m f+f m=f i
     by_cases e2:i=m
     ·subst e2
      rw [vK i fun q hq=>k q (by omega) (by omega) (by omega)];omega
     ·rw [ih (by omega) (by omega),k m (by omega) (by omega) (by omega)]
      omega
   rw [one j ij (Nat.le_refl _)]
  ·rw [sumTo_two ij n (by omega) fun q hq=>k q (by omega),k n (by omega) (by omega) (by omega)]
   omega
abbrev Vecs:=Nat→Nat→Int
def skip (i:Nat) (B:Vecs):Vecs:=fun k=>if k<i then B k else B (k+1)
def setV (B:Vecs) (i:Nat) (v:Nat→Int):Vecs:=fun k=>if k=i then v else B k
def sgn (i:Nat):Int:=if i%2=0 then 1 else -1
theorem sgn_succ (i:Nat):sgn (i+1) = - sgn i:=by
 unfold sgn
 by_cases h:i%2=0
 ·rw [if_pos h,if_neg (by omega)]
 ·rw [if_neg h,if_pos (by omega)]
  rfl
def det:Nat→Vecs→Int
 | 0,_=>1
 | n+1,B=>sumTo (n+1) fun i=>sgn (n+i)*B i n*det n (skip i B)
theorem J2:∀ (n:Nat) {B C:Vecs},(∀ i,i<n→∀ c,c<n→B i c=C i c)→det n B=det n C
 | 0,_,_,_=>rfl
 | n+1,B,C,h=>by
  refine xX _ fun i hi=>?_
  rw [h i hi n (by omega),J2 n (B:=skip i B) (C:=skip i C) fun k hk c hc=>?_];unfold skip
  split
  ·exact h k (by omega) c (by omega)
  ·exact h (k+1) (by omega) c (by omega)
theorem skip_lt {B:Vecs} {i k:Nat} {v:Nat→Int} (h:i<k):skip k (setV B i v)=setV (skip k B) i v:=by
 funext q
 simp only [skip,setV]
 repeat' split
 all_goals first | rfl | omega
theorem skip_eq {B:Vecs} {i:Nat} {v:Nat→Int}:skip i (setV B i v)=skip i B:=by
 funext q
 simp only [skip,setV]
 repeat' split
 all_goals first | rfl | omega
theorem skip_gt {B:Vecs} {i k:Nat} {v:Nat→Int} (h:k≤i):skip k (setV B (i+1) v)=setV (skip k B) i v:=by
 funext q
 simp only [skip,setV]
 repeat' split
 all_goals first | rfl | omega
theorem det_lin {a b:Int} {u v:Nat→Int}:∀ (n:Nat) {B:Vecs} {i:Nat},i<n→det n (setV B i fun c=>a*u c+b*v c)=a*det n (setV B i u)+b*det n (setV B i v)
 | 0,_,_,h=>absurd h (Az _)
 | n+1,B,i,h=>by
  refine V8 _ fun k hk=>?_
  rcases Nat.lt_trichotomy k i with e | e | e
  ·obtain ⟨j,rfl⟩:∃ j,i=j+1:=⟨i - 1,by omega⟩
   rw [skip_gt (by omega),skip_gt (by omega),skip_gt (by omega),det_lin n (B:=skip k B) (i:=j) (by omega)];have s:∀ w:Nat→Int,setV B (j+1) w k n=B k n:=fun w=>by unfold setV; rw [if_neg (by omega)]
   rw [s,s,s];grind
  ·subst e
   rw [skip_eq,skip_eq,skip_eq];have s:∀ w:Nat→Int,setV B k w k n=w n:=fun w=>by unfold setV; rw [if_pos rfl]
   rw [s,s,s];grind
  ·rw [skip_lt e,skip_lt e,skip_lt e,det_lin n (B:=skip k B) (i:=i) (by omega)]
   have s:∀ w:Nat→Int,setV B i w k n=B k n:=fun w=>by unfold setV; rw [if_neg (by omega)]
   rw [s,s,s];grind
theorem det_next:∀ (n:Nat) {B:Vecs} {i:Nat},i+1<n→(∀ c,c<n→B i c=B (i+1) c)→det n B=0
 | 0,_,_,h,_=>absurd h (Az _)
 | n+1,B,i,h,e=>by
  show sumTo (n+1) _=0;rw [sumTo_two (i:=i) (j:=i+1) (Nat.lt_succ_self _) (n+1) h fun k hk k1 k2=>?_]
  ·have s:det n (skip i B)=det n (skip (i+1) B):=J2 n fun q hq c hc=>by
    unfold skip
    by_cases z:q<i
    ·rw [if_pos z,if_pos (by omega)]
    ·by_cases z2:q=i
     ·subst z2
      rw [if_neg (by omega),if_pos (by omega)];exact (e c (by omega)).symm
     ·rw [if_neg z,if_neg (by omega)]
   rw [e n (by omega),s,show n+(i+1)=n+i+1 by omega,sgn_succ];grind
  ·have z:det n (skip k B)=0:=by
    by_cases kl:k<i
    ·obtain ⟨j,rfl⟩:∃ j,i=j+1:=⟨i - 1,by omega⟩
     refine det_next n (B:=skip k B) (i:=j) (by omega) fun c hc=>?_
     unfold skip;rw [if_neg (by omega),if_neg (by omega)];exact e c (by omega)
    ·refine det_next n (B:=skip k B) (i:=i) (by omega) fun c hc=>?_
     unfold skip;rw [if_pos (by omega),if_pos (by omega)];exact e c (by omega)
   rw [z,Int.mul_zero]
theorem Z4 (B:Vecs) (i:Nat):setV B i (B i)=B:=by
 funext k
 simp only [setV]
 split
 ·rename_i h; rw [h]
 ·rfl
theorem Z5 {B:Vecs} {i j:Nat} {u v:Nat→Int} (h:i≠j):setV (setV B i u) j v=setV (setV B j v) i u:=by
 funext k
 simp only [setV]
 repeat' split
 all_goals first | rfl | omega
theorem setV_twice {B:Vecs} {i:Nat} {u v:Nat→Int}:setV (setV B i u) i v=setV B i v:=by
 funext k
 simp only [setV]
 repeat' split
 all_goals first | rfl | omega
theorem det_add (n:Nat) {B:Vecs} {i:Nat} {u v:Nat→Int} (h:i<n):det n (setV B i fun c=>u c+v c)=det n (setV B i u)+det n (setV B i v):=by
 have k:=det_lin (a:=1) (b:=1) (u:=u) (v:=v) n (B:=B) h
 simp only [Int.one_mul] at k
 exact k
theorem det_swap1 (n:Nat) {B:Vecs} {i:Nat} {u v:Nat→Int} (h:i+1<n):det n (setV (setV B i u) (i+1) v) = - det n (setV (setV B i v) (i+1) u):=by
 have z:∀ w:Nat→Int,det n (setV (setV B i w) (i+1) w)=0:=fun w=>det_next n (i:=i) h fun c _=>by simp [setV]
 have a:=z fun c=>u c+v c
 have e2:∀ w:Nat→Int,det n (setV (setV B i fun c=>u c+v c) (i+1) w)=det n (setV (setV B i u) (i+1) w)+det n (setV (setV B i v) (i+1) w):=fun w=>by
  rw [Z5 (show i≠i+1 by omega),det_add n (by omega),← Z5 (show i≠i+1 by omega),← Z5 (show i≠i+1 by omega)]
 rw [det_add n h,e2,e2,z u,z v] at a;omega
theorem det_swap (n:Nat):∀ (d:Nat) {B:Vecs} {i:Nat} {u v:Nat→Int},i+d+1<n→det n (setV (setV B i u) (i+d+1) v) = - det n (setV (setV B i v) (i+d+1) u)
 | 0,B,i,u,v,h=>det_swap1 n h
 | d+1,B,i,u,v,h=>by
  have key:∀ x y:Nat→Int,det n (setV (setV B i x) (i+(d+1)+1) y) = - det n (setV (setV (setV B (i+d+1) y) (i+d+1+1) (B (i+d+1))) i x):=fun x y=>by
   have s:=det_swap1 n (B:=setV B i x) (i:=i+d+1) (u:=B (i+d+1)) (v:=y) (by omega);have e:setV (setV (setV B i x) (i+d+1) (B (i+d+1))) (i+d+1+1) y=setV (setV B i x) (i+(d+1)+1) y:=by
    funext k
    simp only [setV]
    repeat' split
    all_goals first | rfl | omega | (subst_vars; rfl)
   rw [e] at s;rw [s,Z5 (show i≠i+d+1 by omega),Z5 (show i≠i+d+1+1 by omega)]
  rw [key,key];have t:=det_swap n d (B:=setV B (i+d+1+1) (B (i+d+1))) (i:=i) (u:=u) (v:=v) (by omega);have f:∀ x y:Nat→Int,setV (setV (setV B (i+d+1) y) (i+d+1+1) (B (i+d+1))) i x=setV (setV (setV B (i+d+1+1) (B (i+d+1))) i x) (i+d+1) y:=fun x y=>by
   funext k
   simp only [setV]
   repeat' split
   all_goals first | rfl | omega
  rw [f,f,t]
theorem det_exch {n:Nat} {B:Vecs} {i j:Nat} {u v:Nat→Int} (h:i≠j) (hi:i<n) (hj:j<n):det n (setV (setV B i u) j v) = - det n (setV (setV B i v) j u):=by
 rcases Nat.lt_or_gt_of_ne h with z | z
 ·obtain ⟨d,rfl⟩:∃ d,j=i+d+1:=⟨j - i - 1,by omega⟩
  exact det_swap n d hj
 ·obtain ⟨d,rfl⟩:∃ d,i=j+d+1:=⟨i - j - 1,by omega⟩
  rw [Z5 h,det_swap n d hi,Z5 (Ne.symm h)]
theorem det_twice {n:Nat} {B:Vecs} {i j:Nat} {u:Nat→Int} (h:i≠j) (hi:i<n) (hj:j<n):det n (setV (setV B i u) j u)=0:=by
 have k:=det_exch (B:=B) (u:=u) (v:=u) h hi hj;omega
theorem det_smul {n:Nat} {B:Vecs} {i:Nat} {a:Int} {u:Nat→Int} (h:i<n):det n (setV B i fun c=>a*u c)=a*det n (setV B i u):=by
 have k:=det_lin (a:=a) (b:=0) (u:=u) (v:=u) n (B:=B) h
 simp only [Int.zero_mul,Int.add_zero] at k
 exact k
theorem det_sum {n:Nat} {B:Vecs} {i:Nat} {a:Nat→Int} {u:Nat→Nat→Int} (h:i<n):∀ m:Nat,det n (setV B i fun c=>sumTo m fun k=>a k*u k c)=sumTo m fun k=>a k*det n (setV B i (u k))
 | 0=>by
  have k:=det_smul (n:=n) (B:=B) (a:=0) (u:=fun _=>0) h
  simp only [Int.zero_mul] at k
  exact k
 | m+1=>by
  show det n (setV B i fun c=>(sumTo m fun k=>a k*u k c)+a m*u m c)=(sumTo m fun k=>a k*det n (setV B i (u k)))+a m*det n (setV B i (u m));rw [det_add n h,det_sum h m,det_smul h]
theorem exchange_id {n:Nat} {B:Vecs} {r i:Nat} {x y:Nat→Int} {a:Nat→Int} {d:Int} (hr:r<n) (hi:i<n) (ne:i≠r)
  (tells:∀ c,d*x c=sumTo n fun k=>a k*B k c) :
  d*det n (setV (setV B r x) i y)=a r*det n (setV B i y) - a i*det n (setV B r y):=by
 have e1:d*det n (setV (setV B r x) i y)=det n (setV (setV B i y) r fun c=>sumTo n fun k=>a k*B k c):=by
  rw [Z5 (Ne.symm ne),← det_smul hr]
  congr 2
  funext c
  exact tells c
 rw [e1,det_sum hr];have z:∀ k,k<n→k≠i→k≠r→a k*det n (setV (setV B i y) r (B k))=0:=fun k hk k1 k2=>by
  have w:setV (setV B i y) r (B k)=setV (setV (setV B i y) k (B k)) r (B k):=by
   funext q
   simp only [setV]
   repeat' split
   all_goals first | rfl | omega | (subst_vars; rfl)
  rw [w,det_twice k2 hk hr,Int.mul_zero]
 have own:det n (setV (setV B i y) r (B r))=det n (setV B i y):=by
  congr 1
  funext q
  simp only [setV]
  repeat' split
  all_goals first | rfl | omega | (subst_vars; rfl)
 have oth:det n (setV (setV B i y) r (B i)) = - det n (setV B r y):=by
  rw [det_exch ne hi hr]
  congr 2
  funext q
  simp only [setV]
  repeat' split
  all_goals first | rfl | omega | (subst_vars; rfl)
 rcases Nat.lt_or_gt_of_ne ne with l | l
 ·rw [sumTo_two l n hr fun k hk k1 k2=>z k hk k1 k2,own,oth]
  grind
 ·rw [sumTo_two l n hi fun k hk k1 k2=>z k hk k2 k1,own,oth]
  grind
theorem sumTo_abs {f:Nat→Int} {M:Nat}:∀ n:Nat,(∀ i,i<n→(f i).natAbs≤M)→(sumTo n f).natAbs≤n*M
 | 0,_=>by show (0:Int).natAbs≤0*M; omega
 | n+1,h=>by
  show (sumTo n f+f n).natAbs≤(n+1)*M;have a:=sumTo_abs n fun i hi=>h i (by omega)
  have b:=h n (by omega);have c:=Int.natAbs_add_le (sumTo n f) (f n);rw [Nat.succ_mul];omega
def facN:Nat→Nat
 | 0=>1
 | n+1=>(n+1)*facN n
theorem sgn_abs (i:Nat):(sgn i).natAbs=1:=by
 unfold sgn
 split <;> rfl
theorem det_le {M:Nat}:∀ (n:Nat) {B:Vecs},(∀ i,i<n→∀ c,c<n→(B i c).natAbs≤M)→(det n B).natAbs≤facN n*M^n
 | 0,_,_=>by show (1:Int).natAbs≤1*M^0; rw [Nat.pow_zero]; decide
 | n+1,B,h=>by
  have k:=sumTo_abs (M:=M*(facN n*M^n)) (f:=fun i=>sgn (n+i)*B i n*det n (skip i B)) (n+1) fun i hi=>by
   rw [B4,B4,sgn_abs,Nat.one_mul];refine Nat.mul_le_mul (h i hi n (by omega)) (det_le n fun q hq c hc=>?_);unfold skip
   split
   ·exact h q (by omega) c (by omega)
   ·exact h (q+1) (by omega) c (by omega)
  refine Ba k (Nat.le_of_eq ?_);show (n+1)*(M*(facN n*M^n))=(n+1)*facN n*M^(n+1);rw [Nat.pow_succ]
  ac_rfl
def unitV:Vecs:=fun i c=>if c=i then 1 else 0
theorem det_unit:∀ n:Nat,det n unitV=1
 | 0=>rfl
 | n+1=>by
  show sumTo n _+sgn (n+n)*unitV n n*det n (skip n unitV)=1;rw [vK n fun i hi=>by show sgn (n+i)*unitV i n*_=0; rw [show unitV i n=0 by unfold unitV; rw [if_neg (by omega)],Int.mul_zero,Int.zero_mul]];have e:det n (skip n unitV)=det n unitV:=J2 n fun i hi c _=>by unfold skip; rw [if_pos hi]
  rw [e,det_unit n,show unitV n n=1 by unfold unitV; rw [if_pos rfl],show sgn (n+n)=1 by unfold sgn; rw [if_pos (by omega)]];rfl
structure RowD (N:Nat) (H:Vecs) (e bot:Int) (y:Nat→Int) (a:Nat→Int):Prop where
 num:∀ k,k<N→a k=e*det N (setV H k y)
 tells:∀ c,bot*y c=sumTo N fun k=>a k*H k c
theorem sq_one {e:Int} (h:e=1∨e = -1):e*e=1:=by rcases h with h | h <;> rw [h] <;> rfl
theorem sumTo_mul {f:Nat→Int} {a:Int} (n:Nat):a*sumTo n f=sumTo n fun k=>a*f k:=by
 have k:=V8 (a:=a) (b:=0) (f:=fun k=>a*f k) (g:=f) (h:=f) n fun i _=>by rw [Int.zero_mul,Int.add_zero]
 rw [Int.zero_mul,Int.add_zero] at k;exact k.symm
theorem xk {f:Nat→Int} {q:Nat}:∀ n:Nat,q<n→sumTo n f=f q+sumTo n fun k=>if k=q then 0 else f k
 | 0,h=>absurd h (Az _)
 | n+1,h=>by
  show sumTo n f+f n=f q+((sumTo n fun k=>if k=q then 0 else f k)+if n=q then 0 else f n)
  by_cases e:n=q
  ·subst e
   have z:(sumTo n fun k=>if k=n then 0 else f k)=sumTo n f:=xX n fun i hi=>if_neg (by omega)
   rw [if_pos rfl,z];omega
  ·have z:=xk (f:=f) (q:=q) n (by omega)
   rw [if_neg e,z];omega
theorem row_exchange {N:Nat} {H:Vecs} {e bot:Int} {x y:Nat→Int} {ar ai:Nat→Int} {q:Nat} {tau:Int} (he:e=1∨e = -1) (ht:tau=1∨tau = -1) (hb:bot=e*det N H) (b0:bot≠0) (hq:q<N)
  (X:RowD N H e bot x ar) (Y:RowD N H e bot y ai) :
  tau*ar q=(tau*e)*det N (setV H q x)∧∃ a':Nat→Int,(∀ k,k<N→k≠q→bot*a' k=tau*(ar q*ai k - ar k*ai q))∧a' q=tau*ai q∧RowD N (setV H q x) (tau*e) (tau*ar q) y a':=by
 have e1:=sq_one he;have t1:=sq_one ht;have p1:∀ k,k<N→k≠q→bot*((tau*e)*det N (setV (setV H q x) k y))=tau*(ar q*ai k - ar k*ai q):=fun k hk kq=>by
  have dd:∀ c,det N H*x c=sumTo N fun k=>(e*ar k)*H k c:=fun c=>by
   have z:=X.tells c;rw [hb] at z;have z2:e*(e*det N H*x c)=e*sumTo N fun k=>ar k*H k c:=by rw [z]
   rw [sumTo_mul] at z2;have z3:e*(e*det N H*x c)=det N H*x c:=by
    calc e*(e*det N H*x c)=(e*e)*(det N H*x c):=by ac_rfl
     _=det N H*x c:=by rw [e1,Int.one_mul]
   rw [← z3,z2];exact xX N fun i _=>(Int.mul_assoc _ _ _).symm
  have id:=exchange_id (B:=H) (r:=q) (i:=k) (x:=x) (y:=y) (a:=fun k=>e*ar k) (d:=det N H) hq hk kq dd;have n1:=Y.num k hk;have n2:=Y.num q hq;rw [hb];have w:e*det N H*(tau*e*det N (setV (setV H q x) k y))=(e*e)*tau*(det N H*det N (setV (setV H q x) k y)):=by ac_rfl
  rw [w,e1,Int.one_mul,id,n1,n2];have w2:e*ar q*det N (setV H k y) - e*ar k*det N (setV H q y)=ar q*(e*det N (setV H k y)) - ar k*(e*det N (setV H q y)):=by
   rw [show e*ar q*det N (setV H k y)=ar q*(e*det N (setV H k y)) by ac_rfl,show e*ar k*det N (setV H q y)=ar k*(e*det N (setV H q y)) by ac_rfl]
  rw [w2]
 have p2:(tau*e)*det N (setV (setV H q x) q y)=tau*ai q:=by rw [setV_twice,Y.num q hq,Int.mul_assoc]
 refine ⟨by rw [X.num q hq,Int.mul_assoc],fun k=>(tau*e)*det N (setV (setV H q x) k y),p1,p2,fun k _=>rfl,fun c=>?_⟩;refine Int.eq_of_mul_eq_mul_left b0 ?_;rw [sumTo_mul,xk (q:=q) N hq];have s0:setV H q x q c=x c:=by unfold setV; rw [if_pos rfl]
 have s1:(sumTo N fun k=>if k=q then 0 else bot*((tau*e)*det N (setV (setV H q x) k y)*setV H q x k c))=(tau*ar q)*(sumTo N fun k=>if k=q then 0 else ai k*H k c)+(-(tau*ai q))*(sumTo N fun k=>if k=q then 0 else ar k*H k c):=by
  refine V8 N fun k hk=>?_
  by_cases kq:k=q
  ·rw [if_pos kq,if_pos kq,if_pos kq]
   omega
  ·rw [if_neg kq,if_neg kq,if_neg kq,← Int.mul_assoc,p1 k hk kq,show setV H q x k c=H k c by unfold setV; rw [if_neg kq]]
   grind
 have y1:=Y.tells c;have x1:=X.tells c;rw [xk (q:=q) N hq] at y1 x1;rw [s1,s0,p2];generalize (sumTo N fun k=>if k=q then 0 else ai k*H k c)=SA at *;generalize (sumTo N fun k=>if k=q then 0 else ar k*H k c)=SB at *;have a1:SA=bot*y c - ai q*H q c:=by omega
 have a2:SB=bot*x c - ar q*H q c:=by omega
 rw [a1,a2];grind
theorem row_turned {N:Nat} {H:Vecs} {e bot:Int} {x:Nat→Int} {ar:Nat→Int} {q:Nat} {tau:Int} (hb:bot=e*det N H) (hq:q<N) (X:RowD N H e bot x ar) :
  RowD N (setV H q x) (tau*e) (tau*ar q) (H q) fun k=>if k=q then tau*bot else -(tau*ar k):=by
 refine ⟨fun k hk=>?_,fun c=>?_⟩
 ·by_cases kq:k=q
  ·subst kq
   rw [if_pos rfl,setV_twice,Z4,hb,Int.mul_assoc]
  ·rw [if_neg kq,det_exch (Ne.symm kq) hq hk,Z4,X.num k hk]
   grind
 ·rw [xk (q:=q) N hq]
  have s0:setV H q x q c=x c:=by unfold setV; rw [if_pos rfl]
  have s1:(sumTo N fun k=>if k=q then 0 else (if k=q then tau*bot else -(tau*ar k))*setV H q x k c)=(-tau)*(sumTo N fun k=>if k=q then 0 else ar k*H k c)+0*(sumTo N fun k=>if k=q then 0 else ar k*H k c):=by
   refine V8 N fun k hk=>?_
   by_cases kq:k=q
   ·rw [if_pos kq,if_pos kq]
    omega
   ·rw [if_neg kq,if_neg kq,if_neg kq,show setV H q x k c=H k c by unfold setV; rw [if_neg kq]]
    grind
  have x1:=X.tells c;rw [xk (q:=q) N hq] at x1;rw [s1,s0,if_pos rfl];generalize (sumTo N fun k=>if k=q then 0 else ar k*H k c)=SB at *;have a2:SB=bot*x c - ar q*H q c:=by omega
  rw [a2];grind
theorem row_first {N:Nat} {y:Nat→Int} (z:∀ c,N≤c→y c=0):RowD N unitV 1 1 y y:=by
 refine ⟨fun k hk=>?_,fun c=>?_⟩
 ·have e:y=fun c=>sumTo N fun j=>y j*unitV j c:=by
   funext c
   by_cases h:c<N
   ·rw [xk (q:=c) N h,vK N fun i _=>by split; rfl; rw [show unitV i c=0 by unfold unitV; rw [if_neg (by omega)],Int.mul_zero]]
    rw [show unitV c c=1 by unfold unitV; rw [if_pos rfl]];omega
   ·rw [z c (by omega),vK N fun i hi=>by rw [show unitV i c=0 by unfold unitV; rw [if_neg (by omega)],Int.mul_zero]]
  have d:=det_sum (n:=N) (B:=unitV) (i:=k) (a:=y) (u:=unitV) hk N;rw [← e] at d;rw [Int.one_mul,d,xk (q:=k) N hk,Z4,det_unit,vK N fun i hi=>?_]
  ·omega
  ·split
   ·rfl
   ·rename_i ik
    have w:setV unitV k (unitV i)=setV (setV unitV i (unitV i)) k (unitV i):=by rw [Z4]
    rw [w,det_twice ik hi hk,Int.mul_zero]
 ·by_cases h:c<N
  ·rw [xk (q:=c) N h,vK N fun i _=>by split; rfl; rw [show unitV i c=0 by unfold unitV; rw [if_neg (by omega)],Int.mul_zero]]
   rw [show unitV c c=1 by unfold unitV; rw [if_pos rfl]];omega
  ·rw [z c (by omega),vK N fun i hi=>by rw [show unitV i c=0 by unfold unitV; rw [if_neg (by omega)],Int.mul_zero]]
   rfl
theorem told_det {N:Nat} {H:Vecs} {al:Nat→Int} {k:Nat} (hk:k<N):det N (setV H k fun c=>sumTo N fun j=>al j*H j c)=al k*det N H:=by
 rw [det_sum hk,xk (q:=k) N hk,Z4,vK N fun i hi=>?_]
 ·omega
 ·split
  ·rfl
  ·rename_i ik
   have w:setV H k (H i)=setV (setV H i (H i)) k (H i):=by rw [Z4]
   rw [w,det_twice ik hi hk,Int.mul_zero]
theorem told_once {N:Nat} {H:Vecs} {al be:Nat→Int} (d0:det N H≠0) (h:∀ c,(sumTo N fun j=>al j*H j c)=sumTo N fun j=>be j*H j c):∀ k,k<N→al k=be k:=fun k hk=>by
 have a:=told_det (H:=H) (al:=al) hk;have b:=told_det (H:=H) (al:=be) hk;have e:(fun c=>sumTo N fun j=>al j*H j c)=fun c=>sumTo N fun j=>be j*H j c:=funext h
 rw [e,b] at a;exact (Int.eq_of_mul_eq_mul_right d0 a).symm
end BP
namespace BP
def sumR:List Nat→(Nat→Rat)→Rat
 | [],_=>0
 | c::l,f=>f c+sumR l f
theorem sumR_pos {f:Nat→Rat}:∀ {l:List Nat},0<sumR l f→∃ c∈l,0<f c
 | [],h=>absurd h (by show ¬ (0:Rat)<0; exact Rat.lt_irrefl)
 | c::l,h=>by
  by_cases k:0<f c
  ·exact ⟨c,Am,k⟩
  ·have h:0<f c+sumR l f:=h
   have:0<sumR l f:=by
    have:=Rat.not_lt.mp k;grind
   obtain ⟨d,hd,e⟩:=sumR_pos this;exact ⟨d,List.mem_cons_of_mem _ hd,e⟩
theorem bland_core {C R:List Nat} {g h a b:Nat→Rat} {s t:Nat}
  (rel:g s=(if s∈C then h s else 0) - sumR (C.filter fun c=>decide (c∈R)) fun c=>h c*a c)
  (gs:g s<0) (st:s<t) (at0:0<a t) (ht:h t<0) (least:∀ c∈C,c<t→0≤h c)
  (corner:∀ c∈C,c∈R→b c=0) (goes:∀ c∈R,0<a c→b c=0→c<t→False) (fickle:∀ c∈C,c∈R→c≤t):False:=by
 have z:0≤(if s∈C then h s else 0):=by
  split
  ·rename_i k; exact least s k st
  ·exact Rat.le_refl
 have p:0<sumR (C.filter fun c=>decide (c∈R)) fun c=>h c*a c:=by grind
 obtain ⟨r,hr,k⟩:=sumR_pos p;obtain ⟨rC,rR⟩:=List.mem_filter.mp hr;have rR:=of_decide_eq_true rR;have le:=fickle r rC rR
 rcases Nat.lt_or_eq_of_le le with lt | e
 ·have h0:=least r rC lt
  have ar:0<a r:=by
   refine Classical.byContradiction fun n=>?_
   have n:=Rat.not_lt.mp n;have:h r*a r≤0:=by
    have:=Rat.mul_le_mul_of_nonneg_left n h0;rw [Rat.mul_zero] at this;exact this
   exact (Rat.not_lt.mpr this) k
  exact goes r rR ar (corner r rC rR) lt
 ·rw [e] at k
  have:h t*a t≤0:=by
   have k1:=Rat.mul_le_mul_of_nonneg_right (Rat.le_of_lt ht) (Rat.le_of_lt at0);rw [Rat.zero_mul] at k1;exact k1
  exact (Rat.not_lt.mpr this) k
set_option genInjectivity false in
set_option genSizeOf false in
structure Dic where
 heads:List Nat
 lines:List Nat
 b:Nat→Rat
 g:Nat→Rat
 a:Nat→Nat→Rat
structure StepZ (D E:Dic) (s t:Nat):Prop where
 sh:s∈D.heads
 tl:t∈D.lines
 apart:∀ x∈D.heads,x∉D.lines
 gs:D.g s<0
 leastS:∀ c∈D.heads,c<s→0≤D.g c
 ats:0<D.a t s
 leastT:∀ r∈D.lines,0<D.a r s→D.b r=0→r<t→False
 heads:∀ x,x∈E.heads↔((x∈D.heads∧x≠s)∨x=t)
theorem stepZ_ne {D E:Dic} {s t:Nat} (h:StepZ D E s t):s≠t:=fun e=>h.apart s h.sh (by rw [e]; exact h.tl)
theorem stays {f:Nat→Dic} {s t:Nat→Nat} {L:Nat} (st:∀ k,k<L→StepZ (f k) (f (k+1)) (s k) (t k)) {x:Nat} (nv:∀ k,k<L→x≠s k∧x≠t k):∀ k,k≤L→(x∈(f k).heads↔x∈(f 0).heads)
 | 0,_=>Iff.rfl
 | k+1,h=>by
  have ih:=stays st nv k (by omega);have n:=nv k (by omega);rw [(st k (by omega)).heads x,← ih]
  constructor
  ·rintro (z | z)
   ·exact z.1
   ·exact absurd z n.2
  ·intro z; exact .inl ⟨z,n.1⟩
theorem only_goes {f:Nat→Dic} {s t:Nat→Nat} {L:Nat} (st:∀ k,k<L→StepZ (f k) (f (k+1)) (s k) (t k)) {x:Nat} (nv:∀ k,k<L→x≠t k) (i:Nat):∀ d,i+d≤L→x∈(f (i+d)).heads→x∈(f i).heads
 | 0,_,h=>h
 | d+1,l,h=>by
  refine only_goes st nv i d (by omega) ?_
  rcases ((st (i+d) (by omega)).heads x).mp h with z | z
  ·exact z.1
  ·exact absurd z (nv (i+d) (by omega))
theorem only_comes {f:Nat→Dic} {s t:Nat→Nat} {L:Nat} (st:∀ k,k<L→StepZ (f k) (f (k+1)) (s k) (t k)) {x:Nat} (nv:∀ k,k<L→x≠s k) (i:Nat):∀ d,i+d≤L→x∈(f i).heads→x∈(f (i+d)).heads
 | 0,_,h=>h
 | d+1,l,h=>by
  have k:=only_comes st nv i d (by omega) h;exact ((st (i+d) (by omega)).heads x).mpr (.inl ⟨k,nv (i+d) (by omega)⟩)
theorem great (F:Nat→Nat):∀ L:Nat,0<L→∃ k,k<L∧∀ j,j<L→F j≤F k
 | 0,h=>absurd h (Nat.lt_irrefl _)
 | 1,_=>⟨0,by decide,fun j hj=>by rw [show j=0 by omega]; exact Nat.le_refl _⟩
 | L+2,_=>by
  obtain ⟨k,hk,m⟩:=great F (L+1) (by omega)
  by_cases h:F k≤F (L+1)
  ·refine ⟨L+1,by omega,fun j hj=>?_⟩
   by_cases e:j=L+1
   ·rw [e]; exact Nat.le_refl _
   ·exact Ba (m j (by omega)) h
  ·refine ⟨k,by omega,fun j hj=>?_⟩
   by_cases e:j=L+1
   ·rw [e]; omega
   ·exact m j (by omega)
theorem no_circle {f:Nat→Dic} {s t:Nat→Nat} {L:Nat} (L0:0<L) (st:∀ k,k<L→StepZ (f k) (f (k+1)) (s k) (t k)) (back:∀ x,x∈(f L).heads↔x∈(f 0).heads)
  (rel:∀ i j,i<L→j<L→∀ x∈(f i).heads,(f i).g x=(if x∈(f j).heads then (f j).g x else 0) - sumR ((f j).heads.filter fun c=>decide (c∈(f i).lines)) fun c=>(f j).g c*(f i).a c x)
  (corner:∀ i j,i<L→j<L→∀ c∈(f j).heads,c∈(f i).lines→(f i).b c=0):False:=by
 obtain ⟨k0,hk0,mx⟩:=great (fun k=>max (s k) (t k)) L L0;obtain ⟨T,hT⟩:∃ T,T=max (s k0) (t k0):=⟨_,rfl⟩;have ms:∀ j,j<L→s j≤T:=fun j hj=>by have:=mx j hj; have:max (s j) (t j)≤max (s k0) (t k0):=this; omega
 have mt:∀ j,j<L→t j≤T:=fun j hj=>by have:=mx j hj; have:max (s j) (t j)≤max (s k0) (t k0):=this; omega
 have cg:(∃ k,k<L∧s k=T)∧∃ k,k<L∧t k=T:=by
  have one:(∃ k,k<L∧s k=T)∨∃ k,k<L∧t k=T:=by
   by_cases e:s k0≤t k0
   ·exact .inr ⟨k0,hk0,by omega⟩
   ·exact .inl ⟨k0,hk0,by omega⟩
  rcases one with ⟨k,hk,e⟩ | ⟨k,hk,e⟩
  ·refine ⟨⟨k,hk,e⟩,Classical.byContradiction fun n=>?_⟩
   have nv:∀ j,j<L→T≠t j:=fun j hj z=>n ⟨j,hj,z.symm⟩
   have h0:T∈(f 0).heads:=by
    have z:=only_goes st nv 0 k (by omega) (by rw [Nat.zero_add,← e]; exact (st k hk).sh);exact z
   have hL:T∈(f (k+1)).heads:=by
    have z:=only_goes st nv (k+1) (L - (k+1)) (by omega) (by rw [show k+1+(L - (k+1))=L by omega]; exact (back T).mpr h0);exact z
   rcases ((st k hk).heads T).mp hL with z | z
   ·exact z.2 e.symm
   ·exact nv k hk z
  ·refine ⟨Classical.byContradiction fun n=>?_,⟨k,hk,e⟩⟩
   have nv:∀ j,j<L→T≠s j:=fun j hj z=>n ⟨j,hj,z.symm⟩
   have h1:T∈(f (k+1)).heads:=((st k hk).heads T).mpr (.inr e.symm);have hL:T∈(f L).heads:=by
    have z:=only_comes st nv (k+1) (L - (k+1)) (by omega) h1;rw [show k+1+(L - (k+1))=L by omega] at z;exact z
   have hk':T∈(f k).heads:=by
    have z:=only_comes st nv 0 k (by omega) ((back T).mp hL);rw [Nat.zero_add] at z;exact z
   exact (st k hk).apart T hk' (by rw [← e]; exact (st k hk).tl)
 obtain ⟨⟨j,hj,ej⟩,⟨i,hi,ei⟩⟩:=cg;have si:=st i hi;have sj:=st j hj;have ne:s i≠T:=by rw [← ei]; exact stepZ_ne si
 refine bland_core (C:=(f j).heads) (R:=(f i).lines) (g:=(f i).g) (h:=(f j).g) (a:=fun c=>(f i).a c (s i)) (b:=(f i).b) (s:=s i) (t:=T) (rel i j hi hj (s i) si.sh) si.gs (by have:=ms i hi; omega) (by rw [← ei]; exact si.ats) (by rw [← ej]; exact sj.gs) (fun c hc lt=>sj.leastS c hc (by omega)) (corner i j hi hj) (fun c hc h1 h2 h3=>si.leastT c hc h1 h2 (by omega)) fun c hc hl=>?_
 refine Classical.byContradiction fun n=>?_
 have nv:∀ k,k<L→c≠s k∧c≠t k:=fun k hk=>⟨fun z=>by have:=ms k hk; omega,fun z=>by have:=mt k hk; omega⟩
 have a1:=stays st nv j (by omega);have a2:=stays st nv i (by omega);exact si.apart c (a2.mpr (a1.mp hc)) hl
theorem xK {f g:Nat→Rat}:∀ {l:List Nat},(∀ c∈l,f c=g c)→sumR l f=sumR l g
 | [],_=>rfl
 | c::l,h=>by
  show f c+sumR l f=g c+sumR l g;rw [h c Am,xK fun d hd=>h d (List.mem_cons_of_mem _ hd)]
theorem sumR_add {f g:Nat→Rat}:∀ l:List Nat,sumR l (fun c=>f c+g c)=sumR l f+sumR l g
 | []=>by show (0:Rat)=0+0; grind
 | c::l=>by
  show f c+g c+sumR l (fun c=>f c+g c)=f c+sumR l f+(g c+sumR l g);rw [sumR_add l];grind
theorem sumR_mul {f:Nat→Rat} {a:Rat}:∀ l:List Nat,sumR l (fun c=>a*f c)=a*sumR l f
 | []=>by show (0:Rat)=a*0; grind
 | c::l=>by
  show a*f c+sumR l (fun c=>a*f c)=a*(f c+sumR l f);rw [sumR_mul l];grind
theorem sumR_zero {f:Nat→Rat} {l:List Nat} (h:∀ c∈l,f c=0):sumR l f=0:=by
 rw [xK (g:=fun _=>0*0) fun c hc=>by rw [h c hc]; grind,sumR_mul];grind
theorem sumR_only {f:Nat→Rat} {x:Nat}:∀ {l:List Nat},l.Nodup→x∈l→sumR l (fun c=>if c=x then f c else 0)=f x
 | [],_,h=>nomatch h
 | c::l,nd,h=>by
  obtain ⟨n1,n2⟩:=List.nodup_cons.mp nd;show (if c=x then f c else 0)+sumR l _=f x
  by_cases e:c=x
  ·subst e
   rw [if_pos rfl,sumR_zero fun d hd=>if_neg fun z=>n1 (by rw [← z]; exact hd)];grind
  ·rw [if_neg e,sumR_only n2 ((List.mem_cons.mp h).resolve_left fun z=>e z.symm)]
   grind
def linR (C:List Nat) (F:Nat→Nat→Rat) (one:Nat→Rat) (be:Rat) (ga:Nat→Rat) (c:Nat):Rat:=be*one c+sumR C fun h=>ga h*F h c
def Indep (C:List Nat) (F:Nat→Nat→Rat) (one:Nat→Rat):Prop:=∀ be be' ga ga',(∀ c,linR C F one be ga c=linR C F one be' ga' c)→be=be'∧∀ h∈C,ga h=ga' h
theorem linR_add {C:List Nat} {F:Nat→Nat→Rat} {one:Nat→Rat} {b1 b2:Rat} {g1 g2:Nat→Rat} {c:Nat}:linR C F one b1 g1 c+linR C F one b2 g2 c=linR C F one (b1+b2) (fun h=>g1 h+g2 h) c:=by
 unfold linR;rw [show sumR C (fun h=>(g1 h+g2 h)*F h c)=sumR C (fun h=>g1 h*F h c)+sumR C (fun h=>g2 h*F h c) by
  rw [← sumR_add];exact xK fun h _=>by grind]
 grind
theorem linR_mul {C:List Nat} {F:Nat→Nat→Rat} {one:Nat→Rat} {b1 a:Rat} {g1:Nat→Rat} {c:Nat}:a*linR C F one b1 g1 c=linR C F one (a*b1) (fun h=>a*g1 h) c:=by
 unfold linR;rw [show sumR C (fun h=>a*g1 h*F h c)=a*sumR C (fun h=>g1 h*F h c) by
  rw [← sumR_mul];exact xK fun h _=>by grind]
 grind
theorem linR_congr {C:List Nat} {F:Nat→Nat→Rat} {one:Nat→Rat} {b1 b2:Rat} {g1 g2:Nat→Rat} {c:Nat} (hb:b1=b2) (h:∀ x∈C,g1 x=g2 x):linR C F one b1 g1 c=linR C F one b2 g2 c:=by
 unfold linR;rw [hb,xK fun x hx=>by rw [h x hx]]
theorem expand {C R:List Nat} {F:Nat→Nat→Rat} {one:Nat→Rat} {b ga:Nat→Rat} {a:Nat→Nat→Rat} (ndC:C.Nodup) (apart:∀ x∈C,x∉R) (tells:∀ x∈R,∀ c,F x c=linR C F one (b x) (fun h => -a x h) c) (c:Nat) :
  ∀ l:List Nat,l.Nodup→(∀ x∈l,x∈C∨x∈R)→sumR l (fun x=>ga x*F x c)=linR C F one (sumR (l.filter fun x=>decide (x∈R)) fun x=>ga x*b x) (fun h=>(if h∈l then ga h else 0) - sumR (l.filter fun x=>decide (x∈R)) fun x=>ga x*a x h) c
 | [],_,_=>by
  unfold linR;rw [sumR_zero (l:=C) fun h _=>by show ((if h∈[] then ga h else 0) - (0:Rat))*F h c=0; rw [if_neg (List.not_mem_nil)]; grind];show (0:Rat)=0*one c+0;grind
 | x::l,nd,k=>by
  obtain ⟨n1,n2⟩:=List.nodup_cons.mp nd;have ih:=expand (ga:=ga) ndC apart tells c l n2 fun y hy=>k y (List.mem_cons_of_mem _ hy)
  show ga x*F x c+sumR l (fun x=>ga x*F x c)=_;rw [ih]
  rcases k x Am with hx | hx
  ·have xr:=apart x hx
   rw [List.filter_cons_of_neg (by simpa using xr)];have e:ga x*F x c=linR C F one 0 (fun h=>if h=x then ga h else 0) c:=by
    unfold linR;have z:=sumR_only (f:=fun h=>ga h*F h c) ndC hx;rw [← z];rw [show sumR C (fun h=>(if h=x then ga h else 0)*F h c)=sumR C (fun h=>if h=x then ga h*F h c else 0) from xK fun h _=>by split <;> grind];grind
   rw [e,linR_add];refine linR_congr (by grind) fun h hh=>?_
   by_cases hx2:h=x
   ·subst hx2
    rw [if_pos rfl,if_neg n1,if_pos Am];grind
   ·rw [if_neg hx2]
    by_cases hl:h∈l
    ·rw [if_pos hl,if_pos (List.mem_cons_of_mem _ hl)]
     grind
    ·rw [if_neg hl,if_neg fun z=>(List.mem_cons.mp z).elim hx2 hl]
     grind
  ·rw [List.filter_cons_of_pos (by simpa using hx),tells x hx c,linR_mul,linR_add]
   refine linR_congr rfl fun h hh=>?_
   have hx2:h≠x:=fun z=>apart h hh (by rw [z]; exact hx)
   have m:(if h∈x::l then ga h else 0)=if h∈l then ga h else 0:=by
    by_cases hl:h∈l
    ·rw [if_pos hl,if_pos (List.mem_cons_of_mem _ hl)]
    ·rw [if_neg hl,if_neg fun z=>(List.mem_cons.mp z).elim hx2 hl]
   rw [m];show ga x * -a x h+((if h∈l then ga h else 0) - sumR (l.filter fun x=>decide (x∈R)) fun x=>ga x*a x h)=(if h∈l then ga h else 0) - (ga x*a x h+sumR (l.filter fun x=>decide (x∈R)) fun x=>ga x*a x h);grind
theorem rel_of {C C' R:List Nat} {F:Nat→Nat→Rat} {one z:Nat→Rat} {b g g':Nat→Rat} {v v':Rat} {a:Nat→Nat→Rat} (ndC:C.Nodup) (nd':C'.Nodup) (ind:Indep C F one) (apart:∀ x∈C,x∉R) (tells:∀ x∈R,∀ c,F x c=linR C F one (b x) (fun h => -a x h) c) (all:∀ x∈C',x∈C∨x∈R)
  (hz:∀ c,z c=linR C F one v (fun h => -g h) c) (hz':∀ c,z c=linR C' F one v' (fun h => -g' h) c) :
  v=v' - sumR (C'.filter fun x=>decide (x∈R)) (fun x=>g' x*b x)∧∀ s∈C,g s=(if s∈C' then g' s else 0) - sumR (C'.filter fun x=>decide (x∈R)) fun x=>g' x*a x s:=by
 have e:=ind v (v'+sumR (C'.filter fun x=>decide (x∈R)) fun x => -g' x*b x) (fun h => -g h) (fun h=>(if h∈C' then -g' h else 0) - sumR (C'.filter fun x=>decide (x∈R)) fun x => -g' x*a x h) fun c=>by
  rw [← hz c,hz' c];have x:=expand (ga:=fun h => -g' h) ndC apart tells c C' nd' all;unfold linR at x ⊢;rw [x];grind
 have neg:∀ (l:List Nat) (f k:Nat→Rat),sumR l (fun x => -f x*k x) = -sumR l fun x=>f x*k x:=fun l f k=>by
  have:=sumR_mul (f:=fun x=>f x*k x) (a := -1) l;rw [show sumR l (fun x => -f x*k x)=sumR l (fun c => -1*(f c*k c)) from xK fun x _=>by grind,this];grind
 refine ⟨by rw [e.1,neg]; grind,fun s hs=>?_⟩;have k:=e.2 s hs;rw [neg] at k
 by_cases m:s∈C'
 ·rw [if_pos m] at k ⊢
  grind
 ·rw [if_neg m] at k ⊢
  grind
end BP
namespace BP
def sumQ:Nat→(Nat→Rat)→Rat
 | 0,_=>0
 | n+1,f=>sumQ n f+f n
theorem j8 {f g:Nat→Rat}:∀ n:Nat,(∀ i,i<n→f i=g i)→sumQ n f=sumQ n g
 | 0,_=>rfl
 | n+1,h=>by
  show sumQ n f+f n=sumQ n g+g n;rw [j8 n fun i hi=>h i (by omega),h n (by omega)]
theorem Vq (f:Nat→Int):∀ n:Nat,((sumTo n f:Int):Rat)=sumQ n fun k=>(f k:Rat)
 | 0=>rfl
 | n+1=>by
  show ((sumTo n f+f n:Int):Rat)=sumQ n _+(f n:Rat);rw [Rat.intCast_add,Vq f n]
theorem vV {f:Nat→Rat} {a:Rat}:∀ n:Nat,sumQ n (fun k=>a*f k)=a*sumQ n f
 | 0=>by show (0:Rat)=a*0; grind
 | n+1=>by
  show sumQ n (fun k=>a*f k)+a*f n=a*(sumQ n f+f n);rw [vV n];grind
theorem sumQ_sub {f g:Nat→Rat}:∀ n:Nat,sumQ n (fun k=>f k - g k)=sumQ n f - sumQ n g
 | 0=>by show (0:Rat)=0 - 0; grind
 | n+1=>by
  show sumQ n (fun k=>f k - g k)+(f n - g n)=sumQ n f+f n - (sumQ n g+g n);rw [sumQ_sub n];grind
theorem sumQ_first (f:Nat→Rat):∀ n:Nat,sumQ (n+1) f=f 0+sumQ n fun k=>f (k+1)
 | 0=>by show (0:Rat)+f 0=f 0+0; grind
 | n+1=>by
  show sumQ (n+1) f+f (n+1)=f 0+(sumQ n (fun k=>f (k+1))+f (n+1));rw [sumQ_first f n];grind
theorem sumR_idx (f:Nat→Rat):∀ C:List Nat,sumR C f=sumQ C.length fun k=>f (C.getD k 0)
 | []=>rfl
 | c::C=>by
  show f c+sumR C f=sumQ (C.length+1) _;rw [sumQ_first,sumR_idx f C];rfl
theorem one_bot (r:Nat→Rat):∀ N:Nat,∃ (M:Int) (al:Nat→Int),0<M∧∀ k,k<N→(al k:Rat)=r k*(M:Rat)
 | 0=>⟨1,fun _=>0,by decide,fun k hk=>absurd hk (Az _)⟩
 | N+1=>by
  obtain ⟨M,al,hM,h⟩:=one_bot r N;have dp:(0:Int)<((r N).den:Int):=by have:=(r N).den_pos; omega
  refine ⟨M*((r N).den:Int),fun k=>if k=N then (r N).num*M else al k*((r N).den:Int),Int.mul_pos hM dp,fun k hk=>?_⟩
  by_cases e:k=N
  ·subst e
   dsimp only;rw [if_pos rfl,Ay,Ay];have z:((r k).num:Rat)=r k*(((r k).den:Int):Rat):=by
    have d:(((r k).den:Int):Rat)≠0:=by
     intro z;have:=Rat.intCast_inj.mp (show (((r k).den:Int):Rat)=((0:Int):Rat) from z);omega
    have y:=Aq (r k);rw [As] at y;have y2:((r k).num:Rat)/(((r k).den:Int):Rat)*(((r k).den:Int):Rat)=((r k).num:Rat):=Rat.div_mul_cancel d;rw [y] at y2;exact y2.symm
   rw [z];grind
  ·dsimp only
   rw [if_neg e,Ay,Ay,h k (by omega)];grind
theorem indep_of {C:List Nat} {F:Vecs} {one:Nat→Int} {H:Vecs} (hH:∀ k,k<C.length→H k=F (C.getD k 0)) (h1:H C.length=one) (d0:det (C.length+1) H≠0):Indep C (fun x c=>(F x c:Rat)) fun c=>(one c:Rat):=by
 intro be be' ga ga' eq;obtain ⟨r,hr⟩:∃ r:Nat→Rat,r=fun k=>if k=C.length then be - be' else ga (C.getD k 0) - ga' (C.getD k 0):=⟨_,rfl⟩
 obtain ⟨M,al,hM,h⟩:=one_bot r (C.length+1);have M0:(M:Rat)≠0:=fun z=>by
  have:=Rat.intCast_inj.mp (show (M:Rat)=((0:Int):Rat) from z);omega
 have key:∀ c,(sumTo (C.length+1) fun k=>al k*H k c)=sumTo (C.length+1) fun k=>0*H k c:=fun c=>by
  rw [show (sumTo (C.length+1) fun k=>0*H k c)=0 from vK _ fun i _=>Int.zero_mul _];have e:=eq c;unfold linR at e;rw [sumR_idx,sumR_idx] at e;refine Rat.intCast_inj.mp ?_;rw [Vq];show sumQ C.length _+((al C.length*H C.length c:Int):Rat)=((0:Int):Rat);rw [Ay,h C.length (by omega),h1];have rn:r C.length=be - be':=by rw [hr]; exact if_pos rfl
  have s:sumQ C.length (fun k=>((al k*H k c:Int):Rat))=(M:Rat)*(sumQ C.length (fun k=>ga (C.getD k 0)*(F (C.getD k 0) c:Rat)) - sumQ C.length fun k=>ga' (C.getD k 0)*(F (C.getD k 0) c:Rat)):=by
   rw [← sumQ_sub,← vV];refine j8 _ fun k hk=>?_
   rw [Ay,h k (by omega),hH k hk,hr];dsimp only;rw [if_neg (by omega)];grind
  rw [s,rn];show _=(0:Rat);grind
 have z:=told_once d0 key;have rz:∀ k,k<C.length+1→r k=0:=fun k hk=>by
  have a:=h k hk;rw [z k hk] at a;have a:(0:Rat)=r k*(M:Rat):=a
  rcases Rat.mul_eq_zero.mp a.symm with y | y
  ·exact y
  ·exact absurd y M0
 refine ⟨?_,fun x hx=>?_⟩
 ·have y:=rz C.length (by omega)
  rw [hr] at y;dsimp only at y;rw [if_pos rfl] at y;grind
 ·obtain ⟨k,hk,e⟩:=List.getElem_of_mem hx
  have y:=rz k (by omega);rw [hr] at y;dsimp only at y;have e2:C.getD k 0=x:=by rw [List.getD,A7 hk,e]; rfl
  rw [if_neg (by omega),e2] at y;grind
end BP
namespace BP
def cornD (D:Dic) (x:Nat):Rat:=if x∈D.lines then D.b x else 0
structure StepB (D E:Dic) (s t:Nat):Prop where
 z:StepZ D E s t
 bt:D.b t=0
 lines:∀ x,x∈E.lines↔((x∈D.lines∧x≠t)∨x=s)
 bs:E.b s=D.b t/D.a t s
 br:∀ r∈D.lines,r≠t→E.b r=D.b r - D.a r s*(D.b t/D.a t s)
theorem cornD_step {D E:Dic} {s t:Nat} (h:StepB D E s t) (x:Nat):cornD E x=cornD D x:=by
 have d0:D.b t/D.a t s=0:=by rw [h.bt,Bb,Rat.zero_mul]
 unfold cornD
 by_cases xs:x=s
 ·subst xs
  rw [if_pos ((h.lines x).mpr (.inr rfl)),if_neg (h.z.apart x h.z.sh),h.bs,d0]
 ·by_cases xt:x=t
  ·subst xt
   rw [if_neg (fun k=>((h.lines x).mp k).elim (fun y=>y.2 rfl) xs),if_pos h.z.tl,h.bt]
  ·by_cases xl:x∈D.lines
   ·rw [if_pos ((h.lines x).mpr (.inl ⟨xl,xt⟩)),if_pos xl,h.br x xl xt,d0,Rat.mul_zero]
    grind
   ·rw [if_neg xl,if_neg (fun k=>((h.lines x).mp k).elim (fun y=>xl y.1) xs)]
theorem cornD_all {f:Nat→Dic} {s t:Nat→Nat} {L:Nat} (st:∀ k,k<L→StepB (f k) (f (k+1)) (s k) (t k)) (x:Nat):∀ k,k≤L→cornD (f k) x=cornD (f 0) x
 | 0,_=>rfl
 | k+1,h=>(cornD_step (st k (by omega)) x).trans (cornD_all st x k (by omega))
theorem corner_of {f:Nat→Dic} {s t:Nat→Nat} {L:Nat} (st:∀ k,k<L→StepB (f k) (f (k+1)) (s k) (t k)):∀ i j,i<L→j<L→∀ c∈(f j).heads,c∈(f i).lines→(f i).b c=0:=fun i j hi hj c hc hl=>by
 have a:=cornD_all st c i (by omega);have b:=cornD_all st c j (by omega);have e:cornD (f j) c=0:=if_neg ((st j hj).z.apart c hc);have e2:cornD (f i) c=(f i).b c:=if_pos hl;rw [← e2,a,← b,e]
theorem no_return {f:Nat→Dic} {s t:Nat→Nat} {v:Nat→Rat} {L:Nat} (L0:0<L) (up:∀ k,k<L→v k<v (k+1)∨(v (k+1)=v k∧StepB (f k) (f (k+1)) (s k) (t k))) (back:∀ x,x∈(f L).heads↔x∈(f 0).heads) (vL:v L=v 0)
  (rel:∀ i j,i<L→j<L→∀ x∈(f i).heads,(f i).g x=(if x∈(f j).heads then (f j).g x else 0) - sumR ((f j).heads.filter fun c=>decide (c∈(f i).lines)) fun c=>(f j).g c*(f i).a c x):False:=by
 have mono:∀ i d,i+d≤L→v i≤v (i+d):=fun i d=>by
  induction d with
  | zero=>intro _; exact Rat.le_refl
  | succ d ih =>
   intro h;have a:=ih (by omega);have b:v (i+d)≤v (i+(d+1)):=by
    rcases up (i+d) (by omega) with z | z
    ·exact Rat.le_of_lt z
    ·have:v (i+d+1)=v (i+d):=z.1
     show v (i+d)≤v (i+d+1);rw [this];exact Rat.le_refl
   exact Rat.le_trans a b
 have st:∀ k,k<L→StepB (f k) (f (k+1)) (s k) (t k):=fun k hk=>by
  rcases up k hk with z | z
  ·exfalso
   have a:=mono 0 k (by omega);rw [Nat.zero_add] at a;have b:=mono (k+1) (L - (k+1)) (by omega);rw [show k+1+(L - (k+1))=L by omega,vL] at b;have c:=Rat.le_trans b a;exact (Rat.not_lt.mpr c) z
  ·exact z.2
 exact no_circle L0 (fun k hk=>(st k hk).z) back rel (corner_of st)
end BP
namespace BP
theorem nodup_le:∀ (M:Nat) (l:List Nat),l.Nodup→(∀ x∈l,x<M)→l.length≤M
 | 0,l,_,h=>by
  cases l with
  | nil=>exact Nat.le_refl _
  | cons x l=>exact absurd (h x Am) (Az _)
 | M+1,l,nd,h=>by
  have k:=nodup_le M (l.erase M) (nd.erase M) fun x hx=>by
   have y:=(nd.mem_erase_iff).mp hx;have:=h x y.2;have:=y.1;omega
  by_cases m:M∈l
  ·rw [List.length_erase_of_mem m] at k
   omega
  ·rw [List.erase_of_not_mem m] at k
   omega
def numL (K:Nat):List Nat→Nat
 | []=>0
 | d::l=>d+K*numL K l
theorem numL_lt {K:Nat}:∀ {l:List Nat},(∀ d∈l,d<K)→numL K l<K^l.length
 | [],_=>by show 0<K^0; rw [Nat.pow_zero]; decide
 | d::l,h=>by
  have a:=numL_lt fun x hx=>h x (List.mem_cons_of_mem _ hx)
  have b:=h d Am;show d+K*numL K l<K^(l.length+1);rw [Nat.pow_succ];have c:K*(numL K l+1)≤K*K^l.length:=Nat.mul_le_mul_left K a;rw [Nat.mul_add,Nat.mul_one] at c;rw [Nat.mul_comm (K^l.length) K];omega
theorem numL_inj {K:Nat}:∀ {l m:List Nat},l.length=m.length→(∀ d∈l,d<K)→(∀ d∈m,d<K)→numL K l=numL K m→l=m
 | [],[],_,_,_,_=>rfl
 | [],_::_,h,_,_,_=>by cases h
 | _::_,[],h,_,_,_=>by cases h
 | d::l,e::m,h,hl,hm,z=>by
  have d1:=hl d Am;have e1:=hm e Am;have z:d+K*numL K l=e+K*numL K m:=z;have de:d=e:=by
   have a:=congrArg (·%K) z
   simp only [Nat.add_mul_mod_self_left,Nat.mod_eq_of_lt d1,Nat.mod_eq_of_lt e1] at a
   exact a
  subst de;have k:K*numL K l=K*numL K m:=by omega
  have k:=Nat.eq_of_mul_eq_mul_left (by omega) k;rw [numL_inj (by simpa using h) (fun x hx=>hl x (List.mem_cons_of_mem _ hx)) (fun x hx=>hm x (List.mem_cons_of_mem _ hx)) k]
theorem lists_le {K n:Nat} {V:List (List Nat)} (nd:V.Nodup) (h:∀ l∈V,l.length=n∧∀ d∈l,d<K):V.length≤K^n:=by
 have e:(V.map (numL K)).Nodup:=by
  refine List.pairwise_map.mpr (List.Pairwise.imp_of_mem (fun {l m} hl hm ne z=>?_) nd);exact ne (numL_inj ((h l hl).1.trans (h m hm).1.symm) (h l hl).2 (h m hm).2 z)
 have k:=nodup_le (K^n) (V.map (numL K)) e fun x hx=>by
  obtain ⟨l,hl,rfl⟩:=List.mem_map.mp hx;have a:=numL_lt (h l hl).2;rw [(h l hl).1] at a;exact a
 rwa [Av] at k
end BP
namespace BP
def hvG (F:Vecs) (m:Nat) (Hd:Nat→Nat):Vecs:=fun k=>if k<m then F (Hd k) else unitV m
def nuG (F:Vecs) (m:Nat) (Hd:Nat→Nat) (e:Int) (z:Nat→Int) (k:Nat):Int:=e*det (m+1) (setV (hvG F m Hd) k z)
def botG (F:Vecs) (m:Nat) (Hd:Nat→Nat) (e:Int):Int:=e*det (m+1) (hvG F m Hd)
def SuppG (m:Nat) (z:Nat→Int):Prop:=∀ c,m+1≤c→z c=0
structure GhoOk (F:Vecs) (m:Nat) (Hd:Nat→Nat) (e:Int):Prop where
 e1:e=1∨e = -1
 pos:0<botG F m Hd e
 inj:∀ i j,i<m→j<m→Hd i=Hd j→i=j
 all:∀ z,SuppG m z→∀ c,botG F m Hd e*z c=sumTo (m+1) fun k=>nuG F m Hd e z k*hvG F m Hd k c
section
variable {F:Vecs} {m:Nat} {Hd:Nat→Nat} {e:Int}
theorem GhoOk.row (h:GhoOk F m Hd e) {z:Nat→Int} (s:SuppG m z):RowD (m+1) (hvG F m Hd) e (botG F m Hd e) z (nuG F m Hd e z):=⟨fun _ _=>rfl,h.all z s⟩
theorem JK:hvG F m Hd m=unitV m:=if_neg (Nat.lt_irrefl _)
theorem Jz {k:Nat} (h:k<m):hvG F m Hd k=F (Hd k):=if_pos h
theorem nu_self {k:Nat}:nuG F m Hd e (hvG F m Hd k) k=botG F m Hd e:=by
 unfold nuG botG;rw [Z4]
theorem nu_other {k j:Nat} (hk:k<m+1) (hj:j<m+1) (ne:j≠k):nuG F m Hd e (hvG F m Hd j) k=0:=by
 unfold nuG;have w:setV (hvG F m Hd) k (hvG F m Hd j)=setV (setV (hvG F m Hd) j (hvG F m Hd j)) k (hvG F m Hd j):=by rw [Z4]
 rw [w,det_twice ne hj hk,Int.mul_zero]
theorem nu_lin {k:Nat} (hk:k<m+1) {a b:Int} {u v:Nat→Int}:nuG F m Hd e (fun c=>a*u c+b*v c) k=a*nuG F m Hd e u k+b*nuG F m Hd e v k:=by
 unfold nuG;rw [det_lin _ hk];grind
theorem supp_sum {z:Nat→Int} (s:SuppG m z):z=fun c=>sumTo (m+1) fun j=>z j*unitV j c:=by
 funext c
 by_cases h:c<m+1
 ·rw [xk (q:=c) (m+1) h,vK (m+1) fun i _=>by split; rfl; rw [show unitV i c=0 by unfold unitV; rw [if_neg (by omega)],Int.mul_zero]]
  rw [show unitV c c=1 by unfold unitV; rw [if_pos rfl]];omega
 ·rw [s c (by omega),vK (m+1) fun i hi=>by rw [show unitV i c=0 by unfold unitV; rw [if_neg (by omega)],Int.mul_zero]]
theorem nu_sum {k:Nat} (hk:k<m+1) {z:Nat→Int} (s:SuppG m z):nuG F m Hd e z k=sumTo (m+1) fun j=>z j*nuG F m Hd e (unitV j) k:=by
 have d:=det_sum (n:=m+1) (B:=hvG F m Hd) (i:=k) (a:=z) (u:=unitV) hk (m+1);rw [← supp_sum s] at d;unfold nuG;rw [d,sumTo_mul];exact xX _ fun i _=>by rw [← Int.mul_assoc,← Int.mul_assoc,Int.mul_comm e]
theorem gho_first {r:Nat} (hF:∀ k,k<m→F (r+k)=unitV k):GhoOk F m (fun k=>r+k) 1:=by
 have hH:∀ k,k<m+1→hvG F m (fun k=>r+k) k=unitV k:=fun k hk=>by
  by_cases h:k<m
  ·rw [Jz h,hF k h]
  ·rw [show k=m by omega,JK]
 have d:∀ {B C:Vecs},(∀ i,i<m+1→B i=C i)→det (m+1) B=det (m+1) C:=fun h=>J2 _ fun i hi c _=>by rw [h i hi]
 have b1:botG F m (fun k=>r+k) 1=1:=by unfold botG; rw [d hH,det_unit]; rfl
 refine ⟨.inl rfl,by rw [b1]; decide,fun i j _ _ h=>by have h:r+i=r+j:=h; omega,fun z s c=>?_⟩;have q:=row_first (N:=m+1) (y:=z) s;rw [b1,q.tells c];refine xX _ fun k hk=>?_
 rw [q.num k hk,hH k hk];unfold nuG;rw [d (B:=setV (hvG F m fun k=>r+k) k z) (C:=setV unitV k z) fun i hi=>by unfold setV; split; rfl; exact hH i hi]
theorem nu_first {r:Nat} (hF:∀ k,k<m→F (r+k)=unitV k) {z:Nat→Int} (s:SuppG m z) {k:Nat} (hk:k<m+1):nuG F m (fun k=>r+k) 1 z k=z k:=by
 have hH:∀ k,k<m+1→hvG F m (fun k=>r+k) k=unitV k:=fun k hk=>by
  by_cases h:k<m
  ·rw [Jz h,hF k h]
  ·rw [show k=m by omega,JK]
 have q:=(row_first (N:=m+1) (y:=z) s).num k hk;rw [q];unfold nuG;rw [J2 (C:=setV unitV k z) _ fun i hi c _=>by unfold setV; split; rfl; rw [hH i hi]]
theorem bot_first {r:Nat} (hF:∀ k,k<m→F (r+k)=unitV k):botG F m (fun k=>r+k) 1=1:=by
 unfold botG;rw [J2 (C:=unitV) _ fun i hi c _=>?_,det_unit]
 ·rfl
 ·by_cases h:i<m
  ·rw [Jz h,hF i h]
  ·rw [show i=m by omega,JK]
def setF (Hd:Nat→Nat) (q x:Nat):Nat→Nat:=fun k=>if k=q then x else Hd k
theorem hvG_set {q x:Nat} (hq:q<m):hvG F m (setF Hd q x)=setV (hvG F m Hd) q (F x):=by
 funext k
 unfold hvG setF setV
 by_cases h:k=q
 ·subst h
  rw [if_pos hq,if_pos rfl,if_pos rfl]
 ·rw [if_neg h,if_neg h]
theorem gho_exch (h:GhoOk F m Hd e) {q x:Nat} (hq:q<m) (sx:SuppG m (F x)) (nx:∀ k,k<m→Hd k≠x) {tau:Int} (ht:tau=1∨tau = -1) (p:0<tau*nuG F m Hd e (F x) q) :
  GhoOk F m (setF Hd q x) (tau*e)∧botG F m (setF Hd q x) (tau*e)=tau*nuG F m Hd e (F x) q ∧
  (∀ z,SuppG m z→nuG F m (setF Hd q x) (tau*e) z q=tau*nuG F m Hd e z q∧∀ k,k<m+1→k≠q→botG F m Hd e*nuG F m (setF Hd q x) (tau*e) z k=tau*(nuG F m Hd e (F x) q*nuG F m Hd e z k - nuG F m Hd e (F x) k*nuG F m Hd e z q)) ∧
  (nuG F m (setF Hd q x) (tau*e) (F (Hd q)) q=tau*botG F m Hd e∧∀ k,k<m+1→k≠q→nuG F m (setF Hd q x) (tau*e) (F (Hd q)) k = -(tau*nuG F m Hd e (F x) k)):=by
 have hb:botG F m Hd e=e*det (m+1) (hvG F m Hd):=rfl;have q1:q<m+1:=by omega
 have X:=h.row sx;have ne:botG F m Hd e≠0:=by have:=h.pos; omega
 have hv:=hvG_set (F:=F) (Hd:=Hd) (x:=x) hq;have bo:botG F m (setF Hd q x) (tau*e)=tau*nuG F m Hd e (F x) q:=by
  unfold botG nuG;rw [hv,Int.mul_assoc]
 have key:∀ z,SuppG m z→RowD (m+1) (hvG F m (setF Hd q x)) (tau*e) (botG F m (setF Hd q x) (tau*e)) z (nuG F m (setF Hd q x) (tau*e) z)∧nuG F m (setF Hd q x) (tau*e) z q=tau*nuG F m Hd e z q∧∀ k,k<m+1→k≠q→botG F m Hd e*nuG F m (setF Hd q x) (tau*e) z k=tau*(nuG F m Hd e (F x) q*nuG F m Hd e z k - nuG F m Hd e (F x) k*nuG F m Hd e z q):=fun z sz=>by
  obtain ⟨_,a',w1,w2,w3⟩:=row_exchange (tau:=tau) h.e1 ht hb ne q1 X (h.row sz);have en:∀ k,k<m+1→nuG F m (setF Hd q x) (tau*e) z k=a' k:=fun k hk=>by
   rw [w3.num k hk];unfold nuG;rw [hv]
  refine ⟨⟨fun _ _=>rfl,fun c=>?_⟩,by rw [en q q1,w2],fun k hk kq=>by rw [en k hk,w1 k hk kq]⟩;rw [bo,hv,w3.tells c];exact xX _ fun k hk=>by rw [en k hk]
 refine ⟨⟨?_,by rw [bo]; exact p,fun i j hi hj z=>?_,fun z sz=>(key z sz).1.tells⟩,bo,fun z sz=>(key z sz).2,?_⟩
 ·rcases ht with z | z <;> rcases h.e1 with y | y <;> rw [z,y] <;> decide
 ·unfold setF at z
  by_cases i1:i=q <;> by_cases j1:j=q
  ·omega
  ·rw [if_pos i1,if_neg j1] at z
   exact absurd z.symm (nx j hj)
  ·rw [if_neg i1,if_pos j1] at z
   exact absurd z (nx i hi)
  ·rw [if_neg i1,if_neg j1] at z
   exact h.inj i j hi hj z
 ·have t:=row_turned (tau:=tau) hb q1 X
  have e1:hvG F m Hd q=F (Hd q):=Jz hq;rw [e1] at t;have tn:∀ k,k<m+1→nuG F m (setF Hd q x) (tau*e) (F (Hd q)) k=if k=q then tau*botG F m Hd e else -(tau*nuG F m Hd e (F x) k):=fun k hk=>by
   have z:=t.num k hk;rw [z];unfold nuG;rw [hv]
  exact ⟨by rw [tn q q1,if_pos rfl],fun k hk kq=>by rw [tn k hk,if_neg kq]⟩
theorem nu_le {M:Nat} (e1:e=1∨e = -1) (M1:1≤M) (hM:∀ k,k<m→∀ c,c<m+1→(F (Hd k) c).natAbs≤M) {z:Nat→Int} (hz:∀ c,c<m+1→(z c).natAbs≤M) (k:Nat):(nuG F m Hd e z k).natAbs≤facN (m+1)*M^(m+1):=by
 unfold nuG;rw [B4,show e.natAbs=1 by rcases e1 with y | y <;> rw [y] <;> rfl,Nat.one_mul];refine det_le _ fun i hi c hc=>?_
 unfold setV
 split
 ·exact hz c hc
 ·unfold hvG
  split
  ·rename_i h; exact hM i h c hc
  ·unfold unitV
   split
   ·exact M1
   ·exact Nat.zero_le _
theorem bot_le {M:Nat} (e1:e=1∨e = -1) (M1:1≤M) (hM:∀ k,k<m→∀ c,c<m+1→(F (Hd k) c).natAbs≤M):(botG F m Hd e).natAbs≤facN (m+1)*M^(m+1):=by
 have k:=nu_le (F:=F) (Hd:=Hd) e1 M1 hM (z:=unitV m) (fun c _=>by unfold unitV; split; exact M1; exact Nat.zero_le _) m;have w:nuG F m Hd e (unitV m) m=botG F m Hd e:=by rw [← JK (F:=F) (Hd:=Hd)]; exact nu_self
 rwa [w] at k
end
end BP
namespace BP
set_option genInjectivity false in
set_option genSizeOf false in
structure Tab where
 rooms:Nat
 bot:Int
 lines:List (List Int)
 names:List Nat
 heads:List Nat
 goal:List Int
 guide:List Int
def lineG (m:Nat) (act:List Nat) (a:Nat→Int):List Int:=act.map (fun k => -a k)++[a m]
structure TabI (F:Vecs) (m:Nat) (G Gd:Nat→Int) (t:Tab) (Hd:Nat→Nat) (act:List Nat) (e:Int):Prop where
 gh:GhoOk F m Hd e
 bot:t.bot=botG F m Hd e
 lt:∀ k∈act,k<m
 nda:act.Nodup
 heads:t.heads=act.map Hd
 lines:t.lines=t.names.map fun x=>lineG m act (nuG F m Hd e (F x))
 goal:t.goal=lineG m act (nuG F m Hd e G)
 guide:t.guide=lineG m act (nuG F m Hd e Gd)
 nd:t.names.Nodup
 apart:∀ x∈t.names,∀ k,k<m→Hd k≠x
 sF:∀ x,SuppG m (F x)
 sG:SuppG m G
 sGd:SuppG m Gd
def zV (l th:List Int) (c:Nat) (bot sg:Int):List Int:=(List.zipWith (fun n o=>(n*th.getD c 0 - l.getD c 0*o).fdiv bot) l th).set c (-(l.getD c 0)*sg)
def sgL (l:List Int) (c:Nat):Int:=if l.getD c 0>0 then 1 else -1
def thL (l:List Int) (c:Nat):List Int:=l.map (·*sgL l c)
def exch (t:Tab) (i c:Nat):Tab :=
 { rooms:=t.rooms,bot:=(thL (t.lines.getD i []) c).getD c 0,lines:=(t.lines.map fun o=>zV o (thL (t.lines.getD i []) c) c t.bot (sgL (t.lines.getD i []) c)).set i ((thL (t.lines.getD i []) c).set c (t.bot*sgL (t.lines.getD i []) c)),names:=t.names.set i (t.heads.getD c 0),heads:=t.heads.set c (t.names.getD i 0),goal:=zV t.goal (thL (t.lines.getD i []) c) c t.bot (sgL (t.lines.getD i []) c),guide:=zV t.guide (thL (t.lines.getD i []) c) c t.bot (sgL (t.lines.getD i []) c) }
section
variable {F:Vecs} {m:Nat} {G Gd:Nat→Int} {t:Tab} {Hd:Nat→Nat} {act:List Nat} {e:Int}
theorem Z8 (a:Nat→Int):(lineG m act a).length=act.length+1:=by unfold lineG; rw [Ak,Av]; rfl
theorem xx {a:Nat→Int} {j k:Nat} (h:act[j]?=some k):(lineG m act a)[j]?=some (-a k):=by
 unfold lineG;have hj:=(A3.mp h).1;rw [A4 (by rw [Av]; exact hj),List.getElem?_map,h];rfl
theorem ZX {a:Nat→Int}:(lineG m act a)[act.length]?=some (a m):=by
 unfold lineG;rw [A2 (by rw [Av]; exact Nat.le_refl _),Av,Nat.sub_self];rfl
theorem qZ {α:Type} {l:List α} {i:Nat} {d x:α} (h:l[i]?=some x):l.getD i d=x:=by rw [A1,h]; rfl
theorem Vy {l:List Nat} (nd:l.Nodup) {i j x:Nat} (h1:l[i]?=some x) (h2:l[j]?=some x):i=j:=by
 obtain ⟨a,ea⟩:=A3.mp h1;obtain ⟨b,eb⟩:=A3.mp h2;have base:=List.pairwise_iff_getElem.mp nd
 rcases Nat.lt_trichotomy i j with z | z | z
 ·exact absurd (ea.trans eb.symm) (base i j a b z)
 ·exact z
 ·exact absurd (eb.trans ea.symm) (base j i b a z)
theorem sgL_one (l:List Int) (c:Nat):sgL l c=1∨sgL l c = -1:=by unfold sgL; split <;> simp
theorem exLine_G (h:GhoOk F m Hd e) (lt:∀ k∈act,k<m) (nda:act.Nodup) {x q c:Nat} (hc:act[c]?=some q) (sx:SuppG m (F x)) (nx:∀ k,k<m→Hd k≠x) (n0:nuG F m Hd e (F x) q≠0) {z:Nat→Int} (sz:SuppG m z) :
  zV (lineG m act (nuG F m Hd e z)) (thL (lineG m act (nuG F m Hd e (F x))) c) c (botG F m Hd e) (sgL (lineG m act (nuG F m Hd e (F x))) c)=lineG m act (nuG F m (setF Hd q x) (-sgL (lineG m act (nuG F m Hd e (F x))) c*e) z) ∧
  (thL (lineG m act (nuG F m Hd e (F x))) c).getD c 0=botG F m (setF Hd q x) (-sgL (lineG m act (nuG F m Hd e (F x))) c*e) ∧
  (thL (lineG m act (nuG F m Hd e (F x))) c).set c (botG F m Hd e*sgL (lineG m act (nuG F m Hd e (F x))) c)=lineG m act (nuG F m (setF Hd q x) (-sgL (lineG m act (nuG F m Hd e (F x))) c*e) (F (Hd q))) ∧
  GhoOk F m (setF Hd q x) (-sgL (lineG m act (nuG F m Hd e (F x))) c*e):=by
 have hq:q<m:=lt q (Af hc);have lc:(lineG m act (nuG F m Hd e (F x))).getD c 0 = -nuG F m Hd e (F x) q:=qZ (xx hc);have cz:∀ z:Nat→Int,(lineG m act (nuG F m Hd e z)).getD c 0 = -nuG F m Hd e z q:=fun z=>qZ (xx hc)
 obtain ⟨sg,hsg⟩:∃ sg,sg=sgL (lineG m act (nuG F m Hd e (F x))) c:=⟨_,rfl⟩;have tp:0 < -sg*nuG F m Hd e (F x) q:=by
  rw [hsg];unfold sgL;rw [lc]
  split
  ·omega
  ·omega
 have th:∀ j,(thL (lineG m act (nuG F m Hd e (F x))) c)[j]?=((lineG m act (nuG F m Hd e (F x)))[j]?).map (·*sg):=fun j=>by
  unfold thL;rw [List.getElem?_map,← hsg]
 have one : -sg=1 ∨ -sg = -1:=by rcases sgL_one (lineG m act (nuG F m Hd e (F x))) c with y | y <;> rw [hsg,y] <;> decide
 have E:=gho_exch h hq sx nx one tp;have thc:(thL (lineG m act (nuG F m Hd e (F x))) c).getD c 0 = -nuG F m Hd e (F x) q*sg:=by
  refine qZ ?_;rw [th,xx hc];rfl
 rw [← hsg];have bne:botG F m Hd e≠0:=by have:=h.pos; omega
 have exact_:∀ k,k<m+1→k≠q→∀ y:Int,y=botG F m Hd e*nuG F m (setF Hd q x) (-sg*e) z k→y.fdiv (botG F m Hd e)=nuG F m (setF Hd q x) (-sg*e) z k:=fun k _ _ y hy=>by rw [hy]; exact A6 _ bne
 refine ⟨?_,?_,?_,E.1⟩
 ·apply List.ext_getElem?
  intro j;unfold zV;rw [thc,cz]
  by_cases jc:j=c
  ·subst jc
   have hj:=(A3.mp hc).1;rw [Aa (by rw [List.length_zipWith,Z8]; unfold thL; rw [Av,Z8]; omega),xx hc,(E.2.2.1 z sz).1]
   congr 1
   grind
  ·rw [Aj (Ne.symm jc),List.getElem?_zipWith,th]
   by_cases jl:j<act.length
   ·obtain ⟨k,hk⟩:∃ k,act[j]?=some k:=⟨_,A7 jl⟩
    have kq:k≠q:=fun z=>jc (Vy nda (z ▸ hk) hc)
    rw [xx hk,xx hk,xx hk];show some _=some _
    congr 1
    have km:=lt k (Af hk);have w:=(E.2.2.1 z sz).2 k (by omega) kq;have ex : -nuG F m Hd e z k*(-nuG F m Hd e (F x) q*sg) - -nuG F m Hd e z q*(-nuG F m Hd e (F x) k*sg)=botG F m Hd e * -nuG F m (setF Hd q x) (-sg*e) z k:=by
     rw [Int.mul_neg,w];grind
    rw [ex];exact A6 _ bne
   ·by_cases je:j=act.length
    ·subst je
     rw [ZX,ZX,ZX];show some _=some _
     congr 1
     have w:=(E.2.2.1 z sz).2 m (by omega) (by omega);have ex:nuG F m Hd e z m*(-nuG F m Hd e (F x) q*sg) - -nuG F m Hd e z q*(nuG F m Hd e (F x) m*sg)=botG F m Hd e*nuG F m (setF Hd q x) (-sg*e) z m:=by
      rw [w];grind
     rw [ex];exact A6 _ bne
    ·have z1:∀ a:Nat→Int,(lineG m act a)[j]?=none:=fun a=>Ae (by rw [Z8]; omega)
     simp only [z1]
     all_goals rfl
 ·rw [thc,E.2.1]
  grind
 ·apply List.ext_getElem?
  intro j
  by_cases jc:j=c
  ·subst jc
   have hj:=(A3.mp hc).1;rw [Aa (by unfold thL; rw [Av,Z8]; omega),xx hc,E.2.2.2.1]
   congr 1
   grind
  ·rw [Aj (Ne.symm jc),th]
   by_cases jl:j<act.length
   ·obtain ⟨k,hk⟩:∃ k,act[j]?=some k:=⟨_,A7 jl⟩
    have kq:k≠q:=fun z=>jc (Vy nda (z ▸ hk) hc)
    rw [xx hk,xx hk];have km:=lt k (Af hk);rw [E.2.2.2.2 k (by omega) kq];show some _=some _
    congr 1
    grind
   ·by_cases je:j=act.length
    ·subst je
     rw [ZX,ZX,E.2.2.2.2 m (by omega) (by omega)];show some _=some _
     congr 1
     grind
    ·have z1:∀ a:Nat→Int,(lineG m act a)[j]?=none:=fun a=>Ae (by rw [Z8]; omega)
     simp only [z1]
     all_goals rfl
theorem mem_set_iff {l:List Nat} {i x y z:Nat} (nd:l.Nodup) (h:l[i]?=some x):z∈l.set i y↔(z∈l∧z≠x)∨z=y:=by
 have hi:=(A3.mp h).1
 constructor
 ·intro hz
  obtain ⟨j,hj⟩:=List.mem_iff_getElem?.mp hz
  by_cases ij:i=j
  ·subst ij
   rw [Aa hi] at hj;exact .inr (B0 hj).symm
  ·rw [Aj ij] at hj
   refine .inl ⟨Af hj,fun e=>ij (Vy nd h (e ▸ hj))⟩
 ·rintro (⟨hz,ne⟩ | rfl)
  ·obtain ⟨j,hj⟩:=List.mem_iff_getElem?.mp hz
   refine List.mem_iff_getElem?.mpr ⟨j,?_⟩;rw [Aj fun ij=>?_]
   ·exact hj
   ·subst ij
    rw [h] at hj;exact ne (B0 hj).symm
  ·exact List.mem_iff_getElem?.mpr ⟨i,Aa hi⟩
theorem nodup_set {l:List Nat} {i x y:Nat} (nd:l.Nodup) (h:l[i]?=some x) (ny:y∉l):(l.set i y).Nodup:=by
 have hi:=(A3.mp h).1;refine List.pairwise_iff_getElem.mpr fun j k hj hk jk=>?_
 rw [List.length_set] at hj hk;rw [List.getElem_set,List.getElem_set];have base:=List.pairwise_iff_getElem.mp nd
 split
 ·split
  ·omega
  ·intro z
   exact ny (z ▸ At _)
 ·split
  ·intro z
   exact ny (z ▸ At _)
  ·exact base j k hj hk jk
theorem exch_I (T:TabI F m G Gd t Hd act e) {i c x q:Nat} (hi:t.names[i]?=some x) (hc:act[c]?=some q) (n0:nuG F m Hd e (F x) q≠0) :
  ∃ e',TabI F m G Gd (exch t i c) (setF Hd q x) act e'∧(exch t i c).names=t.names.set i (Hd q)∧(exch t i c).heads=t.heads.set c x∧(e' = -sgL (lineG m act (nuG F m Hd e (F x))) c*e):=by
 have xm:=Af hi;have nx:=T.apart x xm;have L:=fun {z} sz=>exLine_G T.gh T.lt T.nda hc (T.sF x) nx n0 (z:=z) sz
 have hq:q<m:=T.lt q (Af hc);have ln:t.lines.getD i []=lineG m act (nuG F m Hd e (F x)):=qZ (by rw [T.lines,List.getElem?_map,hi]; rfl);have hh:t.heads.getD c 0=Hd q:=qZ (by rw [T.heads,List.getElem?_map,hc]; rfl);have nn:t.names.getD i 0=x:=qZ hi;have hi':=(A3.mp hi).1;have hc':=(A3.mp hc).1;refine ⟨_,⟨(L T.sG).2.2.2,?_,T.lt,T.nda,?_,?_,?_,?_,?_,?_,T.sF,T.sG,T.sGd⟩,?_,?_,rfl⟩
 ·show (thL (t.lines.getD i []) c).getD c 0=_
  rw [ln];exact (L T.sG).2.1
 ·show t.heads.set c (t.names.getD i 0)=_
  rw [nn,T.heads]
  apply List.ext_getElem?
  intro j
  by_cases jc:c=j
  ·subst jc
   rw [Aa (by rw [Av]; exact hc'),List.getElem?_map,hc];show some x=some (setF Hd q x q);unfold setF;rw [if_pos rfl]
  ·rw [Aj jc,List.getElem?_map,List.getElem?_map]
   cases h:act[j]? with
   | none=>rfl
   | some k =>
    show some (Hd k)=some (setF Hd q x k);unfold setF;rw [if_neg fun (z:k=q)=>jc (Vy T.nda hc (z ▸ h))]
 ·show (t.lines.map fun o=>zV o (thL (t.lines.getD i []) c) c t.bot (sgL (t.lines.getD i []) c)).set i ((thL (t.lines.getD i []) c).set c (t.bot*sgL (t.lines.getD i []) c))=(t.names.set i (t.heads.getD c 0)).map _
  rw [ln,hh,T.bot,(L T.sG).2.2.1,T.lines]
  apply List.ext_getElem?
  intro j
  by_cases ij:i=j
  ·subst ij
   rw [Aa (by rw [Av,Av]; exact hi'),List.getElem?_map,Aa hi'];rfl
  ·rw [Aj ij,List.getElem?_map,List.getElem?_map,List.getElem?_map,Aj ij]
   cases h:t.names[j]? with
   | none=>rfl
   | some y =>
    show some _=some _;dsimp only;rw [(L (T.sF y)).1]
 ·show zV t.goal (thL (t.lines.getD i []) c) c t.bot (sgL (t.lines.getD i []) c)=_
  rw [ln,T.goal,T.bot];exact (L T.sG).1
 ·show zV t.guide (thL (t.lines.getD i []) c) c t.bot (sgL (t.lines.getD i []) c)=_
  rw [ln,T.guide,T.bot];exact (L T.sGd).1
 ·show (t.names.set i (t.heads.getD c 0)).Nodup
  rw [hh];exact nodup_set T.nd hi fun z=>T.apart _ z q hq rfl
 ·intro y hy k hk
  have hy:y∈t.names.set i (t.heads.getD c 0):=hy;rw [hh] at hy;unfold setF
  rcases (mem_set_iff T.nd hi).mp hy with ⟨y1,y2⟩ | y1
  ·split
   ·exact fun z=>y2 z.symm
   ·exact T.apart y y1 k hk
  ·subst y1
   split
   ·exact fun z=>T.apart x xm q hq z.symm
   ·rename_i kq
    exact fun z=>kq (T.gh.inj k q hk hq z)
 ·show t.names.set i (t.heads.getD c 0)=_
  rw [hh]
 ·show t.heads.set c (t.names.getD i 0)=_
  rw [nn]
end
end BP
namespace BP
def yj (m:Nat) (Hd:Nat→Nat):List Nat:=(List.range m).map Hd
def posG (m:Nat) (Hd:Nat→Nat) (y:Nat):Nat:=(yj m Hd).idxOf y
def vG (F:Vecs) (m:Nat) (Hd:Nat→Nat) (e:Int) (z:Nat→Int):Rat:=(nuG F m Hd e z m:Rat)/(botG F m Hd e:Rat)
def gG (F:Vecs) (m:Nat) (Hd:Nat→Nat) (e:Int) (z:Nat→Int) (y:Nat):Rat := -(nuG F m Hd e z (posG m Hd y):Rat)/(botG F m Hd e:Rat)
abbrev castF (F:Vecs):Nat→Nat→Rat:=fun x c=>(F x c:Rat)
abbrev oneR (m:Nat):Nat→Rat:=fun c=>(unitV m c:Rat)
section
variable {F:Vecs} {m:Nat} {G Gd:Nat→Int} {t:Tab} {Hd Hd':Nat→Nat} {act:List Nat} {e e':Int}
theorem x4:(yj m Hd).length=m:=by unfold yj; rw [Av,Ar]
theorem headsG_at {k:Nat} (h:k<m):(yj m Hd)[k]?=some (Hd k):=by unfold yj; rw [List.getElem?_map,List.getElem?_range h]; rfl
theorem yQ {y:Nat}:y∈yj m Hd↔∃ k,k<m∧Hd k=y:=by
 unfold yj;rw [List.mem_map]
 constructor
 ·rintro ⟨k,h,e⟩; exact ⟨k,List.mem_range.mp h,e⟩
 ·rintro ⟨k,h,e⟩; exact ⟨k,List.mem_range.mpr h,e⟩
theorem headsG_nd (inj:∀ i j,i<m→j<m→Hd i=Hd j→i=j):(yj m Hd).Nodup:=by
 unfold yj;refine List.pairwise_map.mpr (List.Pairwise.imp_of_mem (fun {i j} hi hj ne z=>?_) List.nodup_range);exact ne (inj i j (List.mem_range.mp hi) (List.mem_range.mp hj) z)
theorem pos_of (inj:∀ i j,i<m→j<m→Hd i=Hd j→i=j) {k:Nat} (hk:k<m):posG m Hd (Hd k)=k:=by
 unfold posG;have mem:Hd k∈yj m Hd:=yQ.mpr ⟨k,hk,rfl⟩;have lt:=List.idxOf_lt_length_iff.mpr mem;have g:=List.getElem_idxOf lt;rw [x4] at lt;have a:=headsG_at (Hd:=Hd) lt;rw [A7 (by rw [x4]; exact lt),g] at a;exact inj _ _ lt hk (B0 a).symm
theorem bot_ne (h:GhoOk F m Hd e):(botG F m Hd e:Rat)≠0:=fun z=>by
 have:=Rat.intCast_inj.mp (show (botG F m Hd e:Rat)=((0:Int):Rat) from z);have:=h.pos;omega
theorem gG_at (h:GhoOk F m Hd e) {z:Nat→Int} {k:Nat} (hk:k<m):gG F m Hd e z (Hd k) = -(nuG F m Hd e z k:Rat)/(botG F m Hd e:Rat):=by
 unfold gG;rw [pos_of h.inj hk]
theorem tells_R (h:GhoOk F m Hd e) {z:Nat→Int} (s:SuppG m z) (c:Nat):(z c:Rat)=linR (yj m Hd) (castF F) (oneR m) (vG F m Hd e z) (fun y => -gG F m Hd e z y) c:=by
 have a:=h.all z s c;have b0:=bot_ne h;have a2:((botG F m Hd e*z c:Int):Rat)=((sumTo (m+1) fun k=>nuG F m Hd e z k*hvG F m Hd k c:Int):Rat):=by rw [a]
 rw [Ay,Vq] at a2;unfold linR;rw [sumR_idx,x4];have s1:(sumQ m fun k => -gG F m Hd e z ((yj m Hd).getD k 0)*castF F ((yj m Hd).getD k 0) c)=(botG F m Hd e:Rat)⁻¹*sumQ m fun k=>((nuG F m Hd e z k*hvG F m Hd k c:Int):Rat):=by
  rw [← vV];refine j8 _ fun k hk=>?_
  rw [qZ (headsG_at hk),gG_at h hk,Jz hk,Ay,Bb];grind
 rw [s1];have a3:(botG F m Hd e:Rat)*(z c:Rat)=(sumQ m fun k=>((nuG F m Hd e z k*hvG F m Hd k c:Int):Rat))+(nuG F m Hd e z m:Rat)*(unitV m c:Rat):=by
  rw [a2];show sumQ m _+((nuG F m Hd e z m*hvG F m Hd m c:Int):Rat)=_;rw [Ay,JK]
 unfold vG;rw [Bb];generalize (sumQ m fun k=>((nuG F m Hd e z k*hvG F m Hd k c:Int):Rat))=S at *;have a4:(botG F m Hd e:Rat)⁻¹*((botG F m Hd e:Rat)*(z c:Rat))=(z c:Rat):=by
  rw [← Rat.mul_assoc,Rat.inv_mul_cancel _ b0,Rat.one_mul]
 rw [← a4,a3];grind
theorem indep_G (h:GhoOk F m Hd e):Indep (yj m Hd) (castF F) (oneR m):=by
 refine indep_of (H:=hvG F m Hd) (fun k hk=>?_) (by rw [x4]; exact JK) ?_
 ·rw [x4] at hk
  rw [qZ (headsG_at hk),Jz hk]
 ·rw [x4]
  intro z;have p:=h.pos;unfold botG at p;rw [z,Int.mul_zero] at p;omega
theorem rel_G (h:GhoOk F m Hd e) (h':GhoOk F m Hd' e') (sF:∀ x,SuppG m (F x)) {z:Nat→Int} (s:SuppG m z) {R:List Nat} (apart:∀ x∈yj m Hd,x∉R) (all:∀ x∈yj m Hd',x∈yj m Hd∨x∈R) :
  vG F m Hd e z=vG F m Hd' e' z - sumR ((yj m Hd').filter fun x=>decide (x∈R)) (fun x=>gG F m Hd' e' z x*vG F m Hd e (F x)) ∧
  ∀ y∈yj m Hd,gG F m Hd e z y=(if y∈yj m Hd' then gG F m Hd' e' z y else 0) - sumR ((yj m Hd').filter fun x=>decide (x∈R)) fun x=>gG F m Hd' e' z x*gG F m Hd e (F x) y :=
 rel_of (a:=fun x y=>gG F m Hd e (F x) y) (b:=fun x=>vG F m Hd e (F x)) (headsG_nd h.inj) (headsG_nd h'.inj) (indep_G h) apart (fun x _ c=>tells_R h (sF x) c) all (fun c=>tells_R h s c) fun c=>tells_R h' s c
theorem sumR_perm {f:Nat→Rat} {l l':List Nat} (h:l.Perm l'):sumR l f=sumR l' f:=by
 induction h with
 | nil=>rfl
 | cons x _ ih=>show f x+sumR _ f=f x+sumR _ f; rw [ih]
 | swap x y l=>show f y+(f x+sumR l f)=f x+(f y+sumR l f); grind
 | trans _ _ h1 h2=>rw [h1,h2]
theorem sumR_same {f:Nat→Rat} {l l':List Nat} (nd:l.Nodup) (nd':l'.Nodup) (h:∀ x,x∈l↔x∈l'):sumR l f=sumR l' f:=sumR_perm ((List.perm_ext_iff_of_nodup nd nd').mpr h)
theorem exch_R (h:GhoOk F m Hd e) {q x:Nat} (hq:q<m) (sF:∀ x,SuppG m (F x)) (nx:∀ k,k<m→Hd k≠x) {tau:Int} (ht:tau=1∨tau = -1) (p:0<tau*nuG F m Hd e (F x) q) {z:Nat→Int} (s:SuppG m z) :
  vG F m (setF Hd q x) (tau*e) z=vG F m Hd e z - vG F m Hd e (F x)*(gG F m Hd e z (Hd q)/gG F m Hd e (F x) (Hd q)) ∧
  gG F m (setF Hd q x) (tau*e) z x = -(gG F m Hd e z (Hd q)/gG F m Hd e (F x) (Hd q)) ∧
  ∀ k,k<m→k≠q→gG F m (setF Hd q x) (tau*e) z (Hd k)=gG F m Hd e z (Hd k) - gG F m Hd e (F x) (Hd k)*(gG F m Hd e z (Hd q)/gG F m Hd e (F x) (Hd q)):=by
 obtain ⟨h2,bo,E,_⟩:=gho_exch h hq (sF x) nx ht p;obtain ⟨E1,E2⟩:=E z s;have b0:=bot_ne h;have n0:(nuG F m Hd e (F x) q:Rat)≠0:=fun w=>by
  have:=Rat.intCast_inj.mp (show (nuG F m Hd e (F x) q:Rat)=((0:Int):Rat) from w);rw [this] at p;rw [Int.mul_zero] at p;omega
 have tr:(tau:Rat)*(tau:Rat)=1:=by
  rw [← Ay,sq_one ht];rfl
 have t0:(tau:Rat)≠0:=fun w=>by rw [w] at tr; grind
 have ratio:gG F m Hd e z (Hd q)/gG F m Hd e (F x) (Hd q)=(nuG F m Hd e z q:Rat)/(nuG F m Hd e (F x) q:Rat):=by
  rw [gG_at h hq,gG_at h hq];generalize (nuG F m Hd e z q:Rat)=A at *;generalize (nuG F m Hd e (F x) q:Rat)=B at *;generalize (botG F m Hd e:Rat)=D at *;grind
 have bo2:(botG F m (setF Hd q x) (tau*e):Rat)=(tau:Rat)*(nuG F m Hd e (F x) q:Rat):=by rw [bo,Ay]
 have n2:(botG F m (setF Hd q x) (tau*e):Rat)≠0:=bot_ne h2;have num:∀ k,k<m+1→k≠q→(nuG F m (setF Hd q x) (tau*e) z k:Rat)/(botG F m (setF Hd q x) (tau*e):Rat)=(nuG F m Hd e z k:Rat)/(botG F m Hd e:Rat) - (nuG F m Hd e (F x) k:Rat)/(botG F m Hd e:Rat)*((nuG F m Hd e z q:Rat)/(nuG F m Hd e (F x) q:Rat)):=fun k hk kq=>by
  have w:((botG F m Hd e*nuG F m (setF Hd q x) (tau*e) z k:Int):Rat)=((tau*(nuG F m Hd e (F x) q*nuG F m Hd e z k - nuG F m Hd e (F x) k*nuG F m Hd e z q):Int):Rat):=by rw [E2 k hk kq]
  rw [Ay,Ay,Rat.intCast_sub,Ay,Ay] at w;rw [bo2] at n2 ⊢;generalize (nuG F m (setF Hd q x) (tau*e) z k:Rat)=Y at *;generalize (nuG F m Hd e z q:Rat)=A at *;generalize (nuG F m Hd e (F x) q:Rat)=B at *;generalize (nuG F m Hd e (F x) k:Rat)=C at *;generalize (nuG F m Hd e z k:Rat)=Z at *;generalize (botG F m Hd e:Rat)=D at *;generalize (tau:Rat)=T at *;have y:Y=T*(B*Z - C*A)/D:=by grind
  rw [y];grind
 refine ⟨?_,?_,fun k hk kq=>?_⟩
 ·rw [ratio]
  have w:=num m (by omega) (by omega);unfold vG;exact w
 ·rw [ratio]
  have px:setF Hd q x q=x:=if_pos rfl;have w:=gG_at h2 (z:=z) hq;rw [px,E1,bo2,Ay] at w;rw [w];generalize (nuG F m Hd e z q:Rat)=A at *;generalize (nuG F m Hd e (F x) q:Rat)=B at *;generalize (tau:Rat)=T at *;grind
 ·rw [ratio]
  have pk:setF Hd q x k=Hd k:=if_neg kq;have w:=gG_at h2 (z:=z) hk;rw [pk] at w;have w2:=num k (by omega) kq;rw [w,gG_at h hk,gG_at h hk];grind
theorem v_head (h:GhoOk F m Hd e) {k:Nat} (hk:k<m):vG F m Hd e (F (Hd k))=0:=by
 unfold vG;have w:=nu_other (F:=F) (m:=m) (Hd:=Hd) (e:=e) (k:=m) (j:=k) (by omega) (by omega) (by omega);rw [Jz hk] at w;rw [w,Bb];show (0:Rat)*_=0;exact Rat.zero_mul _
theorem g_head (h:GhoOk F m Hd e) {k:Nat} (hk:k<m):gG F m Hd e (F (Hd k)) (Hd k) = -1:=by
 rw [gG_at h hk];have w:=nu_self (F:=F) (m:=m) (Hd:=Hd) (e:=e) (k:=k);rw [Jz hk] at w;have b0:=bot_ne h;rw [w];grind
end
end BP
namespace BP
set_option genInjectivity false in
set_option genSizeOf false in
structure Sit where
 t:Tab
 Hd:Nat→Nat
 e:Int
def dicC (F:Vecs) (m:Nat) (G:Nat→Int) (S:Sit):Dic:=⟨S.t.heads,S.t.names,fun x=>vG F m S.Hd S.e (F x),gG F m S.Hd S.e G,fun x y=>gG F m S.Hd S.e (F x) y⟩
def dicM (F:Vecs) (m:Nat) (Gd:Nat→Int) (S:Sit):Dic:=⟨S.t.names,S.t.heads,gG F m S.Hd S.e Gd,fun x=>vG F m S.Hd S.e (F x),fun y x => -gG F m S.Hd S.e (F x) y⟩
structure Kin (m:Nat) (act:List Nat) (S S':Sit):Prop where
 uni:∀ x,(x∈S.t.names∨x∈yj m S.Hd)↔(x∈S'.t.names∨x∈yj m S'.Hd)
 pin:∀ k,k<m→k∉act→S.Hd k=S'.Hd k
theorem Kin.refl {m:Nat} {act:List Nat} (S:Sit):Kin m act S S:=⟨fun _=>Iff.rfl,fun _ _ _=>rfl⟩
theorem Kin.trans {m:Nat} {act:List Nat} {S S' S'':Sit} (h:Kin m act S S') (k:Kin m act S' S''):Kin m act S S'':=⟨fun x=>(h.uni x).trans (k.uni x),fun j hj n=>(h.pin j hj n).trans (k.pin j hj n)⟩
theorem Kin.symm {m:Nat} {act:List Nat} {S S':Sit} (h:Kin m act S S'):Kin m act S' S:=⟨fun x=>(h.uni x).symm,fun j hj n=>(h.pin j hj n).symm⟩
abbrev SitI (F:Vecs) (m:Nat) (G Gd:Nat→Int) (act:List Nat) (S:Sit):Prop:=TabI F m G Gd S.t S.Hd act S.e
section
variable {F:Vecs} {m:Nat} {G Gd:Nat→Int} {act:List Nat} {S S':Sit}
theorem YV (T:SitI F m G Gd act S) {x:Nat}:x∈S.t.heads↔∃ k,k∈act∧S.Hd k=x:=by rw [T.heads,List.mem_map]
theorem xq (T:SitI F m G Gd act S) {x:Nat} (h:x∈S.t.heads):x∈yj m S.Hd:=by
 obtain ⟨k,hk,e⟩:=(YV T).mp h;exact yQ.mpr ⟨k,T.lt k hk,e⟩
theorem heads_nd (T:SitI F m G Gd act S):S.t.heads.Nodup:=by
 rw [T.heads];exact List.pairwise_map.mpr (List.Pairwise.imp_of_mem (fun {i j} hi hj ne z=>ne (T.gh.inj i j (T.lt i hi) (T.lt j hj) z)) T.nda)
theorem Yj (T:SitI F m G Gd act S) {x:Nat} (h:x∈yj m S.Hd):x∉S.t.names:=fun z=>by
 obtain ⟨k,hk,e⟩:=yQ.mp h;exact T.apart x z k hk e
theorem head_same (T:SitI F m G Gd act S) (T':SitI F m G Gd act S') (K:Kin m act S S') {x:Nat} (h:x∈S.t.heads) (h':x∈yj m S'.Hd):x∈S'.t.heads:=by
 obtain ⟨k,hk,e⟩:=yQ.mp h'
 by_cases ka:k∈act
 ·exact (YV T').mpr ⟨k,ka,e⟩
 ·obtain ⟨j,ja,ej⟩:=(YV T).mp h
  have:=K.pin k hk ka;have:j=k:=T.gh.inj j k (T.lt j ja) hk (by rw [ej,this,e]);exact absurd (this ▸ ja) ka
theorem line_same (T:SitI F m G Gd act S) (T':SitI F m G Gd act S') (K:Kin m act S S') {x:Nat} (h:x∈S.t.names) (h':x∈yj m S'.Hd):x∈S'.t.heads:=by
 obtain ⟨k,hk,e⟩:=yQ.mp h'
 by_cases ka:k∈act
 ·exact (YV T').mpr ⟨k,ka,e⟩
 ·exact absurd ((K.pin k hk ka).trans e) (T.apart x h k hk)
theorem rel_C (T:SitI F m G Gd act S) (T':SitI F m G Gd act S') (K:Kin m act S S'):∀ x∈(dicC F m G S).heads,(dicC F m G S).g x=(if x∈(dicC F m G S').heads then (dicC F m G S').g x else 0) - sumR ((dicC F m G S').heads.filter fun c=>decide (c∈(dicC F m G S).lines)) fun c=>(dicC F m G S').g c*(dicC F m G S).a c x:=fun x hx=>by
 have hx:x∈S.t.heads:=hx;have r:=(rel_G T.gh T'.gh T.sF T.sG (R:=S.t.names) (fun y hy=>Yj T hy) fun y hy=>((K.uni y).mpr (.inr hy)).symm).2 x (xq T hx);show gG F m S.Hd S.e G x=(if x∈S'.t.heads then gG F m S'.Hd S'.e G x else 0) - sumR (S'.t.heads.filter fun c=>decide (c∈S.t.names)) fun c=>gG F m S'.Hd S'.e G c*gG F m S.Hd S.e (F c) x
 rw [r]
 congr 1
 ·by_cases k:x∈S'.t.heads
  ·rw [if_pos k,if_pos (xq T' k)]
  ·rw [if_neg k,if_neg fun z=>k (head_same T T' K hx z)]
 ·refine sumR_same ((headsG_nd T'.gh.inj).filter _) ((heads_nd T').filter _) fun y=>?_
  rw [List.mem_filter,List.mem_filter,decide_eq_true_iff]
  constructor
  ·rintro ⟨a,b⟩; exact ⟨line_same T T' K b a,b⟩
  ·rintro ⟨a,b⟩; exact ⟨xq T' a,b⟩
theorem rel_M (T:SitI F m G Gd act S) (T':SitI F m G Gd act S') (K:Kin m act S S'):∀ x∈(dicM F m Gd S).heads,(dicM F m Gd S).g x=(if x∈(dicM F m Gd S').heads then (dicM F m Gd S').g x else 0) - sumR ((dicM F m Gd S').heads.filter fun c=>decide (c∈(dicM F m Gd S).lines)) fun c=>(dicM F m Gd S').g c*(dicM F m Gd S).a c x:=fun x hx=>by
 have hx:x∈S.t.names:=hx;have r:=(rel_G T'.gh T.gh T.sF (T.sF x) (R:=S'.t.names) (fun y hy=>Yj T' hy) fun y hy=>((K.uni y).mp (.inr hy)).symm).1;show vG F m S.Hd S.e (F x)=(if x∈S'.t.names then vG F m S'.Hd S'.e (F x) else 0) - sumR (S'.t.names.filter fun c=>decide (c∈S.t.heads)) fun c=>vG F m S'.Hd S'.e (F c) * -gG F m S.Hd S.e (F x) c
 have i:(if x∈S'.t.names then vG F m S'.Hd S'.e (F x) else 0)=vG F m S'.Hd S'.e (F x):=by
  by_cases k:x∈S'.t.names
  ·rw [if_pos k]
  ·rw [if_neg k]
   have h:=((K.uni x).mp (.inl hx)).resolve_left k;obtain ⟨j,hj,e⟩:=yQ.mp h;rw [← e,v_head T'.gh hj]
 have s:sumR ((yj m S.Hd).filter fun y=>decide (y∈S'.t.names)) (fun y=>gG F m S.Hd S.e (F x) y*vG F m S'.Hd S'.e (F y))=sumR (S'.t.names.filter fun c=>decide (c∈S.t.heads)) fun y=>gG F m S.Hd S.e (F x) y*vG F m S'.Hd S'.e (F y):=by
  refine sumR_same ((headsG_nd T.gh.inj).filter _) (T'.nd.filter _) fun y=>?_
  rw [List.mem_filter,List.mem_filter,decide_eq_true_iff,decide_eq_true_iff]
  constructor
  ·rintro ⟨a,b⟩; exact ⟨b,line_same T' T K.symm b a⟩
  ·rintro ⟨a,b⟩; exact ⟨xq T b,a⟩
 rw [i,r,s];have neg:sumR (S'.t.names.filter fun c=>decide (c∈S.t.heads)) (fun c=>vG F m S'.Hd S'.e (F c) * -gG F m S.Hd S.e (F x) c) = -1*sumR (S'.t.names.filter fun c=>decide (c∈S.t.heads)) fun y=>gG F m S.Hd S.e (F x) y*vG F m S'.Hd S'.e (F y):=by
  rw [← sumR_mul];exact xK fun c _=>by grind
 rw [neg];grind
theorem v_same (T:SitI F m G Gd act S) (T':SitI F m G Gd act S') (K:Kin m act S S') {z:Nat→Int} (s:SuppG m z) (h:S.t.heads=S'.t.heads∨S.t.names=S'.t.names):vG F m S.Hd S.e z=vG F m S'.Hd S'.e z:=by
 have r:=(rel_G T.gh T'.gh T.sF s (R:=S.t.names) (fun y hy=>Yj T hy) fun y hy=>((K.uni y).mpr (.inr hy)).symm).1;have e0:(yj m S'.Hd).filter (fun x=>decide (x∈S.t.names))=[]:=by
  refine List.filter_eq_nil_iff.mpr fun y hy=>?_
  rw [decide_eq_true_iff];intro hn
  rcases h with h | h
  ·have a:=line_same T T' K hn hy
   rw [← h] at a;exact Yj T (xq T a) hn
  ·rw [h] at hn
   exact Yj T' hy hn
 rw [r,e0];show vG F m S'.Hd S'.e z - 0=_;grind
def sitX (F:Vecs) (m:Nat) (act:List Nat) (S:Sit) (i c q x:Nat):Sit:=⟨exch S.t i c,setF S.Hd q x,-sgL (lineG m act (nuG F m S.Hd S.e (F x))) c*S.e⟩
theorem g_ne (T:SitI F m G Gd act S) {q x:Nat} (hq:q<m) (h:gG F m S.Hd S.e (F x) (S.Hd q)≠0):nuG F m S.Hd S.e (F x) q≠0:=fun z=>h (by
 rw [gG_at T.gh hq,z,Bb];show -(0:Rat)*_=0;grind)
theorem sit_X (T:SitI F m G Gd act S) {i c q x:Nat} (hi:S.t.names[i]?=some x) (hc:act[c]?=some q) (n0:gG F m S.Hd S.e (F x) (S.Hd q)≠0) :
  SitI F m G Gd act (sitX F m act S i c q x)∧Kin m act S (sitX F m act S i c q x)∧(∀ y,y∈(sitX F m act S i c q x).t.names↔((y∈S.t.names∧y≠x)∨y=S.Hd q))∧(∀ y,y∈(sitX F m act S i c q x).t.heads↔((y∈S.t.heads∧y≠S.Hd q)∨y=x)) ∧
  ∀ z,SuppG m z→vG F m (sitX F m act S i c q x).Hd (sitX F m act S i c q x).e z=vG F m S.Hd S.e z - vG F m S.Hd S.e (F x)*(gG F m S.Hd S.e z (S.Hd q)/gG F m S.Hd S.e (F x) (S.Hd q))∧gG F m (sitX F m act S i c q x).Hd (sitX F m act S i c q x).e z x = -(gG F m S.Hd S.e z (S.Hd q)/gG F m S.Hd S.e (F x) (S.Hd q))∧∀ y∈S.t.heads,y≠S.Hd q→gG F m (sitX F m act S i c q x).Hd (sitX F m act S i c q x).e z y=gG F m S.Hd S.e z y - gG F m S.Hd S.e (F x) y*(gG F m S.Hd S.e z (S.Hd q)/gG F m S.Hd S.e (F x) (S.Hd q)):=by
 have hq:q<m:=T.lt q (Af hc);have n1:=g_ne T hq n0;have xm:=Af hi;obtain ⟨e',T2,en,eh,ee⟩:=exch_I T hi hc n1;subst ee;have hcH:S.t.heads[c]?=some (S.Hd q):=by rw [T.heads,List.getElem?_map,hc]; rfl
 have mn:∀ y,y∈(exch S.t i c).names↔((y∈S.t.names∧y≠x)∨y=S.Hd q):=fun y=>by rw [en]; exact mem_set_iff T.nd hi
 have mh:∀ y,y∈(exch S.t i c).heads↔((y∈S.t.heads∧y≠S.Hd q)∨y=x):=fun y=>by rw [eh]; exact mem_set_iff (heads_nd T) hcH
 have gh:∀ y,y∈yj m (setF S.Hd q x)↔((y∈yj m S.Hd∧y≠S.Hd q)∨y=x):=fun y=>by
  rw [yQ,yQ];unfold setF
  constructor
  ·rintro ⟨k,hk,e⟩
   by_cases kq:k=q
   ·rw [if_pos kq] at e; exact .inr e.symm
   ·rw [if_neg kq] at e
    exact .inl ⟨⟨k,hk,e⟩,fun z=>kq (T.gh.inj k q hk hq (e.trans z))⟩
  ·rintro (⟨⟨k,hk,e⟩,ne⟩ | e)
   ·exact ⟨k,hk,by rw [if_neg fun z=>ne (by rw [← e,z])]; exact e⟩
   ·exact ⟨q,hq,by rw [if_pos rfl]; exact e.symm⟩
 refine ⟨T2,⟨fun y=>?_,fun k hk n=>?_⟩,mn,mh,fun z sz=>?_⟩
 ·show (y∈S.t.names∨y∈yj m S.Hd)↔(y∈(exch S.t i c).names∨y∈yj m (setF S.Hd q x))
  rw [mn,gh]
  constructor
  ·rintro (h | h)
   ·by_cases yx:y=x
    ·exact .inr (.inr yx)
    ·exact .inl (.inl ⟨h,yx⟩)
   ·by_cases yq:y=S.Hd q
    ·exact .inl (.inr yq)
    ·exact .inr (.inl ⟨h,yq⟩)
  ·rintro ((⟨h,_⟩ | h) | (⟨h,_⟩ | h))
   ·exact .inl h
   ·rw [h]; exact .inr (yQ.mpr ⟨q,hq,rfl⟩)
   ·exact .inr h
   ·rw [h]; exact .inl xm
 ·show S.Hd k=setF S.Hd q x k
  unfold setF;rw [if_neg fun z=>n (by rw [z]; exact Af hc)]
 ·have tp:0 < -sgL (lineG m act (nuG F m S.Hd S.e (F x))) c*nuG F m S.Hd S.e (F x) q:=by
   unfold sgL;rw [qZ (xx hc)]
   split <;> omega
  have one : -sgL (lineG m act (nuG F m S.Hd S.e (F x))) c=1 ∨ -sgL (lineG m act (nuG F m S.Hd S.e (F x))) c = -1:=by rcases sgL_one (lineG m act (nuG F m S.Hd S.e (F x))) c with y | y <;> rw [y] <;> decide
  have E:=exch_R T.gh hq T.sF (T.apart x xm) one tp sz;refine ⟨E.1,E.2.1,fun y hy ne=>?_⟩;obtain ⟨k,ka,e⟩:=(YV T).mp hy;subst e;exact E.2.2 k (T.lt k ka) fun z=>ne (by rw [z])
end
structure StC (F:Vecs) (m:Nat) (G:Nat→Int) (act:List Nat) (S:Sit) (i c x q:Nat):Prop where
 hi:S.t.names[i]?=some x
 hc:act[c]?=some q
 xr:x<S.t.rooms
 gneg:gG F m S.Hd S.e G (S.Hd q)<0
 apos:0<gG F m S.Hd S.e (F x) (S.Hd q)
 feas:∀ y∈S.t.names,y<S.t.rooms→0≤vG F m S.Hd S.e (F y)
 ratio:∀ y∈S.t.names,y<S.t.rooms→0<gG F m S.Hd S.e (F y) (S.Hd q)→vG F m S.Hd S.e (F x)*gG F m S.Hd S.e (F y) (S.Hd q)≤vG F m S.Hd S.e (F y)*gG F m S.Hd S.e (F x) (S.Hd q)∧(vG F m S.Hd S.e (F x)*gG F m S.Hd S.e (F y) (S.Hd q)=vG F m S.Hd S.e (F y)*gG F m S.Hd S.e (F x) (S.Hd q)→x≤y)
 least:vG F m S.Hd S.e (F x)=0→∀ y∈S.t.heads,y<S.Hd q→0≤gG F m S.Hd S.e G y
structure StM (F:Vecs) (m:Nat) (Gd:Nat→Int) (act:List Nat) (S:Sit) (i c x q:Nat):Prop where
 hi:S.t.names[i]?=some x
 hc:act[c]?=some q
 xr:x<S.t.rooms
 vneg:vG F m S.Hd S.e (F x)<0
 aneg:gG F m S.Hd S.e (F x) (S.Hd q)<0
 dfeas:∀ y∈S.t.heads,0≤gG F m S.Hd S.e Gd y
 ratio:∀ y∈S.t.heads,gG F m S.Hd S.e (F x) y<0→gG F m S.Hd S.e Gd (S.Hd q) * -gG F m S.Hd S.e (F x) y≤gG F m S.Hd S.e Gd y * -gG F m S.Hd S.e (F x) (S.Hd q)∧(gG F m S.Hd S.e Gd (S.Hd q) * -gG F m S.Hd S.e (F x) y=gG F m S.Hd S.e Gd y * -gG F m S.Hd S.e (F x) (S.Hd q)→S.Hd q≤y)
 least:gG F m S.Hd S.e Gd (S.Hd q)=0→∀ y∈S.t.names,y<x→0≤vG F m S.Hd S.e (F y)
theorem J4 {a b:Rat} (ha:0≤a) (hb:0<b):0≤a/b:=by
 rw [Bb];exact Rat.mul_nonneg ha (Rat.le_of_lt (Rat.inv_pos.mpr hb))
theorem W2 {a b c:Rat} (h:a*c≤b*c) (hc:0<c):a≤b:=Classical.byContradiction fun n=>by
 have k:=Rat.mul_lt_mul_of_pos_right (Rat.not_le.mp n) hc;exact (Rat.not_lt.mpr h) k
section
variable {F:Vecs} {m:Nat} {G Gd:Nat→Int} {act:List Nat} {S:Sit} {i c x q:Nat}
theorem stC_on (T:SitI F m G Gd act S) (h:StC F m G act S i c x q) :
  (∀ y∈(sitX F m act S i c q x).t.names,y<S.t.rooms→0≤vG F m (sitX F m act S i c q x).Hd (sitX F m act S i c q x).e (F y)) ∧
  (vG F m S.Hd S.e G<vG F m (sitX F m act S i c q x).Hd (sitX F m act S i c q x).e G∨(vG F m (sitX F m act S i c q x).Hd (sitX F m act S i c q x).e G=vG F m S.Hd S.e G∧StepB (dicC F m G S) (dicC F m G (sitX F m act S i c q x)) (S.Hd q) x)):=by
 have ap:=h.apos;obtain ⟨T2,K,mn,mh,E⟩:=sit_X T h.hi h.hc (fun z=>by rw [z] at ap; exact absurd ap Rat.lt_irrefl);have hq:q<m:=T.lt q (Af h.hc);have xm:=Af h.hi;have bx:=h.feas x xm h.xr;have vh:=v_head T.gh (F:=F) hq;have gh:=g_head T.gh (F:=F) hq;have gn:=h.gneg
 constructor
 ·intro y hy yr
  rw [(E (F y) (T.sF y)).1]
  rcases (mn y).mp hy with ⟨y1,y2⟩ | y1
  ·have vy:=h.feas y y1 yr
   by_cases ay:0<gG F m S.Hd S.e (F y) (S.Hd q)
   ·have r:=(h.ratio y y1 yr ay).1
    refine W2 (c:=gG F m S.Hd S.e (F x) (S.Hd q)) ?_ ap;generalize gG F m S.Hd S.e (F x) (S.Hd q)=A at *;generalize gG F m S.Hd S.e (F y) (S.Hd q)=B at *;have:(vG F m S.Hd S.e (F y) - vG F m S.Hd S.e (F x)*(B/A))*A=vG F m S.Hd S.e (F y)*A - vG F m S.Hd S.e (F x)*B:=by grind
    rw [this];grind
   ·have ay:=Rat.not_lt.mp ay
    have z:vG F m S.Hd S.e (F x)*(gG F m S.Hd S.e (F y) (S.Hd q)/gG F m S.Hd S.e (F x) (S.Hd q))≤0:=by
     have k:=J4 (a := -gG F m S.Hd S.e (F y) (S.Hd q)) (by grind) ap;have k2:=Rat.mul_nonneg bx k;generalize gG F m S.Hd S.e (F x) (S.Hd q)=A at *;generalize gG F m S.Hd S.e (F y) (S.Hd q)=B at *;have e : -B/A = -(B/A):=by grind
     rw [e] at k2;grind
    grind
  ·subst y1
   rw [vh,gh];have k:=Rat.mul_nonneg bx (J4 (a:=1) (by decide) ap);generalize gG F m S.Hd S.e (F x) (S.Hd q)=A at *;have e:(-1:Rat)/A = -(1/A):=by grind
   rw [e];grind
 ·by_cases b0:vG F m S.Hd S.e (F x)=0
  ·refine .inr ⟨by rw [(E G T.sG).1,b0]; grind,⟨⟨?_,xm,?_,gn,h.least b0,ap,?_,mh⟩,b0,mn,?_,?_⟩⟩
   ·exact (YV T).mpr ⟨q,Af h.hc,rfl⟩
   ·intro y hy; exact Yj T (xq T hy)
   ·intro r hr ar br lt
    have:=h.ratio r hr (Nat.lt_trans lt h.xr) ar;have br:vG F m S.Hd S.e (F r)=0:=br;have z:=this.2 (by rw [b0,br]; grind);omega
   ·show vG F m (sitX F m act S i c q x).Hd (sitX F m act S i c q x).e (F (S.Hd q))=vG F m S.Hd S.e (F x)/gG F m S.Hd S.e (F x) (S.Hd q)
    rw [(E (F (S.Hd q)) (T.sF _)).1,vh,b0,Bb];grind
   ·intro r hr ne
    show vG F m (sitX F m act S i c q x).Hd (sitX F m act S i c q x).e (F r)=vG F m S.Hd S.e (F r) - gG F m S.Hd S.e (F r) (S.Hd q)*(vG F m S.Hd S.e (F x)/gG F m S.Hd S.e (F x) (S.Hd q));rw [(E (F r) (T.sF r)).1,b0,Bb,Bb];grind
  ·left
   rw [(E G T.sG).1];have bp:0<vG F m S.Hd S.e (F x):=by
    rcases Rat.le_iff_lt_or_eq.mp bx with z | z
    ·exact z
    ·exact absurd z.symm b0
   have k:=Rat.mul_pos bp (Rat.mul_pos (a := -gG F m S.Hd S.e G (S.Hd q)) (by grind) (Rat.inv_pos.mpr ap));rw [Bb];grind
theorem stM_on (T:SitI F m G Gd act S) (h:StM F m Gd act S i c x q) :
  (∀ y∈(sitX F m act S i c q x).t.heads,0≤gG F m (sitX F m act S i c q x).Hd (sitX F m act S i c q x).e Gd y) ∧
  (-vG F m S.Hd S.e Gd < -vG F m (sitX F m act S i c q x).Hd (sitX F m act S i c q x).e Gd∨(-vG F m (sitX F m act S i c q x).Hd (sitX F m act S i c q x).e Gd = -vG F m S.Hd S.e Gd∧StepB (dicM F m Gd S) (dicM F m Gd (sitX F m act S i c q x)) x (S.Hd q))):=by
 have an:=h.aneg;have vn:=h.vneg;obtain ⟨T2,K,mn,mh,E⟩:=sit_X T h.hi h.hc (fun z=>by rw [z] at an; exact absurd an Rat.lt_irrefl);have hq:q<m:=T.lt q (Af h.hc);have xm:=Af h.hi;have hh:S.Hd q∈S.t.heads:=(YV T).mpr ⟨q,Af h.hc,rfl⟩;have gq:=h.dfeas _ hh;have ap:0 < -gG F m S.Hd S.e (F x) (S.Hd q):=by grind
 have flip:gG F m S.Hd S.e Gd (S.Hd q)/gG F m S.Hd S.e (F x) (S.Hd q) = -(gG F m S.Hd S.e Gd (S.Hd q) / -gG F m S.Hd S.e (F x) (S.Hd q)):=by
  generalize gG F m S.Hd S.e (F x) (S.Hd q)=A at *;have:A≠0:=fun z=>by rw [z] at an; exact absurd an Rat.lt_irrefl
  grind
 have dn:=J4 gq ap
 constructor
 ·intro y hy
  rcases (mh y).mp hy with ⟨y1,y2⟩ | y1
  ·rw [((E Gd T.sGd).2.2 y y1 y2)]
   have gy:=h.dfeas y y1
   by_cases ay:gG F m S.Hd S.e (F x) y<0
   ·have r:=(h.ratio y y1 ay).1
    refine W2 (c := -gG F m S.Hd S.e (F x) (S.Hd q)) ?_ ap;generalize gG F m S.Hd S.e (F x) (S.Hd q)=A at *;have A0:A≠0:=fun z=>by rw [z] at an; exact absurd an Rat.lt_irrefl
    have e:(gG F m S.Hd S.e Gd y - gG F m S.Hd S.e (F x) y*(gG F m S.Hd S.e Gd (S.Hd q)/A)) * -A=gG F m S.Hd S.e Gd y * -A - gG F m S.Hd S.e Gd (S.Hd q) * -gG F m S.Hd S.e (F x) y:=by grind
    rw [e];grind
   ·have ay:=Rat.not_lt.mp ay
    rw [flip];have k:=Rat.mul_nonneg ay dn;grind
  ·subst y1
   rw [(E Gd T.sGd).2.1,flip];grind
 ·by_cases g0:gG F m S.Hd S.e Gd (S.Hd q)=0
  ·have z0:gG F m S.Hd S.e Gd (S.Hd q)/gG F m S.Hd S.e (F x) (S.Hd q)=0:=by rw [g0,Bb]; exact Rat.zero_mul _
   refine .inr ⟨by rw [(E Gd T.sGd).1,z0]; grind,⟨⟨xm,hh,?_,vn,?_,ap,?_,mn⟩,g0,mh,?_,?_⟩⟩
   ·intro y hy hh'; exact Yj T (xq T hh') hy
   ·intro y hy lt; exact h.least g0 y hy lt
   ·intro r hr ar br lt
    have ar:0 < -gG F m S.Hd S.e (F x) r:=ar;have br:gG F m S.Hd S.e Gd r=0:=br;have z:=(h.ratio r hr (by grind)).2 (by rw [g0,br]; grind);omega
   ·show gG F m (sitX F m act S i c q x).Hd (sitX F m act S i c q x).e Gd x=gG F m S.Hd S.e Gd (S.Hd q) / -gG F m S.Hd S.e (F x) (S.Hd q)
    rw [(E Gd T.sGd).2.1,flip];grind
   ·intro r hr ne
    show gG F m (sitX F m act S i c q x).Hd (sitX F m act S i c q x).e Gd r=gG F m S.Hd S.e Gd r - -gG F m S.Hd S.e (F x) r*(gG F m S.Hd S.e Gd (S.Hd q) / -gG F m S.Hd S.e (F x) (S.Hd q));rw [(E Gd T.sGd).2.2 r hr ne,flip];grind
  ·left
   have gp:0<gG F m S.Hd S.e Gd (S.Hd q):=by
    rcases Rat.le_iff_lt_or_eq.mp gq with z | z
    ·exact z
    ·exact absurd z.symm g0
   rw [(E Gd T.sGd).1,flip];have k:=Rat.mul_pos (a := -vG F m S.Hd S.e (F x)) (by grind) (Rat.mul_pos gp (Rat.inv_pos.mpr ap));rw [Bb];grind
end
def Chain (St:Sit→Sit→Prop) (L:Nat) (f:Nat→Sit):Prop:=∀ k,k<L→St (f k) (f (k+1))
theorem Chain.snoc {St:Sit→Sit→Prop} {L:Nat} {f:Nat→Sit} {b:Sit} (h:Chain St L f) (s:St (f L) b):Chain St (L+1) (fun k=>if k≤L then f k else b):=fun k hk=>by
 dsimp only
 by_cases e:k=L
 ·subst e
  rw [if_pos (Nat.le_refl _),if_neg (by omega)];exact s
 ·rw [if_pos (by omega),if_pos (by omega)]
  exact h k (by omega)
theorem Chain.inv {St:Sit→Sit→Prop} {L:Nat} {f:Nat→Sit} (I:Sit→Prop) (h:Chain St L f) (on:∀ a b,I a→St a b→I b) (h0:I (f 0)):∀ k,k≤L→I (f k)
 | 0,_=>h0
 | k+1,hk=>on _ _ (Chain.inv I h on h0 k (by omega)) (h k (by omega))
theorem run_bound {L Kb n:Nat} {f:Nat→Sit} {D:Sit→Dic} {v:Sit→Rat} {s t:Nat→Nat}
  (up:∀ k,k<L→v (f k)<v (f (k+1))∨(v (f (k+1))=v (f k)∧StepB (D (f k)) (D (f (k+1))) (s k) (t k)))
  (rel:∀ i j,i≤L→j≤L→∀ x∈(D (f i)).heads,(D (f i)).g x=(if x∈(D (f j)).heads then (D (f j)).g x else 0) - sumR ((D (f j)).heads.filter fun c=>decide (c∈(D (f i)).lines)) fun c=>(D (f j)).g c*(D (f i)).a c x)
  (same:∀ i j,i≤L→j≤L→(D (f i)).heads=(D (f j)).heads→v (f i)=v (f j))
  (hl:∀ k,k≤L→(D (f k)).heads.length=n∧∀ x∈(D (f k)).heads,x<Kb):L+1≤Kb^n:=by
 have apart:∀ i d,0<d→i+d≤L→(D (f i)).heads≠(D (f (i+d))).heads:=fun i d d0 hd e=>by
  refine no_return (f:=fun k=>D (f (i+k))) (s:=fun k=>s (i+k)) (t:=fun k=>t (i+k)) (v:=fun k=>v (f (i+k))) (L:=d) d0 (fun k hk=>up (i+k) (by omega)) (fun x=>?_) ?_ fun a b ha hb=>rel (i+a) (i+b) (by omega) (by omega)
  ·show x∈(D (f (i+d))).heads↔x∈(D (f i)).heads
   rw [e]
  ·exact (same i (i+d) (by omega) hd e).symm
 have nd:((List.range (L+1)).map fun k=>(D (f k)).heads).Nodup:=by
  refine List.pairwise_map.mpr (List.Pairwise.imp_of_mem (R:=fun a b=>a≠b) (fun {i j} hi hj ne z=>?_) List.nodup_range);have hi:=List.mem_range.mp hi;have hj:=List.mem_range.mp hj
  rcases Nat.lt_or_gt_of_ne ne with l | l
  ·exact apart i (j - i) (by omega) (by omega) (by rw [show i+(j - i)=j by omega]; exact z)
  ·exact apart j (i - j) (by omega) (by omega) (by rw [show j+(i - j)=i by omega]; exact z.symm)
 have k:=lists_le (K:=Kb) (n:=n) nd fun l hl'=>by
  obtain ⟨k,hk,e⟩:=List.mem_map.mp hl';have hk:=List.mem_range.mp hk;rw [← e];exact hl k (by omega)
 rwa [Av,Ar] at k
section
variable {F:Vecs} {m:Nat} {G Gd:Nat→Int} {act:List Nat}
def NextC (F:Vecs) (m:Nat) (G:Nat→Int) (act:List Nat) (S S':Sit):Prop:=∃ i c x q,StC F m G act S i c x q∧S'=sitX F m act S i c q x
def NextM (F:Vecs) (m:Nat) (Gd:Nat→Int) (act:List Nat) (S S':Sit):Prop:=∃ i c x q,StM F m Gd act S i c x q∧S'=sitX F m act S i c q x
theorem lt_ne {a b:Rat} (h:a<b):b≠a:=fun z=>by rw [z] at h; exact absurd h Rat.lt_irrefl
theorem names_len (S:Sit) (i c q x:Nat):(sitX F m act S i c q x).t.names.length=S.t.names.length:=List.length_set
theorem heads_len (S:Sit) (i c q x:Nat):(sitX F m act S i c q x).t.heads.length=S.t.heads.length:=List.length_set
theorem runC_bound {L Kb:Nat} {f:Nat→Sit} (T:SitI F m G Gd act (f 0)) (h:Chain (NextC F m G act) L f) (hK:∀ x,(x∈(f 0).t.names∨x∈yj m (f 0).Hd)→x<Kb):L+1≤Kb^(f 0).t.heads.length:=by
 have inv:=h.inv (fun S=>SitI F m G Gd act S∧Kin m act (f 0) S∧S.t.heads.length=(f 0).t.heads.length) (fun a b ⟨T1,K1,l1⟩ ⟨i,c,x,q,st,e⟩=>by
  subst e;have X:=sit_X T1 st.hi st.hc (lt_ne st.apos);exact ⟨X.1,K1.trans X.2.1,(heads_len _ _ _ _ _).trans l1⟩) ⟨T,Kin.refl _,rfl⟩
 have ch:∀ k,∃ s t:Nat,k<L→vG F m (f k).Hd (f k).e G<vG F m (f (k+1)).Hd (f (k+1)).e G∨(vG F m (f (k+1)).Hd (f (k+1)).e G=vG F m (f k).Hd (f k).e G∧StepB (dicC F m G (f k)) (dicC F m G (f (k+1))) s t):=fun k=>by
  by_cases hk:k<L
  ·obtain ⟨i,c,x,q,st,e⟩:=h k hk
   refine ⟨(f k).Hd q,x,fun _=>?_⟩;rw [e];exact (stC_on (inv k (by omega)).1 st).2
  ·exact ⟨0,0,fun z=>absurd z hk⟩
 refine run_bound (D:=dicC F m G) (v:=fun S=>vG F m S.Hd S.e G) (s:=fun k=>Classical.choose (ch k)) (t:=fun k=>Classical.choose (Classical.choose_spec (ch k))) (fun k hk=>Classical.choose_spec (Classical.choose_spec (ch k)) hk)
  (fun i j hi hj=>rel_C (inv i hi).1 (inv j hj).1 ((inv i hi).2.1.symm.trans (inv j hj).2.1)) (fun i j hi hj z=>v_same (inv i hi).1 (inv j hj).1 ((inv i hi).2.1.symm.trans (inv j hj).2.1) T.sG (.inl z)) fun k hk=>⟨(inv k hk).2.2,fun x hx=>hK x (((inv k hk).2.1.uni x).mpr (.inr (xq (inv k hk).1 hx)))⟩
theorem runM_bound {L Kb:Nat} {f:Nat→Sit} (T:SitI F m G Gd act (f 0)) (h:Chain (NextM F m Gd act) L f) (hK:∀ x,(x∈(f 0).t.names∨x∈yj m (f 0).Hd)→x<Kb):L+1≤Kb^(f 0).t.names.length:=by
 have inv:=h.inv (fun S=>SitI F m G Gd act S∧Kin m act (f 0) S∧S.t.names.length=(f 0).t.names.length) (fun a b ⟨T1,K1,l1⟩ ⟨i,c,x,q,st,e⟩=>by
  subst e;have X:=sit_X T1 st.hi st.hc (Ne.symm (lt_ne st.aneg));exact ⟨X.1,K1.trans X.2.1,(names_len _ _ _ _ _).trans l1⟩) ⟨T,Kin.refl _,rfl⟩
 have ch:∀ k,∃ s t:Nat,k<L → -vG F m (f k).Hd (f k).e Gd < -vG F m (f (k+1)).Hd (f (k+1)).e Gd∨(-vG F m (f (k+1)).Hd (f (k+1)).e Gd = -vG F m (f k).Hd (f k).e Gd∧StepB (dicM F m Gd (f k)) (dicM F m Gd (f (k+1))) s t):=fun k=>by
  by_cases hk:k<L
  ·obtain ⟨i,c,x,q,st,e⟩:=h k hk
   refine ⟨x,(f k).Hd q,fun _=>?_⟩;rw [e];exact (stM_on (inv k (by omega)).1 st).2
  ·exact ⟨0,0,fun z=>absurd z hk⟩
 refine run_bound (D:=dicM F m Gd) (v:=fun S => -vG F m S.Hd S.e Gd) (s:=fun k=>Classical.choose (ch k)) (t:=fun k=>Classical.choose (Classical.choose_spec (ch k))) (fun k hk=>Classical.choose_spec (Classical.choose_spec (ch k)) hk)
  (fun i j hi hj=>rel_M (inv i hi).1 (inv j hj).1 ((inv i hi).2.1.symm.trans (inv j hj).2.1)) (fun i j hi hj z=>by rw [v_same (inv i hi).1 (inv j hj).1 ((inv i hi).2.1.symm.trans (inv j hj).2.1) T.sGd (.inr z)]) fun k hk=>⟨(inv k hk).2.2,fun x hx=>hK x (((inv k hk).2.1.uni x).mpr (.inl hx))⟩
end
end BP
namespace BP
section
variable {F:Vecs} {m:Nat} {G Gd:Nat→Int} {act:List Nat} {S:Sit}
theorem rat_back {z:Int} {b:Rat} {B:Int} (hB:B≠0) (h:b=(z:Rat)/(B:Rat)):(z:Rat)=b*(B:Rat):=by
 have:(B:Rat)≠0:=fun w=>hB (Rat.intCast_inj.mp (show (B:Rat)=((0:Int):Rat) from w))
 rw [h];exact (Rat.div_mul_cancel this).symm
theorem bot_ne0 (T:SitI F m G Gd act S):S.t.bot≠0:=by rw [T.bot]; have:=T.gh.pos; omega
theorem VX (T:SitI F m G Gd act S):0<S.t.bot:=by rw [T.bot]; exact T.gh.pos
theorem heads_len0 (T:SitI F m G Gd act S):S.t.heads.length=act.length:=by rw [T.heads,Av]
theorem act_at (T:SitI F m G Gd act S) {j h:Nat} (hj:S.t.heads[j]?=some h):∃ q,act[j]?=some q∧S.Hd q=h∧q<m:=by
 rw [T.heads,List.getElem?_map] at hj
 cases e:act[j]? with
 | none=>rw [e] at hj; cases hj
 | some q=>rw [e] at hj; exact ⟨q,rfl,B0 hj,T.lt q (Af e)⟩
theorem lineG_num (T:SitI F m G Gd act S) {z:Nat→Int} {j h:Nat} (hj:S.t.heads[j]?=some h):(((lineG m act (nuG F m S.Hd S.e z)).getD j 0:Int):Rat)=gG F m S.Hd S.e z h*(S.t.bot:Rat):=by
 obtain ⟨q,hq,e,qm⟩:=act_at T hj;rw [qZ (xx hq)];refine rat_back (bot_ne0 T) ?_;rw [← e,gG_at T.gh qm,T.bot]
 simp
theorem lineG_lastR (T:SitI F m G Gd act S) {z:Nat→Int}:(((lineG m act (nuG F m S.Hd S.e z)).getD S.t.heads.length 0:Int):Rat)=vG F m S.Hd S.e z*(S.t.bot:Rat):=by
 rw [heads_len0 T,qZ ZX];refine rat_back (bot_ne0 T) ?_;rw [T.bot];rfl
theorem line_is (T:SitI F m G Gd act S) {i x:Nat} (hi:S.t.names[i]?=some x):S.t.lines[i]?=some (lineG m act (nuG F m S.Hd S.e (F x))):=by rw [T.lines,List.getElem?_map,hi]; rfl
theorem Yv (T:SitI F m G Gd act S) {i x j h:Nat} {l:List Int} (hi:S.t.names[i]?=some x) (hl:S.t.lines[i]?=some l) (hj:S.t.heads[j]?=some h):((l.getD j 0:Int):Rat)=gG F m S.Hd S.e (F x) h*(S.t.bot:Rat):=by
 rw [line_is T hi] at hl
 cases hl
 exact lineG_num T hj
theorem YK (T:SitI F m G Gd act S) {i x:Nat} {l:List Int} (hi:S.t.names[i]?=some x) (hl:S.t.lines[i]?=some l):((l.getD S.t.heads.length 0:Int):Rat)=vG F m S.Hd S.e (F x)*(S.t.bot:Rat):=by
 rw [line_is T hi] at hl
 cases hl
 exact lineG_lastR T
theorem YW (T:SitI F m G Gd act S) {j h:Nat} (hj:S.t.heads[j]?=some h):((S.t.goal.getD j 0:Int):Rat)=gG F m S.Hd S.e G h*(S.t.bot:Rat):=by rw [T.goal]; exact lineG_num T hj
theorem guide_at (T:SitI F m G Gd act S) {j h:Nat} (hj:S.t.heads[j]?=some h):((S.t.guide.getD j 0:Int):Rat)=gG F m S.Hd S.e Gd h*(S.t.bot:Rat):=by rw [T.guide]; exact lineG_num T hj
theorem goal_last (T:SitI F m G Gd act S):((S.t.goal.getD S.t.heads.length 0:Int):Rat)=vG F m S.Hd S.e G*(S.t.bot:Rat):=by rw [T.goal]; exact lineG_lastR T
theorem botR (T:SitI F m G Gd act S):(0:Rat)<(S.t.bot:Rat):=Rat.intCast_pos.mpr (VX T)
theorem wz {z:Int} {b B:Rat} (hB:0<B) (h:(z:Rat)=b*B):z<0↔b<0:=by
 rw [← Rat.intCast_lt_intCast,h]
 constructor
 ·intro k
  refine Classical.byContradiction fun n=>?_
  have:=Rat.mul_nonneg (Rat.not_lt.mp n) (Rat.le_of_lt hB);exact (Rat.not_lt.mpr this) k
 ·intro k
  have:=Rat.mul_lt_mul_of_pos_right k hB;rw [Rat.zero_mul] at this;exact this
theorem sign_pos {z:Int} {b B:Rat} (hB:0<B) (h:(z:Rat)=b*B):0<z↔0<b:=by
 have k:=wz (z := -z) (b := -b) hB (by rw [Rat.intCast_neg,h]; grind)
 constructor
 ·intro p
  have:=k.mp (by omega);grind
 ·intro p
  have:=k.mpr (by grind);omega
theorem J0 {z:Int} {b B:Rat} (hB:0<B) (h:(z:Rat)=b*B):z=0↔b=0:=by
 have n:B≠0:=fun w=>by rw [w] at hB; exact absurd hB Rat.lt_irrefl
 constructor
 ·intro p
  rw [p] at h;have h:(0:Rat)=b*B:=h
  rcases Rat.mul_eq_zero.mp h.symm with y | y
  ·exact y
  ·exact absurd y n
 ·intro p
  rw [p,Rat.zero_mul] at h;exact Rat.intCast_inj.mp h
theorem cross_le {a b c d:Int} {x y u v B:Rat} (hB:0<B) (ha:(a:Rat)=x*B) (hb:(b:Rat)=y*B) (hc:(c:Rat)=u*B) (hd:(d:Rat)=v*B):(a*b≤c*d↔x*y≤u*v)∧(a*b=c*d↔x*y=u*v):=by
 have BB:0<B*B:=Rat.mul_pos hB hB;have n:B*B≠0:=fun w=>by rw [w] at BB; exact absurd BB Rat.lt_irrefl
 have e1:((a*b:Int):Rat)=x*y*(B*B):=by rw [Ay,ha,hb]; grind
 have e2:((c*d:Int):Rat)=u*v*(B*B):=by rw [Ay,hc,hd]; grind
 constructor
 ·rw [← Rat.intCast_le_intCast,e1,e2]
  constructor
  ·intro k; exact W2 k BB
  ·intro k; exact Rat.mul_le_mul_of_nonneg_right k (Rat.le_of_lt BB)
 ·rw [← Rat.intCast_inj,e1,e2]
  constructor
  ·intro k
   have:(x*y - u*v)*(B*B)=0:=by grind
   rcases Rat.mul_eq_zero.mp this with z | z
   ·grind
   ·exact absurd z n
  ·intro k; rw [k]
def Seat (F:Vecs) (m:Nat) (S:Sit):Prop:=∀ h∈S.t.heads,S.t.rooms≤h→∀ x∈S.t.names,x<S.t.rooms→gG F m S.Hd S.e (F x) h=0
theorem g_other (T:SitI F m G Gd act S) {q k:Nat} (hq:q<m) (hk:k<m) (ne:k≠q):gG F m S.Hd S.e (F (S.Hd q)) (S.Hd k)=0:=by
 rw [gG_at T.gh hk];have w:=nu_other (F:=F) (m:=m) (Hd:=S.Hd) (e:=S.e) (k:=k) (j:=q) (by omega) (by omega) (Ne.symm ne);rw [Jz hq] at w;rw [w,Bb];show -(0:Rat)*_=0;grind
theorem seat_X (T:SitI F m G Gd act S) {i c q x:Nat} (hi:S.t.names[i]?=some x) (hc:act[c]?=some q) (n0:gG F m S.Hd S.e (F x) (S.Hd q)≠0) (xr:x<S.t.rooms) (s:Seat F m S):Seat F m (sitX F m act S i c q x):=by
 obtain ⟨T2,K,mn,mh,E⟩:=sit_X T hi hc n0;have hq:q<m:=T.lt q (Af hc);have xm:=Af hi;intro h hh hr y hy yr;have hr:S.t.rooms≤h:=hr;have yr:y<S.t.rooms:=yr
 rcases (mh h).mp hh with ⟨h1,h2⟩ | h1
 ·have zx:=s h h1 hr x xm xr
  have f:=(E (F y) (T.sF y)).2.2 h h1 h2;rw [f,zx,Rat.zero_mul]
  rcases (mn y).mp hy with ⟨y1,_⟩ | y1
  ·rw [s h h1 hr y y1 yr]
   grind
  ·obtain ⟨k,ka,ek⟩:=(YV T).mp h1
   rw [y1,← ek,g_other T hq (T.lt k ka) fun z=>h2 (by rw [← ek,z])];grind
 ·omega
structure BndG (F:Vecs) (m:Nat) (G Gd:Nat→Int) (M:Nat):Prop where
 one:1≤M
 f:∀ x c,(F x c).natAbs≤M
 g:∀ c,(G c).natAbs≤M
 gd:∀ c,(Gd c).natAbs≤M
 sm:facN (m+1)*M^(m+1)<2^6700
theorem lineG_sm {M:Nat} (T:SitI F m G Gd act S) (B:BndG F m G Gd M) {z:Nat→Int} (hz:∀ c,(z c).natAbs≤M):∀ n∈lineG m act (nuG F m S.Hd S.e z),n.natAbs<2^6700:=fun n hn=>by
 have all:∀ k,(nuG F m S.Hd S.e z k).natAbs<2^6700:=fun k=>Ao (nu_le T.gh.e1 B.one (fun j _ c _=>B.f _ c) (fun c _=>hz c) k) B.sm
 unfold lineG at hn
 rcases Aw.mp hn with h | h
 ·obtain ⟨k,_,e⟩:=List.mem_map.mp h
  rw [← e,Int.natAbs_neg];exact all k
 ·rw [Al.mp h]
  exact all m
end
end BP
namespace L2
open PySem PySem.Spec PyProof.Rows BP
section
variable {X:Cx}
def rEqTE (K:Bc):R2:=fun x y H Q=>∃ p r xs,x=.ref p∧y=.ref r∧SqT K H p xs∧SqT K H r []∧Q (.bl xs.isEmpty) H
theorem op_eqTE (hu:X.A.units+1<cLine):OpR X (compareOp .Eq) (rEqTE X.K):=by
 intro pins s σ H x y v u Q I rx ry h;obtain ⟨p,r,xs,rfl,rfl,ha,hb,q⟩:=h
 cases rx
 cases ry
 obtain ⟨its,r1,p1,_⟩:=I.tuple ha;obtain ⟨its2,r2,p2,_⟩:=I.tuple hb
 cases r2
 have h1:=r1.length;refine SeqAt.eq_tupleAt (e:=fun _=>true) p1 p2 (by omega) (fun j g1 g2=>absurd g2 (by simp)) ⟨.bl _,H,I,rfl,?_⟩
 cases xs with
 | nil =>
  cases r1
  exact q
 | cons z zs =>
  cases r1 with
  | cons a b=>exact q
end
end L2
namespace L2
open PySem
section
variable {X:Cx}
def bS (s:Stmt) (i:Nat):Stmt:=(yw s).getD i (.Pass ⟨0,0,0,0⟩)
theorem body3 {s:Stmt} {t0 t1 t2:TS} (hb:yw s=[bS s 0,bS s 1,bS s 2]) (h0:PS X (bS s 0) t0) (h1:PS X (bS s 1) t1) (h2:PS X (bS s 2) t2) {D:Ends} {σ:St} {H:Hp} (k:let u0:=t0; let u1:=t1; let u2:=t2; (tSeq u0 (tSeq u1 u2)) D σ H):∃ t,PSs X (yw s) t∧t D σ H:=by
 refine ⟨(tSeq t0 (tSeq t1 t2)),?_,k⟩;rw [hb];exact (qJ h0 (qJ h1 (qX h2)))
theorem body4 {s:Stmt} {t0 t1 t2 t3:TS} (hb:yw s=[bS s 0,bS s 1,bS s 2,bS s 3]) (h0:PS X (bS s 0) t0) (h1:PS X (bS s 1) t1) (h2:PS X (bS s 2) t2) (h3:PS X (bS s 3) t3) {D:Ends} {σ:St} {H:Hp} (k:let u0:=t0; let u1:=t1; let u2:=t2; let u3:=t3; (tSeq u0 (tSeq u1 (tSeq u2 u3))) D σ H):∃ t,PSs X (yw s) t∧t D σ H:=by
 refine ⟨(tSeq t0 (tSeq t1 (tSeq t2 t3))),?_,k⟩;rw [hb];exact (qJ h0 (qJ h1 (qJ h2 (qX h3))))
theorem body5 {s:Stmt} {t0 t1 t2 t3 t4:TS} (hb:yw s=[bS s 0,bS s 1,bS s 2,bS s 3,bS s 4]) (h0:PS X (bS s 0) t0) (h1:PS X (bS s 1) t1) (h2:PS X (bS s 2) t2) (h3:PS X (bS s 3) t3) (h4:PS X (bS s 4) t4) {D:Ends} {σ:St} {H:Hp} (k:let u0:=t0; let u1:=t1; let u2:=t2; let u3:=t3; let u4:=t4; (tSeq u0 (tSeq u1 (tSeq u2 (tSeq u3 u4)))) D σ H):∃ t,PSs X (yw s) t∧t D σ H:=by
 refine ⟨(tSeq t0 (tSeq t1 (tSeq t2 (tSeq t3 t4)))),?_,k⟩;rw [hb];exact (qJ h0 (qJ h1 (qJ h2 (qJ h3 (qX h4)))))
theorem body6 {s:Stmt} {t0 t1 t2 t3 t4 t5:TS} (hb:yw s=[bS s 0,bS s 1,bS s 2,bS s 3,bS s 4,bS s 5]) (h0:PS X (bS s 0) t0) (h1:PS X (bS s 1) t1) (h2:PS X (bS s 2) t2) (h3:PS X (bS s 3) t3) (h4:PS X (bS s 4) t4) (h5:PS X (bS s 5) t5) {D:Ends} {σ:St} {H:Hp} (k:let u0:=t0; let u1:=t1; let u2:=t2; let u3:=t3; let u4:=t4; let u5:=t5; (tSeq u0 (tSeq u1 (tSeq u2 (tSeq u3 (tSeq u4 u5))))) D σ H):∃ t,PSs X (yw s) t∧t D σ H:=by
 refine ⟨(tSeq t0 (tSeq t1 (tSeq t2 (tSeq t3 (tSeq t4 t5))))),?_,k⟩;rw [hb];exact (qJ h0 (qJ h1 (qJ h2 (qJ h3 (qJ h4 (qX h5))))))
theorem body7 {s:Stmt} {t0 t1 t2 t3 t4 t5 t6:TS} (hb:yw s=[bS s 0,bS s 1,bS s 2,bS s 3,bS s 4,bS s 5,bS s 6]) (h0:PS X (bS s 0) t0) (h1:PS X (bS s 1) t1) (h2:PS X (bS s 2) t2) (h3:PS X (bS s 3) t3) (h4:PS X (bS s 4) t4) (h5:PS X (bS s 5) t5) (h6:PS X (bS s 6) t6) {D:Ends} {σ:St} {H:Hp} (k:let u0:=t0; let u1:=t1; let u2:=t2; let u3:=t3; let u4:=t4; let u5:=t5; let u6:=t6; (tSeq u0 (tSeq u1 (tSeq u2 (tSeq u3 (tSeq u4 (tSeq u5 u6)))))) D σ H):∃ t,PSs X (yw s) t∧t D σ H:=by
 refine ⟨(tSeq t0 (tSeq t1 (tSeq t2 (tSeq t3 (tSeq t4 (tSeq t5 t6)))))),?_,k⟩;rw [hb];exact (qJ h0 (qJ h1 (qJ h2 (qJ h3 (qJ h4 (qJ h5 (qX h6)))))))
theorem body10 {s:Stmt} {t0 t1 t2 t3 t4 t5 t6 t7 t8 t9:TS} (hb:yw s=[bS s 0,bS s 1,bS s 2,bS s 3,bS s 4,bS s 5,bS s 6,bS s 7,bS s 8,bS s 9]) (h0:PS X (bS s 0) t0) (h1:PS X (bS s 1) t1) (h2:PS X (bS s 2) t2) (h3:PS X (bS s 3) t3) (h4:PS X (bS s 4) t4) (h5:PS X (bS s 5) t5) (h6:PS X (bS s 6) t6) (h7:PS X (bS s 7) t7) (h8:PS X (bS s 8) t8) (h9:PS X (bS s 9) t9) {D:Ends} {σ:St} {H:Hp} (k:let u0:=t0; let u1:=t1; let u2:=t2; let u3:=t3; let u4:=t4; let u5:=t5; let u6:=t6; let u7:=t7; let u8:=t8; let u9:=t9; (tSeq u0 (tSeq u1 (tSeq u2 (tSeq u3 (tSeq u4 (tSeq u5 (tSeq u6 (tSeq u7 (tSeq u8 u9))))))))) D σ H):∃ t,PSs X (yw s) t∧t D σ H:=by
 refine ⟨(tSeq t0 (tSeq t1 (tSeq t2 (tSeq t3 (tSeq t4 (tSeq t5 (tSeq t6 (tSeq t7 (tSeq t8 t9))))))))),?_,k⟩;rw [hb];exact (qJ h0 (qJ h1 (qJ h2 (qJ h3 (qJ h4 (qJ h5 (qJ h6 (qJ h7 (qJ h8 (qX h9))))))))))
theorem body13 {s:Stmt} {t0 t1 t2 t3 t4 t5 t6 t7 t8 t9 t10 t11 t12:TS} (hb:yw s=[bS s 0,bS s 1,bS s 2,bS s 3,bS s 4,bS s 5,bS s 6,bS s 7,bS s 8,bS s 9,bS s 10,bS s 11,bS s 12]) (h0:PS X (bS s 0) t0) (h1:PS X (bS s 1) t1) (h2:PS X (bS s 2) t2) (h3:PS X (bS s 3) t3) (h4:PS X (bS s 4) t4) (h5:PS X (bS s 5) t5) (h6:PS X (bS s 6) t6) (h7:PS X (bS s 7) t7) (h8:PS X (bS s 8) t8) (h9:PS X (bS s 9) t9) (h10:PS X (bS s 10) t10) (h11:PS X (bS s 11) t11) (h12:PS X (bS s 12) t12) {D:Ends} {σ:St} {H:Hp} (k:let u0:=t0; let u1:=t1; let u2:=t2; let u3:=t3; let u4:=t4; let u5:=t5; let u6:=t6; let u7:=t7; let u8:=t8; let u9:=t9; let u10:=t10; let u11:=t11; let u12:=t12; (tSeq u0 (tSeq u1 (tSeq u2 (tSeq u3 (tSeq u4 (tSeq u5 (tSeq u6 (tSeq u7 (tSeq u8 (tSeq u9 (tSeq u10 (tSeq u11 u12)))))))))))) D σ H):∃ t,PSs X (yw s) t∧t D σ H:=by
 refine ⟨(tSeq t0 (tSeq t1 (tSeq t2 (tSeq t3 (tSeq t4 (tSeq t5 (tSeq t6 (tSeq t7 (tSeq t8 (tSeq t9 (tSeq t10 (tSeq t11 t12)))))))))))),?_,k⟩;rw [hb];exact (qJ h0 (qJ h1 (qJ h2 (qJ h3 (qJ h4 (qJ h5 (qJ h6 (qJ h7 (qJ h8 (qJ h9 (qJ h10 (qJ h11 (qX h12)))))))))))))
end
end L2
namespace L2
open PySem PySem.Spec PyProof.Rows BP
section
variable {prog:Program} {w:World} {A:Around} {E:Value→Shared→Prop} {s:Shared} {I l S:Addr}
theorem rev_taken {items:Array Value} {c0:Nat} {res:Value} {R:Result→Shared→Prop} (hh:A.handled=none) (hne:l≠I) (nI:S≠I) (nl:S≠l) (hit:s.heap.IsRevIter I l ((items.size:Int) - 1)) (hl:s.heap.IsList l items) (hn:items.size≤sizeLine) (hS:s.heap.get? S=some { cls:=.type "list",data:=.seq #[] c0 })
  (hR:∀ s2 acc c2,Moved [S,I] (fun a b=>b=a) s s2→s2.heap.get? S=some { cls:=.type "list",data:=.seq acc c2 }→ItemsOf (fun i v=>items[items.size - 1 - i]?=some v) acc items.size→R (.ok (.ret res)) s2) :
  wpAny (model prog w) A.in1 (Builtin.List.listExtendWith (.ref S) (.ref I) res) (fun fin s'=>match fin with | .done f=>R (.ok f) s' | .again c'=>c'.quiet=true∧codeAny (model prog w) A c' R s') (fun e s'=>R (.error e) s') s:=by
 have W:=(Walks.listRev (prog:=prog) (w:=w) (A:=A.in1) hh I l hne items).toS;have nf:S∉[I,l]:=fun z=>by
  rcases List.mem_cons.mp z with y | y
  ·exact nI y
  ·exact nl (Al.mp y)
 have ty:=hit.typeIs (s:=s);unfold Builtin.List.listExtendWith; refine wpAny_bind <| wpAny_typeOf ty ?_;rw [show Builtin.List.listSameRef (.ref S) (.ref I)=false by simp [Builtin.List.listSameRef,nI],if_neg (by decide)];refine wpAny_bind <| W.self 0 _ _ _ ⟨Nat.zero_le _,by simpa using hit,hl⟩ <| wpAny_bind <| wpAny_holding ?_;unfold Builtin.List.listLengthHint; refine wpAny_bind <| wpAny_specialOf ty rev_nolen ?_;change wpAny _ A.in1 (specialOf (Value.ref I) (Str.ofString "__length_hint__") >>= _) _ _ _;refine wpAny_bind <| wpAny_specialOf ty rev_hint ?_;generalize hid:("list_reverseiterator.__length_hint__" : String)=id0
 wp_delta
 rw [show splitId id0=some ("list_reverseiterator", "__length_hint__") by subst hid; decide +kernel];subst hid;refine wpAny_bind <| wpAny_isInstance (b:=true) ty (by rw [isSubtype_type]; kernel_rfl) <| wpAny_pure ?_;rw [if_neg (by decide)];exact wpAny_pure ⟨plainId_quiet F.plain_extend_loop _,codeAny_extend_loopS W hn _ nf _ items.size 0 _ _ _ rfl (Nat.zero_le _) ⟨Nat.zero_le _,by simpa using hit,hl⟩ hS (ItemsOf.nil _) fun s2 acc c2 hm e2 ha=>hR s2 acc c2 hm e2 ha⟩
theorem list_rev {items:Array Value} {Q:Value→Shared→Prop} (hh:A.handled=none) (hne:l≠I) (hit:s.heap.IsRevIter I l ((items.size:Int) - 1)) (hl:s.heap.IsList l items) (hn:items.size≤sizeLine)
  (hQ:∀ s2 acc c2,(∀ b o,b≠I→s.heap.get? b=some o→s2.heap.get? b=some o)→s2.gens=s.gens→s2.drawn=s.drawn→s2.os=s.os→s2.heap.get? s.heap.objs.size=some { cls:=.type "list",data:=.seq acc c2 }→ItemsOf (fun i v=>items[items.size - 1 - i]?=some v) acc items.size→Q (.ref s.heap.objs.size) s2) :
  wpAny (model prog w) A (call (.type "list") [.ref I]) Q E s:=by
 have lI:I<s.heap.objs.size:=by
  obtain ⟨o,e,_⟩:=id hit;exact Heap.lt_size e
 have ll:l<s.heap.objs.size:=by
  obtain ⟨o,e,_⟩:=id hl;exact Heap.lt_size e
 refine callType_codes (Q₁:=fun ob s1=>ob=.ref s.heap.objs.size∧s1={ s with heap:=s.heap.push { cls:=.type "list",data:=.seq #[] } }) F.called_list (F.typeCall_list_1 _) F.entry_list_init (code_list_new _ ⟨rfl,rfl⟩) ?_;rintro _ _ ⟨rfl,rfl⟩;have e0:(s.heap.push { cls:=.type "list",data:=.seq #[] }).get? s.heap.objs.size=some { cls:=.type "list",data:=.seq #[] }:=Heap.get?_push_size _ rfl;refine ⟨⟨_,e0,rfl⟩,F.args_list_init_2 _ _,?_⟩;change wpAny _ _ (Builtin.List.listItems _ >>= fun old=>Builtin.List.listUpdate _ (fun _=>#[]) >>= fun _=>letGo old.toList.reverse >>= fun _=>Builtin.List.listExtendWith _ (.ref I) .none) _ _ _;unfold Builtin.List.listItems;refine wpAny_bind <| wpAny_bind <| wpAny_seqItems e0 rfl <| wpAny_pure <| wpAny_bind <| wpAny_updateSeq e0 rfl <| wpAny_bind <| wpAny_letGo ?_;have kp:∀ b o,s.heap.get? b=some o→((s.heap.push { cls:=.type "list",data:=.seq #[] }).update s.heap.objs.size (Obj.mapSeq fun _=>(#[]:Array Value))).get? b=some o:=fun b o e=>(Heap.get?_update_other _ _ (Nat.ne_of_gt (Heap.lt_size e))).trans (Heap.get?_push_of_some _ e)
 refine rev_taken (A:=A.in1) (l:=l) (items:=items) hh hne (Nat.ne_of_gt lI) (Nat.ne_of_gt ll) ?_ ?_ hn (Heap.get?_update_self _ e0 rfl) fun s2 acc c2 hm e2 ha=>⟨rfl,hQ s2 acc c2 (fun b o nb e=>hm.heap b o (fun z=>?_) (kp b o e)) hm.gens hm.drawn hm.os e2 ha⟩
 ·exact hit.at fun o e=>kp _ o e
 ·exact hl.at fun o e=>kp _ o e
 ·rcases List.mem_cons.mp z with y | y
  ·exact absurd (Heap.lt_size e) (by rw [y]; exact Nat.lt_irrefl _)
  ·exact nb (Al.mp y)
end
section
variable {X:Cx}
def tListRev (te:TE):TE:=fun σ H Q=>te σ H fun x H1=>∃ (p:Addr) (vs:List V),x=.ref p∧H1 p=some (.lst vs)∧vs.length≤1000∧∀ l,H1 l=none→Q (.ref l) (upd H1 l (.lst vs.reverse))
theorem pe_listRev {e:Expr} {te:TE} {q p p1 cpos:Pos} (hc:X.calm=true) (hg:Gl X "reversed") (hm:X.mg "reversed" = none) (gl:Gl X "list") (ml:X.mg "list" = none) (he:PE X e te) (hs:starEach [e] X.env=[(false,eval e X.env)]:=by rfl)
  (hs2:starEach [.Call (.Name "reversed" p) [e] [] p1] X.env=[(false,eval (.Call (.Name "reversed" p) [e] [] p1) X.env)]:=by rfl) :
  PE X (.Call (.Name "list" q) [.Call (.Name "reversed" p) [e] [] p1] [] cpos) (tListRev te):=by
 intro pins s σ H Q I h;refine wpAny_Call_Name_kw (V2 I gl ml boot_list ?_ (by decide) (by decide));refine PyProof.Rows.callWith_type1 ?_ hs2 rfl;rw [hs2];refine Calls.spliced_cons (wpAny_Call_Name_kw (V2 I hg hm Boot.«reversed» ?_ (by decide) (by decide)));refine PyProof.Rows.callWith_type1 (thn (pa_cons he qk hs p1 pins s σ H (fun xs H2=>match xs with | [x]=>∃ (p:Addr) (vs:List V),x=.ref p∧H2 p=some (.lst vs)∧vs.length≤1000∧∀ l,H2 l=none→Q (.ref l) (upd H2 l (.lst vs.reverse)) | _=>False) I ?_) fun us s2 ⟨xs,H2,I2,r2,qv⟩=>?_) hs rfl
 ·exact h
 obtain ⟨x2,rfl⟩:∃ x,xs=[x]:=by
  match xs,qv with
  | [x],_=>exact ⟨x,rfl⟩
 obtain ⟨p2,vs,ex,hp,hz,q⟩:=qv;subst ex;obtain ⟨u2,rfl,ru⟩:=vals1 r2
 cases ru
 obtain ⟨_,its,k,rv,_,eo⟩:=I2.lstM hp;have il:s2.heap.IsList p2 its.toArray:=⟨_,eo,rfl,_,rfl⟩;have lv:vs.length=its.length:=rv.length;have ne:p2≠s2.heap.objs.size:=Nat.ne_of_lt (Heap.lt_size eo);refine call_reversed_list il (Calls.spliced_nil ?_);have hsl:sizeLine=16777216:=sizeLine_eq;refine list_rev (l:=p2) (items:=its.toArray) (I2.ok.hd hc) ne ⟨_,Heap.get?_push_size _ rfl,rfl,rfl⟩ (il.push _) (by simp; omega) fun s4 acc c4 kp a1 a2 a3 e4 ha=>?_
 have nf:s2.heap.objs.size≤(s2.heap.push (revObj p2 ((its.toArray.size:Int) - 1))).objs.size:=by simp [Heap.push]
 have rr:Vals vs.reverse acc.toList:=by
  obtain ⟨h1,h2⟩:=ha;refine vals_of_get (by simp [h1,lv]) fun j x u e1 e2=>?_
  have hj:j<its.length:=by
   have:=(A3.mp e1).1
   simp at this
   omega
  have z:=h2 j u (by simpa using e2);have z1:its[its.length - 1 - j]?=some u:=by simpa using z
  have z2:vs[its.length - 1 - j]?=some x:=by
   rw [List.getElem?_reverse (by omega)] at e1;rw [← lv]; exact e1
  obtain ⟨u',e',rx⟩:=rv.get z2;rw [B0 (z1.symm.trans e')];exact rx
 have e5:s4={ s2 with heap:=s4.heap,toks:=s4.toks }:=by
  obtain ⟨h4,g4,d4,t4,o4⟩:=s4;have a1:g4=s2.gens:=a1;have a2:d4=s2.drawn:=a2;have a3:o4=s2.os:=a3;subst a1 a2 a3;rfl
 rw [e5];refine ⟨.ref _,_,I2.laid (t':=s4.toks) (fun b o e=>kp b o (Nat.ne_of_lt (Heap.lt_size e)) (Heap.get?_push_of_some _ e)) nf (show ObjOk X.prog X.w _ s4.heap _ (.lst _) from ⟨?_,acc.toList,c4,rr,by simpa using e4⟩),rfl,q _ (I2.hok.fresh nf)⟩;rw [List.length_reverse];omega
end
end L2
namespace BP
open PySem L2
theorem W0:FnScope ["_law_cell", "_law_k", "_law_number"] ["_law_cell", "_law_k"] (qQ sy9):=⟨rfl,rfl,rfl,by decide +kernel,rfl,by decide +kernel,by decide +kernel⟩
theorem scy3:FnScope ["_law_script", "_law_k"] ["_law_script", "_law_k"] (qQ JW):=⟨rfl,rfl,rfl,by decide +kernel,rfl,by decide +kernel,by decide +kernel⟩
theorem Jk:FnScope ["_law_number", "_law_k", "_law_wide_here", "_law_j"] ["_law_number", "_law_k"] (qQ syl):=⟨rfl,rfl,rfl,by decide +kernel,rfl,by decide +kernel,by decide +kernel⟩
theorem zY:FnScope ["_law_script", "_law_many_here", "_law_total", "_law_rest", "_law_numbers", "_law_at", "_law_cell", "_law_k", "_law_first", "_law_second"] ["_law_script", "_law_many_here"] (qQ yJ):=⟨rfl,rfl,rfl,by decide +kernel,rfl,by decide +kernel,by decide +kernel⟩
theorem Jw:FnScope ["_law_top", "_law_bottom", "_law_rest", "_law_by"] ["_law_top", "_law_bottom"] (qQ xW):=⟨rfl,rfl,rfl,by decide +kernel,rfl,by decide +kernel,by decide +kernel⟩
theorem vw:FnScope ["_law_number", "_law_great", "_law_top", "_law_way", "_law_far", "_law_tail"] ["_law_number", "_law_great"] (qQ kQ):=⟨rfl,rfl,rfl,by decide +kernel,rfl,by decide +kernel,by decide +kernel⟩
theorem wX:FnScope ["_law_number", "_law_many_here", "_law_great", "_law_shares_here", "_law_k", "_law_nought", "_law_share"] ["_law_number", "_law_many_here", "_law_great"] (qQ kK):=⟨rfl,rfl,rfl,by decide +kernel,rfl,by decide +kernel,by decide +kernel⟩
theorem xV:FnScope ["_law_script", "_law_first", "_law_many_here", "_law_size", "_law_great", "_law_number"] ["_law_script"] (qQ vW):=⟨rfl,rfl,rfl,by decide +kernel,rfl,by decide +kernel,by decide +kernel⟩
theorem scyw:FnScope ["tableau"] ["tableau"] (qQ syw):=⟨rfl,rfl,rfl,by decide +kernel,rfl,by decide +kernel,by decide +kernel⟩
theorem Zz:FnScope ["steps", "best", "step", "ahead"] ["steps"] (qQ xY):=⟨rfl,rfl,rfl,by decide +kernel,rfl,by decide +kernel,by decide +kernel⟩
theorem scyx:FnScope ["line", "through", "column", "bottom", "by", "share"] ["line", "through", "column", "bottom"] (qQ Jy):=⟨rfl,rfl,rfl,by decide +kernel,rfl,by decide +kernel,by decide +kernel⟩
theorem Z6:FnScope ["self", "line", "through", "column", "sign", "fresh"] ["self", "line", "through", "column", "sign"] (qQ yK):=⟨rfl,rfl,rfl,by decide +kernel,rfl,by decide +kernel,by decide +kernel⟩
theorem jY:FnScope ["self", "at", "column", "line", "sign", "through", "fresh", "name"] ["self", "at", "column"] (qQ zJ):=⟨rfl,rfl,rfl,by decide +kernel,rfl,by decide +kernel,by decide +kernel⟩
theorem Y8:FnScope ["tableau", "steps_of", "steps", "step"] ["tableau", "steps_of"] (qQ ZW):=⟨rfl,rfl,rfl,by decide +kernel,rfl,by decide +kernel,by decide +kernel⟩
theorem sczp:FnScope ["self"] ["self"] (qQ Q3):=⟨rfl,rfl,rfl,by decide +kernel,rfl,by decide +kernel,by decide +kernel⟩
theorem jX:FnScope ["tops", "bottoms", "names", "best", "k", "bottom", "ahead"] ["tops", "bottoms", "names"] (qQ v6):=⟨rfl,rfl,rfl,by decide +kernel,rfl,by decide +kernel,by decide +kernel⟩
theorem vX:FnScope ["tableau", "steps", "at", "line", "falls", "column"] ["tableau"] (qQ vj):=⟨rfl,rfl,rfl,by decide +kernel,rfl,by decide +kernel,by decide +kernel⟩
theorem scyo:FnScope ["tableau", "last"] ["tableau"] (qQ syo):=⟨rfl,rfl,rfl,by decide +kernel,rfl,by decide +kernel,by decide +kernel⟩
theorem yZ:FnScope ["tableau", "steps", "ats", "lasts", "names", "column", "head", "number", "takes", "k"] ["tableau"] (qQ yY):=⟨rfl,rfl,rfl,by decide +kernel,rfl,by decide +kernel,by decide +kernel⟩
theorem sczu:FnScope ["tableau", "last"] ["tableau"] (qQ szu):=⟨rfl,rfl,rfl,by decide +kernel,rfl,by decide +kernel,by decide +kernel⟩
theorem sczw:FnScope ["one", "other", "rest"] ["one", "other"] (qQ szw):=⟨rfl,rfl,rfl,by decide +kernel,rfl,by decide +kernel,by decide +kernel⟩
theorem scyy:FnScope ["one", "other", "by", "across"] ["one", "other"] (qQ W1):=⟨rfl,rfl,rfl,by decide +kernel,rfl,by decide +kernel,by decide +kernel⟩
theorem scyq:FnScope ["one", "other"] ["one", "other"] (qQ syq):=⟨rfl,rfl,rfl,by decide +kernel,rfl,by decide +kernel,by decide +kernel⟩
theorem scy0:FnScope ["thing"] ["thing"] (qQ sy0):=⟨rfl,rfl,rfl,by decide +kernel,rfl,by decide +kernel,by decide +kernel⟩
theorem scys:FnScope ["top", "bottom", "by"] ["top", "bottom"] (qQ sys):=⟨rfl,rfl,rfl,by decide +kernel,rfl,by decide +kernel,by decide +kernel⟩
theorem QZ:FnScope ["self", "point", "name", "line"] ["self"] (qQ vY):=⟨rfl,rfl,rfl,by decide +kernel,rfl,by decide +kernel,by decide +kernel⟩
theorem kJ:FnScope ["self", "numbers", "aim", "prices", "head", "number"] ["self", "numbers", "aim"] (qQ jV):=⟨rfl,rfl,rfl,by decide +kernel,rfl,by decide +kernel,by decide +kernel⟩
theorem xy:FnScope ["self", "at", "name", "prices"] ["self", "at"] (qQ yX):=⟨rfl,rfl,rfl,by decide +kernel,rfl,by decide +kernel,by decide +kernel⟩
theorem jx:FnScope ["self", "column", "tableau", "sign", "way", "name", "line"] ["self", "column"] (qQ yk):=⟨rfl,rfl,rfl,by decide +kernel,rfl,by decide +kernel,by decide +kernel⟩
theorem Zj:FnScope ["self", "broken", "column", "worth"] ["self"] (qQ jJ):=⟨rfl,rfl,rfl,by decide +kernel,rfl,by decide +kernel,by decide +kernel⟩
theorem kZ:FnScope ["several", "bottom", "one"] ["several"] (qQ jK):=⟨rfl,rfl,rfl,by decide +kernel,rfl,by decide +kernel,by decide +kernel⟩
theorem Qv:FnScope ["several", "tops", "by", "top"] ["several"] (qQ vQ):=⟨rfl,rfl,rfl,by decide +kernel,rfl,by decide +kernel,by decide +kernel⟩
theorem sczm:FnScope ["self", "lines", "goal"] ["self", "lines", "goal"] (qQ j6):=⟨rfl,rfl,rfl,by decide +kernel,rfl,by decide +kernel,by decide +kernel⟩
theorem sczx:FnScope ["tableau", "at", "column", "wanted"] ["tableau", "at", "column", "wanted"] (qQ szx):=⟨rfl,rfl,rfl,by decide +kernel,rfl,by decide +kernel,by decide +kernel⟩
theorem Zq:FnScope ["tableau", "wanted", "column", "ats"] ["tableau", "wanted"] (qQ v5):=⟨rfl,rfl,rfl,by decide +kernel,rfl,by decide +kernel,by decide +kernel⟩
theorem scza:FnScope ["self", "tableau", "many", "scales", "aim"] ["self", "tableau", "many", "scales", "aim"] (qQ wx):=⟨rfl,rfl,rfl,by decide +kernel,rfl,by decide +kernel,by decide +kernel⟩
theorem scyu:FnScope ["line", "spare"] ["line"] (qQ syu):=⟨rfl,rfl,rfl,by decide +kernel,rfl,by decide +kernel,by decide +kernel⟩
theorem QQ:FnScope ["lines", "goal", "rough_lines", "rough_goal", "tableau"] ["lines", "goal"] (qQ j5):=⟨rfl,rfl,rfl,by decide +kernel,rfl,by decide +kernel,by decide +kernel⟩
theorem sczs:FnScope ["rows", "goal", "lines", "aim", "tableau"] ["rows", "goal"] (qQ YZ):=⟨rfl,rfl,rfl,by decide +kernel,rfl,by decide +kernel,by decide +kernel⟩
theorem sczz:FnScope ["rows", "goal"] ["rows", "goal"] (qQ szz):=⟨rfl,rfl,rfl,by decide +kernel,rfl,by decide +kernel,by decide +kernel⟩
theorem ZZ:FnScope ["_law_first", "_law_second", "_law_many_here", "_law_great", "_law_rest", "_law_shares_here", "_law_more", "_law_bound"] ["_law_first", "_law_second", "_law_many_here", "_law_great", "_law_rest"] (qQ Q9):=⟨rfl,rfl,rfl,by decide +kernel,rfl,by decide +kernel,by decide +kernel⟩
theorem scy4:FnScope ["_law_rows"] ["_law_rows"] (qQ sy4):=⟨rfl,rfl,rfl,by decide +kernel,rfl,by decide +kernel,by decide +kernel⟩
theorem scyk:FnScope ["_law_found"] ["_law_found"] (qQ syk):=⟨rfl,rfl,rfl,by decide +kernel,rfl,by decide +kernel,by decide +kernel⟩
theorem scyd:FnScope ["_law_found", "_law_many_here", "_law_one"] ["_law_found", "_law_many_here"] (qQ kW):=⟨rfl,rfl,rfl,by decide +kernel,rfl,by decide +kernel,by decide +kernel⟩
theorem scyc:FnScope ["_law_rows", "_law_prices"] ["_law_rows", "_law_prices"] (qQ Zx):=⟨rfl,rfl,rfl,by decide +kernel,rfl,by decide +kernel,by decide +kernel⟩
theorem scyi:FnScope ["_law_one", "_law_other", "_law_top"] ["_law_one", "_law_other"] (qQ syi):=⟨rfl,rfl,rfl,by decide +kernel,rfl,by decide +kernel,by decide +kernel⟩
theorem scy7:FnScope ["_law_one", "_law_other"] ["_law_one", "_law_other"] (qQ sy7):=⟨rfl,rfl,rfl,by decide +kernel,rfl,by decide +kernel,by decide +kernel⟩
theorem QK:FnScope ["_law_rows", "_law_prices", "_law_many_here", "_law_shares_here", "_law_bound", "_law_row_here", "_law_price"] ["_law_rows", "_law_prices", "_law_many_here"] (qQ Z7):=⟨rfl,rfl,rfl,by decide +kernel,rfl,by decide +kernel,by decide +kernel⟩
theorem scy2:FnScope ["_law_one", "_law_other"] ["_law_one", "_law_other"] (qQ sy2):=⟨rfl,rfl,rfl,by decide +kernel,rfl,by decide +kernel,by decide +kernel⟩
theorem J3:FnScope ["_law_ones", "_law_others", "_law_total", "_law_one", "_law_other"] ["_law_ones", "_law_others"] (qQ ZJ):=⟨rfl,rfl,rfl,by decide +kernel,rfl,by decide +kernel,by decide +kernel⟩
theorem scy6:FnScope ["_law_rows", "_law_point"] ["_law_rows", "_law_point"] (qQ sy6):=⟨rfl,rfl,rfl,by decide +kernel,rfl,by decide +kernel,by decide +kernel⟩
theorem YQ:FnScope ["_law_rows", "_law_goal", "_law_found", "_law_many_here", "_law_shares_here", "_law_bound"] ["_law_rows", "_law_goal", "_law_found"] (qQ v8):=⟨rfl,rfl,rfl,by decide +kernel,rfl,by decide +kernel,by decide +kernel⟩
theorem Yx:FnScope ["_law_script", "_law_rest", "_law_many_here", "_law_numbers", "_law_great", "_law_point", "_law_rows", "_law_handed", "_law_found", "_law_turned", "_law_again"] ["_law_script"] (qQ sy1):=⟨rfl,rfl,rfl,by decide +kernel,rfl,by decide +kernel,by decide +kernel⟩
set_option genInjectivity false in
set_option genSizeOf false in
structure Adr where
 fy9:Addr
 dy9:FuncData
 fy3:Addr
 dy3:FuncData
 fyl:Addr
 dyl:FuncData
 fyg:Addr
 dyg:FuncData
 fya:Addr
 dya:FuncData
 fyj:Addr
 dyj:FuncData
 fyh:Addr
 dyh:FuncData
 fyb:Addr
 dyb:FuncData
 fyw:Addr
 dyw:FuncData
 fzt:Addr
 dzt:FuncData
 fyx:Addr
 dyx:FuncData
 fzr:Addr
 dzr:FuncData
 fzi:Addr
 dzi:FuncData
 fzy:Addr
 dzy:FuncData
 fzp:Addr
 dzp:FuncData
 fym:Addr
 dym:FuncData
 fyp:Addr
 dyp:FuncData
 fyo:Addr
 dyo:FuncData
 fzv:Addr
 dzv:FuncData
 fzu:Addr
 dzu:FuncData
 fzw:Addr
 dzw:FuncData
 fyy:Addr
 dyy:FuncData
 fyq:Addr
 dyq:FuncData
 fy0:Addr
 dy0:FuncData
 fys:Addr
 dys:FuncData
 fz6:Addr
 dz6:FuncData
 fzc:Addr
 dzc:FuncData
 fz7:Addr
 dz7:FuncData
 fz9:Addr
 dz9:FuncData
 fz8:Addr
 dz8:FuncData
 fyr:Addr
 dyr:FuncData
 fyz:Addr
 dyz:FuncData
 fzm:Addr
 dzm:FuncData
 fzx:Addr
 dzx:FuncData
 fyv:Addr
 dyv:FuncData
 fza:Addr
 dza:FuncData
 fyu:Addr
 dyu:FuncData
 fyn:Addr
 dyn:FuncData
 fzs:Addr
 dzs:FuncData
 fzz:Addr
 dzz:FuncData
 fyf:Addr
 dyf:FuncData
 fy4:Addr
 dy4:FuncData
 fyk:Addr
 dyk:FuncData
 fyd:Addr
 dyd:FuncData
 fyc:Addr
 dyc:FuncData
 fyi:Addr
 dyi:FuncData
 fy7:Addr
 dy7:FuncData
 fy8:Addr
 dy8:FuncData
 fy2:Addr
 dy2:FuncData
 fy5:Addr
 dy5:FuncData
 fy6:Addr
 dy6:FuncData
 fye:Addr
 dye:FuncData
 fy1:Addr
 dy1:FuncData
 czg:Addr
 cz4:Addr
 gz2:Addr
 gz3:Addr
 tzf:Tok
 gz0:Addr
 cd_lam:Addr
 tb_lam:Addr
structure Txt (K:Bc) (mg:Str→Option Value) (a:Adr):Prop where
 Fy9:Fun K "_law_mixed" "_law_mixed" sy9 a.fy9 a.dy9
 my9:mg "_law_mixed" = some (.ref a.fy9)
 by9:Binds K a.dy9 ["_law_cell", "_law_k"] []
 Fy3:Fun K "_law_cell_at" "_law_cell_at" JW a.fy3 a.dy3
 my3:mg "_law_cell_at" = some (.ref a.fy3)
 by3:Binds K a.dy3 ["_law_script", "_law_k"] []
 Fyl:Fun K "_law_wide" "_law_wide" syl a.fyl a.dyl
 myl:mg "_law_wide" = some (.ref a.fyl)
 byl:Binds K a.dyl ["_law_number", "_law_k"] []
 Fyg:Fun K "_law_row_numbers" "_law_row_numbers" yJ a.fyg a.dyg
 myg:mg "_law_row_numbers" = some (.ref a.fyg)
 byg:Binds K a.dyg ["_law_script", "_law_many_here"] []
 Fya:Fun K "_law_part" "_law_part" xW a.fya a.dya
 mya:mg "_law_part" = some (.ref a.fya)
 bya:Binds K a.dya ["_law_top", "_law_bottom"] []
 Fyj:Fun K "_law_taken" "_law_taken" kQ a.fyj a.dyj
 myj:mg "_law_taken" = some (.ref a.fyj)
 byj:Binds K a.dyj ["_law_number", "_law_great"] []
 Fyh:Fun K "_law_shares" "_law_shares" kK a.fyh a.dyh
 myh:mg "_law_shares" = some (.ref a.fyh)
 byh:Binds K a.dyh ["_law_number", "_law_many_here", "_law_great"] []
 Fyb:Fun K "_law_plan" "_law_plan" vW a.fyb a.dyb
 myb:mg "_law_plan" = some (.ref a.fyb)
 byb:Binds K a.dyb ["_law_script"] []
 Fyw:Fun K "set_guide" "set_guide" syw a.fyw a.dyw
 myw:mg "set_guide" = some (.ref a.fyw)
 byw:Binds K a.dyw ["tableau"] []
 Fzt:Fun K "best_step" "best_step" xY a.fzt a.dzt
 mzt:mg "best_step" = some (.ref a.fzt)
 bzt:Binds K a.dzt ["steps"] []
 Fyx:Fun K "swept" "swept" Jy a.fyx a.dyx
 myx:mg "swept" = some (.ref a.fyx)
 byx:Binds K a.dyx ["line", "through", "column", "bottom"] []
 Fzr:Fun K "without_head" "Tableau.without_head" yK a.fzr a.dzr
 tzr:Meth K a.czg "without_head" a.fzr
 bzr:Binds K a.dzr ["self", "line", "through", "column", "sign"] []
 Fzi:Fun K "exchange" "Tableau.exchange" zJ a.fzi a.dzi
 tzi:Meth K a.czg "exchange" a.fzi
 bzi:Binds K a.dzi ["self", "at", "column"] []
 Fzy:Fun K "go_on" "go_on" ZW a.fzy a.dzy
 mzy:mg "go_on" = some (.ref a.fzy)
 bzy:Binds K a.dzy ["tableau", "steps_of"] []
 Fzp:Fun K "room_lines" "Tableau.room_lines" Q3 a.fzp a.dzp
 tzp:Meth K a.czg "room_lines" a.fzp
 bzp:Binds K a.dzp ["self"] []
 Fym:Fun K "least_quotient" "least_quotient" v6 a.fym a.dym
 mym:mg "least_quotient" = some (.ref a.fym)
 bym:Binds K a.dym ["tops", "bottoms", "names"] []
 Fyp:Fun K "mending_steps" "mending_steps" vj a.fyp a.dyp
 myp:mg "mending_steps" = some (.ref a.fyp)
 byp:Binds K a.dyp ["tableau"] []
 Fyo:Fun K "mend" "mend" syo a.fyo a.dyo
 myo:mg "mend" = some (.ref a.fyo)
 byo:Binds K a.dyo ["tableau"] []
 Fzv:Fun K "climbing_steps" "climbing_steps" yY a.fzv a.dzv
 mzv:mg "climbing_steps" = some (.ref a.fzv)
 bzv:Binds K a.dzv ["tableau"] []
 Fzu:Fun K "climb" "climb" szu a.fzu a.dzu
 mzu:mg "climb" = some (.ref a.fzu)
 bzu:Binds K a.dzu ["tableau"] []
 Fzw:Fun K "common" "common" szw a.fzw a.dzw
 mzw:mg "common" = some (.ref a.fzw)
 bzw:Binds K a.dzw ["one", "other"] []
 Fyy:Fun K "times" "times" W1 a.fyy a.dyy
 myy:mg "times" = some (.ref a.fyy)
 byy:Binds K a.dyy ["one", "other"] []
 Fyq:Fun K "over" "over" syq a.fyq a.dyq
 myq:mg "over" = some (.ref a.fyq)
 byq:Binds K a.dyq ["one", "other"] []
 Fy0:Fun K "is_whole" "is_whole" sy0 a.fy0 a.dy0
 my0:mg "is_whole" = some (.ref a.fy0)
 by0:Binds K a.dy0 ["thing"] []
 Fys:Fun K "ratio" "ratio" sys a.fys a.dys
 mys:mg "ratio" = some (.ref a.fys)
 bys:Binds K a.dys ["top", "bottom"] []
 Fz6:Fun K "corner" "Quest.corner" vY a.fz6 a.dz6
 tz6:Meth K a.cz4 "corner" a.fz6
 bz6:Binds K a.dz6 ["self"] []
 Fzc:Fun K "prices_by" "Quest.prices_by" jV a.fzc a.dzc
 tzc:Meth K a.cz4 "prices_by" a.fzc
 bzc:Binds K a.dzc ["self", "numbers", "aim"] []
 Fz7:Fun K "empty_prices" "Quest.empty_prices" yX a.fz7 a.dz7
 tz7:Meth K a.cz4 "empty_prices" a.fz7
 bz7:Binds K a.dz7 ["self", "at"] []
 Fz9:Fun K "endless_way" "Quest.endless_way" yk a.fz9 a.dz9
 tz9:Meth K a.cz4 "endless_way" a.fz9
 bz9:Binds K a.dz9 ["self", "column"] []
 Fz8:Fun K "ended" "Quest.ended" jJ a.fz8 a.dz8
 tz8:Meth K a.cz4 "ended" a.fz8
 bz8:Binds K a.dz8 ["self"] []
 Fyr:Fun K "over_one_bottom" "over_one_bottom" jK a.fyr a.dyr
 myr:mg "over_one_bottom" = some (.ref a.fyr)
 byr:Binds K a.dyr ["several"] []
 Fyz:Fun K "whole_line" "whole_line" vQ a.fyz a.dyz
 myz:mg "whole_line" = some (.ref a.fyz)
 byz:Binds K a.dyz ["several"] []
 Fzm:Fun K "__init__" "Tableau.__init__" j6 a.fzm a.dzm
 Mzg:Mk K a.czg a.fzm
 bzm:Binds K a.dzm ["self", "lines", "goal"] []
 Fzx:Fun K "fitness" "fitness" szx a.fzx a.dzx
 mzx:mg "fitness" = some (.ref a.fzx)
 bzx:Binds K a.dzx ["tableau", "at", "column", "wanted"] []
 Fyv:FunC K "seat_variables" "seat_variables" v5 a.fyv a.dyv a.cd_lam a.tb_lam
 myv:mg "seat_variables" = some (.ref a.fyv)
 byv:Binds K a.dyv ["tableau", "wanted"] []
 Fza:Fun K "__init__" "Quest.__init__" wx a.fza a.dza
 Mz4:Mk K a.cz4 a.fza
 bza:Binds K a.dza ["self", "tableau", "many", "scales", "aim"] []
 Fyu:Fun K "rough" "rough" syu a.fyu a.dyu
 myu:mg "rough" = some (.ref a.fyu)
 byu:Binds K a.dyu ["line"] []
 Fyn:Fun K "likely_heads" "likely_heads" j5 a.fyn a.dyn
 myn:mg "likely_heads" = some (.ref a.fyn)
 byn:Binds K a.dyn ["lines", "goal"] []
 Fzs:Fun K "begun" "begun" YZ a.fzs a.dzs
 mzs:mg "begun" = some (.ref a.fzs)
 bzs:Binds K a.dzs ["rows", "goal"] []
 Fzz:Fun K "highest" "highest" szz a.fzz a.dzz
 mzz:mg "highest" = some (.ref a.fzz)
 bzz:Binds K a.dzz ["rows", "goal"] []
 Fyf:Fun K "_law_row" "_law_row" Q9 a.fyf a.dyf
 myf:mg "_law_row" = some (.ref a.fyf)
 byf:Binds K a.dyf ["_law_first", "_law_second", "_law_many_here", "_law_great", "_law_rest"] []
 Fy4:Fun K "_law_copy" "_law_copy" sy4 a.fy4 a.dy4
 my4:mg "_law_copy" = some (.ref a.fy4)
 by4:Binds K a.dy4 ["_law_rows"] []
 Fyk:Fun K "_law_whole" "_law_whole" syk a.fyk a.dyk
 myk:mg "_law_whole" = some (.ref a.fyk)
 byk:Binds K a.dyk ["_law_found"] []
 Fyd:Fun K "_law_ratios" "_law_ratios" kW a.fyd a.dyd
 myd:mg "_law_ratios" = some (.ref a.fyd)
 byd:Binds K a.dyd ["_law_found", "_law_many_here"] []
 Fyc:Fun K "_law_prices_good" "_law_prices_good" Zx a.fyc a.dyc
 myc:mg "_law_prices_good" = some (.ref a.fyc)
 byc:Binds K a.dyc ["_law_rows", "_law_prices"] []
 Fyi:Fun K "_law_sum" "_law_sum" syi a.fyi a.dyi
 myi:mg "_law_sum" = some (.ref a.fyi)
 byi:Binds K a.dyi ["_law_one", "_law_other"] []
 Fy7:Fun K "_law_many" "_law_many" sy7 a.fy7 a.dy7
 my7:mg "_law_many" = some (.ref a.fy7)
 by7:Binds K a.dy7 ["_law_one", "_law_other"] []
 Fy8:Fun K "_law_mix" "_law_mix" Z7 a.fy8 a.dy8
 my8:mg "_law_mix" = some (.ref a.fy8)
 by8:Binds K a.dy8 ["_law_rows", "_law_prices", "_law_many_here"] []
 Fy2:Fun K "_law_below" "_law_below" sy2 a.fy2 a.dy2
 my2:mg "_law_below" = some (.ref a.fy2)
 by2:Binds K a.dy2 ["_law_one", "_law_other"] []
 Fy5:Fun K "_law_dot" "_law_dot" ZJ a.fy5 a.dy5
 my5:mg "_law_dot" = some (.ref a.fy5)
 by5:Binds K a.dy5 ["_law_ones", "_law_others"] []
 Fy6:Fun K "_law_keeps" "_law_keeps" sy6 a.fy6 a.dy6
 my6:mg "_law_keeps" = some (.ref a.fy6)
 by6:Binds K a.dy6 ["_law_rows", "_law_point"] []
 Fye:Fun K "_law_right" "_law_right" v8 a.fye a.dye
 mye:mg "_law_right" = some (.ref a.fye)
 bye:Binds K a.dye ["_law_rows", "_law_goal", "_law_found"] []
 Fy1:Fun K "law" "law" sy1 a.fy1 a.dy1
 my1:mg "law" = some (.ref a.fy1)
 by1:Binds K a.dy1 ["_law_script"] []
 m_len:mg "len" = none
 m_range:mg "range" = none
 m_enumerate:mg "enumerate" = none
 m_int:mg "int" = none
 m_abs:mg "abs" = none
 m_divmod:mg "divmod" = none
 m_all:mg "all" = none
 m_list:mg "list" = none
 m_zip:mg "zip" = none
 m_isinstance:mg "isinstance" = none
 m_bool:mg "bool" = none
 m_max:mg "max" = none
 m_tuple:mg "tuple" = none
 m_any:mg "any" = none
 m_str:mg "str" = none
 m_reversed:mg "reversed" = none
 Czg:Cls K a.czg
 mzg:mg "Tableau" = some (.ref a.czg)
 nzq:Q8 K a.czg "rooms"
 nzh:Q8 K a.czg "bottom"
 nzn:Q8 K a.czg "lines"
 nzo:Q8 K a.czg "names"
 nzl:Q8 K a.czg "heads"
 nzj:Q8 K a.czg "goal"
 nzk:Q8 K a.czg "guide"
 Cz4:Cls K a.cz4
 mz4:mg "Quest" = some (.ref a.cz4)
 nze:Q8 K a.cz4 "tableau"
 nzb:Q8 K a.cz4 "many"
 nzd:Q8 K a.cz4 "scales"
 nz5:Q8 K a.cz4 "aim"
 mz2:mg "NOUGHT" = some (.ref a.gz2)
 sz2:∀ H:Hp,SqT K H a.gz2 [.int 0,.int 1]
 mz3:mg "ONE" = some (.ref a.gz3)
 sz3:∀ H:Hp,SqT K H a.gz3 [.int 1,.int 1]
 mzf:mg "ROUGH_BITS" = some (.int 64 a.tzf)
 mz0:mg "MINUS_ONE" = some (.ref a.gz0)
 sz0:∀ H:Hp,SqT K H a.gz0 [.int (-1),.int 1]
section
variable {P:Program} {w:World} {K:Bc} {mg:Str→Option Value} {base:Heap} {a:Adr}
def spWhole:Sp:=fun vs H Q _=>∃ i,vs=[.int i]∧Q (.bl true) H
theorem oky0 (T:Txt K mg a):FnOk P w K mg base CX0 1 a.fy0 a.dy0 ["thing"] spWhole:=by
 refine T.Fy0.ok scy0 (fun vs H Q E h=>?_) (fun cdv A outer s H vs Q E hr h=>?_)
 ·obtain ⟨i,rfl,_⟩:=h
  rfl
 obtain ⟨i,rfl,q⟩:=h;refine ⟨_,(qX (zQ (pe_and (zX (Yq) rfl T.m_isinstance boot_isinstance (pa_c (pv 0) (pa_c (JQ (v:=.ty "int") rfl T.m_int boot_int rfl) qk))) (pe_one (pe_not (zX (Yq) rfl T.m_isinstance boot_isinstance (pa_c (pv 0) (pa_c (JQ (v:=.ty "bool") rfl T.m_bool boot_bool rfl) qk)))))))),?_⟩;refine ⟨_,rfl,_,_,_,rfl,IsI.intInt i,_,rfl,iteT ?_⟩;exact ⟨_,rfl,_,_,_,rfl,IsI.intBool i,_,rfl,q⟩
def spGcd:Sp:=fun vs H Q _=>∃ x y:Int,vs=[.int x,.int y]∧0≤x∧0≤y∧Q (.int (Int.gcd x y:Nat)) H
theorem Vw (T:Txt K mg a):FnOk P w K mg base CX0 1 a.fzw a.dzw ["one", "other"] spGcd:=by
 refine T.Fzw.ok sczw (fun vs H Q E h=>?_) (fun cdv A outer s H vs Q E hr h=>?_)
 ·obtain ⟨x,y,rfl,_⟩:=h
  rfl
 obtain ⟨x0,y0,rfl,h1,h2,q⟩:=h;refine ⟨_,(qJ (ps_while PassesOwn.never (zj op_ne (pv 1) qz (zv _))
    (qJ (zq (i:=2) sczw.nd rfl (Or.inl rfl) (pe_op k9 (pv 0) (pv 1)))
   (qJ (zq (i:=0) sczw.nd rfl (Or.inl rfl) (pv 1))
   (qX (zq (i:=1) sczw.nd rfl (Or.inl rfl) (pv 2))))))
   (qX (zQ (pv 0)))),?_⟩
 refine while_by (fun σ H'=>H'=H∧∃ (x y:Int) (r:Option V),σ=[some (.int x),some (.int y),r]∧0≤x∧0≤y∧Int.gcd x y=Int.gcd x0 y0)
  (fun σ _=>match σ with | [_,some (.int y),_]=>y.toNat | _=>0) ⟨rfl,x0,y0,none,rfl,h1,h2,rfl⟩ ?_ ?_
 ·rintro σ H' ⟨rfl,x,y,r,rfl,hx,hy,hg⟩
  refine ⟨_,rfl,rfl,_,rfl,?_⟩
  by_cases e:y=0
  ·subst e
   refine iteNS rfl ?_;refine ⟨_,rfl,?_⟩;rw [← hg,gcd_end hx] at q;exact q
  ·refine iteNP (fun z=>e (V.int.inj z)) ?_
   refine ⟨_,rfl,_,rfl,_,_,rfl,rfl,(by omega:(0:Int)<y),_,rfl,_,rfl,?_⟩;refine ⟨⟨rfl,y,x%y,_,rfl,hy,Int.emod_nonneg _ e,gcd_step.trans hg⟩,?_⟩;have:=Int.emod_lt_of_pos x (show 0<y by omega);show (x%y).toNat<y.toNat;have:=Int.emod_nonneg x e;omega
 ·rintro σ H' Q1 Q2 hq ⟨v,e,hs,k,ek,q1⟩
  exact ⟨v,e,hs,k,ek,hq _ _ q1⟩
def spBinR (K:Bc) (f g:Int→Int→Int→Int→Int):Sp:=fun vs H Q _=>∃ (p r:Addr) (x y u v:Int),vs=[.ref p,.ref r]∧SqT K H p (T2 x y)∧SqT K H r (T2 u v)∧IsR x y∧IsR u v∧Sm 4000 x∧Sm 4000 y∧Sm 4000 u∧Sm 4000 v∧RetT H Q (T2 (nt (f x y u v) (g x y u v)) (nb (f x y u v) (g x y u v)))
theorem mul_ne {y v:Int} (h1:0<y) (h2:0<v):y*v≠0:=by
 have:=Int.mul_pos h1 h2;omega
theorem cdivB {n:Nat} {t j:Int} (h0:j≠0) (h:Sm n j) (hn:n≤8999:=by decide):CDivB t j:=⟨h0,An ((h.mono hn).log2 (by decide)) (by decide)⟩
theorem Sm.fdiv {n:Nat} {x g:Int} (h:Sm n x) (d:g∣x) (h0:g≠0):Sm n (x.fdiv g):=by
 obtain ⟨k,e⟩:=d;subst e;rw [A6 k h0];refine h.le ?_;rw [B4];exact A9 _ (by omega)
theorem RetT.mono {H H':Hp} {Q:VK} {xs:List V} (h:RetT H Q xs) (g:Same H H'):RetT H' Q xs:=fun p H2 s e=>h p H2 (g.trans s) e
theorem divB {t b:Int} (hb:b≠0) (h:Sm 8000 b):CDivB t (sg t b):=cdivB (sg_ne hb) (h.le (by
 rw [sg_abs];exact Nat.le_of_dvd (by omega) (Int.natAbs_dvd_natAbs.mpr (Int.gcd_dvd_right t b))))
def spRatio:Sp:=fun vs H Q _=>∃ t b:Int,vs=[.int t,.int b]∧b≠0∧Sm 8000 b∧RetT H Q (T2 (nt t b) (nb t b))
theorem okys (T:Txt K mg a):FnOk P w K mg base CX0 2 a.fys a.dys ["top", "bottom"] spRatio:=by
 refine T.Fys.ok scys (fun vs H Q E h=>?_) (fun cdv A outer s H vs Q E hr h=>?_)
 ·obtain ⟨x,y,rfl,_⟩:=h
  rfl
 obtain ⟨t,b,rfl,hb,hs,q⟩:=h;refine ⟨_,(qJ (ps_if (PW.pt (pw_or (QW (wV (qK (oky0 T) (hr.mono (by decide)) rfl T.my0 T.Fy0.kp T.by0 .nil pass0 (pa_c (pv 0) qk)))) (pw_or (QW (wV (qK (oky0 T) (hr.mono (by decide)) rfl T.my0 T.Fy0.kp T.by0 .nil pass0 (pa_c (pv 1) qk)))) (QV (zj op_eq (pv 1) qz (zv _))))))
    (qX ps_never)
    y4)
   (qJ (zq (i:=2) scys.nd rfl (Or.inl rfl) (qK (Vw T) (hr.mono (by decide)) rfl T.mzw T.Fzw.kp T.bzw .nil pass0 (pa_c (zX (Zy) rfl T.m_abs boot_abs (pa_c (pv 0) qk)) (pa_c (zX (Zy) rfl T.m_abs boot_abs (pa_c (pv 1) qk)) qk))))
   (qJ (ps_if (zj op_lt (pv 1) qz (zv _))
    (qX (zq (i:=2) scys.nd rfl (Or.inl rfl) (pe_un wZ (pv 2))))
    y4)
   (qX (zQ (j4 (pa_c (pe_op jW (pv 0) (pv 2)) (pa_c (pe_op jW (pv 1) (pv 2)) qk)))))))),?_⟩
 refine ⟨_,rfl,_,rfl,_,rfl,iteF ⟨_,rfl,_,rfl,_,rfl,iteF ⟨_,rfl,rfl,_,rfl,iteN (fun z=>hb (V.int.inj z)) ?_⟩⟩⟩;refine ⟨_,rfl,_,rfl,_,rfl,_,rfl,_,_,rfl,abs_nn _,abs_nn _,?_⟩;refine ⟨_,rfl,_,_,rfl,rfl,_,rfl,?_⟩
 try dsimp only
 rw [abs_gcd];have d1:=divB (t:=t) hb hs;refine iteD (fun c=>?_) (fun c=>?_)
 ·have e : -((Int.gcd t b:Nat):Int)=sg t b:=by unfold sg; rw [if_pos c]
  refine ⟨_,rfl,_,rfl,?_⟩
  try dsimp only
  rw [e];exact ⟨_,rfl,_,rfl,_,_,rfl,rfl,d1,_,rfl,_,rfl,_,_,rfl,rfl,d1,jZ,fun p hp=>q.new hp⟩
 ·have e:((Int.gcd t b:Nat):Int)=sg t b:=by unfold sg; rw [if_neg c]
  try dsimp only
  rw [e];exact ⟨_,rfl,_,rfl,_,_,rfl,rfl,d1,_,rfl,_,rfl,_,_,rfl,rfl,d1,jZ,fun p hp=>q.new hp⟩
abbrev cbyy (P w K mg base) (a:Adr) (cdv A outer s H E):=(cxOf CX0 P w K mg base ["one", "other", "by", "across"] "times" (qQ W1) a.fyy cdv A outer s H E).nox
theorem ok_timesR (T:Txt K mg a):FnOk P w K mg base CX0 2 a.fyy a.dyy ["one", "other"] (spBinR K (fun x _ u _=>x*u) (fun _ y _ v=>y*v)):=by
 refine T.Fyy.ok scyy (fun vs H Q E h=>?_) (fun cdv A outer s H vs Q E hr h=>?_)
 ·obtain ⟨_,_,_,_,_,_,rfl,_⟩:=h
  rfl
 obtain ⟨p,r,x,y,u,v,rfl,hp,hq,R1,R2,sx,sy,su,sv,q⟩:=h;have hy:=R1.pos;have hv:=R2.pos;have yne:y≠0:=by omega
 have vne:v≠0:=by omega
 have s1:Sm 4000 ((Int.gcd x v:Nat):Int):=sv.gcd_right vne;have s2:Sm 4000 ((Int.gcd u y:Nat):Int):=sy.gcd_right yne;have n1:((Int.gcd x v:Nat):Int)≠0:=by
  have:=Int.gcd_pos_of_ne_zero_right x vne;omega
 have n2:((Int.gcd u y:Nat):Int)≠0:=by
  have:=Int.gcd_pos_of_ne_zero_right u yne;omega
 have d1:((Int.gcd x v:Nat):Int)∣x:=Int.gcd_dvd_left x v;have d2:((Int.gcd x v:Nat):Int)∣v:=Int.gcd_dvd_right x v;have d3:((Int.gcd u y:Nat):Int)∣u:=Int.gcd_dvd_left u y;have d4:((Int.gcd u y:Nat):Int)∣y:=Int.gcd_dvd_right u y;have h0:PS (cbyy P w K mg base a cdv A outer s H E) (bS W1 0) _:=(zq (i:=2) scyy.nd rfl (Or.inl rfl) (qK (Vw T) (hr.mono (by decide)) rfl T.mzw T.Fzw.kp T.bzw .nil pass0 (pa_c (zX (Zy) rfl T.m_abs boot_abs (pa_c (pe_ix qY (pv 0) qz (fun _ _=>rfl)) qk)) (pa_c (pe_ix qY (pv 1) qz (fun _ _=>rfl)) qk))));have h1:PS (cbyy P w K mg base a cdv A outer s H E) (bS W1 1) _:=(zq (i:=3) scyy.nd rfl (Or.inl rfl) (qK (Vw T) (hr.mono (by decide)) rfl T.mzw T.Fzw.kp T.bzw .nil pass0 (pa_c (zX (Zy) rfl T.m_abs boot_abs (pa_c (pe_ix qY (pv 1) qz (fun _ _=>rfl)) qk)) (pa_c (pe_ix qY (pv 0) qz (fun _ _=>rfl)) qk))));have h2:PS (cbyy P w K mg base a cdv A outer s H E) (bS W1 2) _:=(zQ (j4 (pa_c (pe_op y9 (pe_op jW (pe_ix qY (pv 0) qz (fun _ _=>rfl)) (pv 2)) (pe_op jW (pe_ix qY (pv 1) qz (fun _ _=>rfl)) (pv 3))) (pa_c (pe_op y9 (pe_op jW (pe_ix qY (pv 0) qz (fun _ _=>rfl)) (pv 3)) (pe_op jW (pe_ix qY (pv 1) qz (fun _ _=>rfl)) (pv 2))) qk))));refine body3 (by rfl) h0 h1 h2 ?_
 intros
 clear h0 h1 h2;refine ⟨_,rfl,_,_,_,_,rfl,rfl,hp,rfl,_,rfl,_,rfl,_,_,_,_,rfl,rfl,hq,rfl,_,_,rfl,abs_nn _,by omega,?_⟩;dsimp only;rw [gcd_abs_left];generalize hg:((Int.gcd x v:Nat):Int)=g at *;refine ⟨_,rfl,_,_,_,_,rfl,rfl,hq,rfl,_,rfl,_,rfl,_,_,_,_,rfl,rfl,hp,rfl,_,_,rfl,abs_nn _,by omega,?_⟩;dsimp only;rw [gcd_abs_left];generalize hk:((Int.gcd u y:Nat):Int)=k at *;refine ⟨_,rfl,_,_,_,_,rfl,rfl,hp,rfl,_,rfl,_,_,rfl,rfl,cdivB n1 s1,_,rfl,_,_,_,_,rfl,rfl,hq,rfl,_,rfl,_,_,rfl,rfl,cdivB n2 s2,_,_,rfl,rfl,mulOk (sx.fdiv d1 n1) (su.fdiv d3 n2),?_⟩;refine ⟨_,rfl,_,_,_,_,rfl,rfl,hp,rfl,_,rfl,_,_,rfl,rfl,cdivB n2 s2,_,rfl,_,_,_,_,rfl,rfl,hq,rfl,_,rfl,_,_,rfl,rfl,cdivB n1 s1,_,_,rfl,rfl,mulOk (sy.fdiv d4 n2) (sv.fdiv d2 n1),jZ,fun p' hp'=>?_⟩;have w:=times_way R1 R2 hg.symm hk.symm;have n:=n_of (mul_ne hy hv) w.1 w.2;rw [← n.1,← n.2] at q;exact q.new hp'
abbrev TQ (q:Rat):List V:=T2 q.num q.den
def spBinQ (K:Bc) (f:Rat→Rat→Rat):Sp:=fun vs H Q _=>∃ (p r:Addr) (x y:Rat),vs=[.ref p,.ref r]∧SqT K H p (TQ x)∧SqT K H r (TQ y)∧SmQ 4000 x∧SmQ 4000 y∧RetT H Q (TQ (f x y))
def IsQ (K:Bc) (H:Hp) (v:V) (q:Rat):Prop:=∃ p,v=.ref p∧SqT K H p (TQ q)
def RL (K:Bc) (H:Hp) (vs:List V) (qs:List Rat):Prop:=Paired (IsQ K H) vs qs
theorem IsQ.mono {K:Bc} {H H':Hp} {v:V} {q:Rat} (h:IsQ K H v q) (g:Same H H'):IsQ K H' v q:=by
 obtain ⟨p,e,s⟩:=h;exact ⟨p,e,g.tup s⟩
theorem RL.mono {K:Bc} {H H':Hp} {vs:List V} {qs:List Rat} (h:RL K H vs qs) (g:Same H H'):RL K H' vs qs:=Paired.mapP h fun _ _ q=>q.mono g
theorem RL.length {K:Bc} {H:Hp} {vs:List V} {qs:List Rat} (h:RL K H vs qs):vs.length=qs.length:=Paired.length h
theorem RL.get {K:Bc} {H:Hp}:∀ {vs:List V} {qs:List Rat} {i:Nat} {v:V},RL K H vs qs→vs[i]?=some v→∃ q,qs[i]?=some q∧IsQ K H v q
 | _,_,_,_,.nil,e=>by simp at e
 | v0::_,q0::_,0,v,.cons h _,e=>by
  have e':v0=v:=by simpa using e
  subst e';exact ⟨_,rfl,h⟩
 | _::_,_::_,i+1,v,.cons _ t,e=>by
  obtain ⟨q,h1,h2⟩:=RL.get (i:=i) (v:=v) t (by simpa using e);exact ⟨q,by simpa using h1,h2⟩
theorem RL.snoc {K:Bc} {H:Hp} {vs:List V} {qs:List Rat} {v:V} {q:Rat} (h:RL K H vs qs) (k:IsQ K H v q):RL K H (vs++[v]) (qs++[q]):=Paired.snoc h k
theorem yv {α:Type} {xs:List α} {i:Nat} {x:α} (h:xs[i]?=some x):xs.take (i+1)=xs.take i++[x]:=by
 rw [List.take_succ,h]; rfl
theorem two_alike {K:Bc} {H:Hp} {n:Nat} {v w:V} {q:Rat} (h:IsQ K H v q) (k:IsQ K H w q):DEq K H (n+1) v w:=by
 obtain ⟨p,rfl,hp⟩:=h;obtain ⟨r,rfl,hr⟩:=k;refine .tup hp hr rfl fun j x y e1 e2=>?_
 rw [e1] at e2;have e:x=y:=B0 e2;subst e
 match j,e1 with
 | 0,e1=>have e:V.int q.num=x:=B0 e1; subst e; exact .flat rfl
 | 1,e1=>have e:V.int (q.den:Int)=x:=B0 e1; subst e; exact .flat rfl
 | j+2,e1=>exact absurd e1 (by simp)
theorem RL.alike {K:Bc} {H:Hp} {vs ws:List V} {qs:List Rat} (h:RL K H vs qs) (k:RL K H ws qs):Alike K H vs ws:=by
 refine ⟨h.length.trans k.length.symm,fun j x y e1 e2=>?_⟩;obtain ⟨q1,f1,g1⟩:=h.get e1;obtain ⟨q2,f2,g2⟩:=k.get e2;rw [f1] at f2;have e:q1=q2:=B0 f2;subst e;exact two_alike (n:=19) g1 g2
def RetL (K:Bc) (H:Hp) (Q:VK) (qs:List Rat):Prop:=∀ p H' ys,H p=none→Same H H'→H' p=some (.lst ys)→RL K H' ys qs→Q (.ref p) H'
theorem _root_.L2.Same.laid {H H':Hp} {p:Addr} (g:Same H H') (hn:H p=none) (o:HO):Same H (upd H' p o):=fun b u q=>by
 rw [zZ (qV q hn)];exact g _ _ q
theorem zW {H H':Hp} {p:Addr} (g:Same H H') (h:H' p=none):H p=none:=by
 cases e:H p with
 | none=>rfl
 | some o=>rw [g _ _ e] at h; cases h
theorem atN {vs:List V} {n:Nat} {x:V} (h:vs[n]?=some x):atI vs (n:Int)=some x:=by
 have hn:=(A3.mp h).1;unfold atI ixN;rw [if_pos (by omega),if_pos (by omega)];show vs[((n:Int)).toNat]?=some x;rw [Int.toNat_natCast];exact h
theorem okyy (T:Txt K mg a):FnOk P w K mg base CX0 2 a.fyy a.dyy ["one", "other"] (spBinQ K (·*·)):=(ok_timesR T).imp fun vs H Q E h=>by
 obtain ⟨p,r,x,y,e,hp,hr,sx,sy,q⟩:=h;refine ⟨p,r,x.num,x.den,y.num,y.den,e,hp,hr,Y5 x,Y5 y,sx.1,sx.2,sy.1,sy.2,?_⟩;rw [(q_times x y).1,(q_times x y).2];exact q
theorem rat_num (q:Rat):(q.num:Rat)=q*((q.den:Int):Rat):=by
 have h:=Aq q;have d:((q.den:Int):Rat)≠0:=by
  intro z;have:=Rat.intCast_inj.mp (show ((q.den:Int):Rat)=((0:Int):Rat) from z);exact Z1 q this
 have e:Rat.divInt q.num q.den=(q.num:Rat)/((q.den:Int):Rat):=As _ _;rw [e] at h;have k:(q.num:Rat)=(q.num:Rat)/((q.den:Int):Rat)*((q.den:Int):Rat):=(Rat.div_mul_cancel d).symm;rw [h] at k;exact k
theorem first_rat {u:Int} {c:Rat} (hd:(c.den:Int)∣u):((c.num*u.fdiv (c.den:Int):Int):Rat)=c*(u:Rat):=by
 obtain ⟨k,e⟩:=hd;have e2:u.fdiv (c.den:Int)=k:=by rw [e]; exact A6 k (Z1 c)
 rw [e2,Ay,rat_num c,e,Ay];grind
theorem y7 {α β:Type} {F:α→β→Prop}:∀ {vs:List α} {qs:List β} {i:Nat} {v:α},Paired F vs qs→vs[i]?=some v→∃ q,qs[i]?=some q∧F v q
 | _,_,_,_,.nil,e=>by simp at e
 | v0::_,q0::_,0,v,.cons h _,e=>by
  have e':v0=v:=by simpa using e
  subst e';exact ⟨_,rfl,h⟩
 | _::_,_::_,i+1,v,.cons _ t,e=>by
  obtain ⟨q,h1,h2⟩:=y7 (i:=i) (v:=v) t (by simpa using e);exact ⟨q,by simpa using h1,h2⟩
theorem paired_app {α β:Type} {F:α→β→Prop}:∀ {vs ws:List α} {qs rs:List β},Paired F vs qs→Paired F ws rs→Paired F (vs++ws) (qs++rs)
 | _,_,_,_,.nil,k=>k
 | _,_,_,_,.cons h t,k=>.cons h (paired_app t k)
theorem nil_get {α:Type} {j:Nat} {x:α} {p:Prop} (h:([]:List α)[j]?=some x):p:=by simp at h
theorem paired_take {α β:Type} {F:α→β→Prop}:∀ {vs:List α} {qs:List β} (n:Nat),Paired F vs qs→Paired F (vs.take n) (qs.take n)
 | _,_,0,_=>by rw [List.take_zero,List.take_zero]; exact .nil
 | _,_,_+1,.nil=>.nil
 | _,_,n+1,.cons h t=>.cons h (paired_take n t)
theorem SqT.upd_lst {K:Bc} {H:Hp} {b t:Addr} {xs ys:List V} {o:HO} (h:SqT K H b xs) (e:H t=some (.lst ys)):SqT K (upd H t o) b xs:=by
 rcases h with (h | ⟨u,h⟩) | h
 ·exact .inl (.inl (by rw [zZ (ne_of h e (by intro z; cases z))]; exact h))
 ·exact .inl (.inr ⟨u,by rw [zZ (ne_of h e (by intro z; cases z))]; exact h⟩)
 ·exact .inr h
theorem seq_cut {t u:TS} {D:L2.Ends} {σ:St} {H:Hp} (h:∀ N:St→Hp→Prop,N=u D→t { D with nx:=N } σ H):tSeq t u D σ H:=h _ rfl
theorem v3 {i:Nat} {v:V} {σ:St} {H:Hp} {Q:St→Hp→Prop}:gName i v σ H Q=Q (σ.set i (some v)) H:=rfl
abbrev natL (ns:List Nat):List V:=ns.map fun n:Nat=>V.int (n:Int)
abbrev intL (ns:List Int):List V:=ns.map V.int
theorem wv {ns:List Int} {i:Nat} {v:V} (h:(intL ns)[i]?=some v):∃ n,ns[i]?=some n∧v=.int n:=by
 rw [List.getElem?_map] at h
 cases e:ns[i]? with
 | none=>rw [e] at h; cases h
 | some n=>rw [e] at h; exact ⟨n,rfl,(B0 h).symm⟩
theorem Y0 {ns:List Nat} {i:Nat} {v:V} (h:(natL ns)[i]?=some v):∃ n,ns[i]?=some n∧v=.int (n:Int):=by
 rw [List.getElem?_map] at h
 cases e:ns[i]? with
 | none=>rw [e] at h; cases h
 | some n=>rw [e] at h; exact ⟨n,rfl,(B0 h).symm⟩
theorem y8 {ns:List Int} {i:Nat} {n:Int} (h:ns[i]?=some n):(intL ns)[i]?=some (.int n):=by rw [List.getElem?_map,h]; rfl
theorem j7 {ns:List Nat} {i:Nat} {n:Nat} (h:ns[i]?=some n):(natL ns)[i]?=some (.int (n:Int)):=by rw [List.getElem?_map,h]; rfl
theorem atLast {vs:List V} {x:V} (h:vs[vs.length - 1]?=some x):atI vs (-1)=some x:=by
 have hn:=(A3.mp h).1;unfold atI ixN;rw [if_neg (by decide),if_pos (by omega)];show vs[((-1:Int)+(vs.length:Int)).toNat]?=some x;rw [show ((-1:Int)+(vs.length:Int)).toNat=vs.length - 1 by omega];exact h
theorem yz {α:Type} {l:List α} {i:Nat} (h:i<l.length):∃ x,l[i]?=some x:=⟨_,A7 h⟩
theorem sm_log {n:Nat} {x:Int} (h:Sm n x) (l:n≤13500):x.natAbs.log2<13500:=by
 by_cases z:x.natAbs=0
 ·rw [z]; decide
 ·exact (Nat.log2_lt z).mpr (An h (Ai (by decide) l))
theorem J1 {xs:List Int} {i:Nat} {x:Int} (h:xs[i]?=some x):intL (xs.take (i+1))=intL (xs.take i)++[.int x]:=by unfold intL; rw [yv h,Ax]; rfl
def VW (x y:List Int) (c:Nat) (bot:Int):List Int:=List.zipWith (fun n o=>(n*y.getD c 0 - x.getD c 0*o).fdiv bot) x y
theorem sweep_len {x y:List Int} {c:Nat} {bot:Int} (h:x.length=y.length):(VW x y c bot).length=x.length:=by unfold VW; rw [List.length_zipWith]; omega
theorem sweep_at {x y:List Int} {c:Nat} {bot:Int} {i:Nat} {n o:Int} (h1:x[i]?=some n) (h2:y[i]?=some o):(VW x y c bot)[i]?=some ((n*y.getD c 0 - x.getD c 0*o).fdiv bot):=by unfold VW; rw [List.getElem?_zipWith,h1,h2]
def spSwept (K:Bc):Sp:=fun vs H Q _=>∃ (l th:Addr) (x y:List Int) (c:Nat) (bot:Int),vs=[.ref l,.ref th,.int (c:Int),.int bot]∧SqL K H l (intL x)∧SqL K H th (intL y)∧x.length=y.length∧c<x.length∧x.length≤1000∧bot≠0∧(∀ n∈x,Sm 6700 n)∧(∀ n∈y,Sm 6700 n)∧∀ p H',H p=none→Same H H'→H' p=some (.lst (intL (VW x y c bot)))→Q (.ref p) H'
abbrev cbyx (P w K mg base) (a:Adr) (cdv A outer s H E):=(cxOf CX0 P w K mg base ["line", "through", "column", "bottom", "by", "share"] "swept" (qQ Jy) a.fyx cdv A outer s H E).nox
theorem okyx (T:Txt K mg a):FnOk P w K mg base CX0 1 a.fyx a.dyx ["line", "through", "column", "bottom"] (spSwept K):=by
 refine T.Fyx.ok scyx (fun vs H Q E h=>?_) (fun cdv A outer s H vs Q E hr h=>?_)
 ·obtain ⟨_,_,_,_,_,_,rfl,_⟩:=h
  rfl
 obtain ⟨l,th,x,y,c,bot,rfl,hl,ht,len,hc,l1,b0,sx,sy,q⟩:=h;have h0:PS (cbyx P w K mg base a cdv A outer s H E) (bS Jy 0) _:=(zq (i:=4) scyx.nd rfl (Or.inr rfl) (pe_ix zK (pv 1) (pv 2) (fun _ _=>rfl)));have h1:PS (cbyx P w K mg base a cdv A outer s H E) (bS Jy 1) _:=(zq (i:=5) scyx.nd rfl (Or.inr rfl) (pe_ix zK (pv 0) (pv 2) (fun _ _=>rfl)));have h2:PS (cbyx P w K mg base a cdv A outer s H E) (bS Jy 2) _:=(ps_if (zj op_eq (pv 5) qz (zv _))
    (qX (zQ (vJ (N:=["number", "bottom", "by"]) (ix:=[none,some 3,some 4]) ⟨rfl,rfl,rfl,rfl,⟨rfl,⟨rfl,trivial⟩⟩,rfl,⟨⟨rfl,Or.inr (Or.inl rfl),jj rfl,rfl,Or.inl rfl⟩,⟨⟨rfl,Or.inr (Or.inl rfl),jj rfl,rfl,Or.inl rfl⟩,trivial⟩⟩⟩ rfl (yW (pv 0)) (fun _=>(qW (i:=0) (show (["number", "bottom", "by"]:List Str).Nodup by decide +kernel) rfl (Or.inl rfl))) (fun _ σ=>jQ rfl σ) (fun _=>yy) (fun _=>(pe_op op_fdivL (pe_op y9 (pv 0) (pv 2)) (pv 1))))))
    y4)
 have h3:PS (cbyx P w K mg base a cdv A outer s H E) (bS Jy 3) _:=(zQ (vJ (N:=["number", "other", "bottom", "by", "share"]) (ix:=[none,none,some 3,some 4,some 5]) ⟨rfl,rfl,rfl,rfl,⟨rfl,⟨rfl,⟨rfl,trivial⟩⟩⟩,rfl,⟨⟨rfl,Or.inr (Or.inl rfl),jj rfl,rfl,Or.inl rfl⟩,⟨⟨rfl,Or.inr (Or.inl rfl),jj rfl,rfl,Or.inl rfl⟩,⟨⟨rfl,Or.inr (Or.inl rfl),jj rfl,rfl,Or.inl rfl⟩,trivial⟩⟩⟩⟩ rfl (pi_zip rfl T.m_zip (pa_c (pv 0) (pa_c (pv 1) qk))) (fun _=>(vZ rfl (zy (qW (i:=0) (show (["number", "other", "bottom", "by", "share"]:List Str).Nodup by decide +kernel) rfl (Or.inl rfl)) (zy (qW (i:=1) (show (["number", "other", "bottom", "by", "share"]:List Str).Nodup by decide +kernel) rfl (Or.inl rfl)) jy)))) (fun _ σ=>go_two rfl rfl (by decide) σ) (fun _=>yy) (fun _=>(pe_op op_fdivL (pe_op Yk (pe_op y9 (pv 0) (pv 3)) (pe_op y9 (pv 4) (pv 1))) (pv 2)))));refine body4 (by rfl) h0 h1 h2 h3 ?_
 intros
 clear h0 h1 h2 h3;have hy:y[c]?=some y[c]:=A7 (by omega);have hx:x[c]?=some x[c]:=A7 hc;have gy:y.getD c 0=y[c]:=qZ hy;have gx:x.getD c 0=x[c]:=qZ hx;have sby:=sy _ (Af hy);have ssh:=sx _ (Af hx);refine ⟨_,rfl,_,rfl,th,_,_,_,rfl,rfl,ht,atN (y8 hy),_,rfl,_,rfl,l,_,_,_,rfl,rfl,hl,atN (y8 hx),_,rfl,rfl,_,rfl,?_⟩
 by_cases z:x[c]=0
 ·refine iteP (by rw [z]) ?_
  refine ⟨_,rfl,l,rfl,⟨_,hl⟩,j3 (n:=x.length) (fun i ys H'=>H'=H∧ys=intL ((VW x y c bot).take i)) ⟨rfl,rfl⟩ (zw l1) ?_ ?_ ?_⟩
  ·rintro ys H' ⟨rfl,rfl⟩
   rw [A8 (by rw [sweep_len len]; exact Nat.le_refl _)];exact ⟨⟨_,hl,by rw [Av]; exact Nat.le_refl _⟩,fun D hD=>q D _ hD (qw hD _) qj⟩
  ·rintro i ys H' hi ⟨rfl,_⟩
   exact ⟨_,_,hl,y8 (A7 hi)⟩
  ·rintro i m' ys H' c1 v H2 hi ⟨rfl,rfl⟩ ⟨rfl,y1⟩ nx _
   obtain ⟨n,hn,rfl⟩:=wv (y1 _ hl);have sn:=sx n (Af hn);have ho:y[i]?=some y[i]:=A7 (by omega);refine Or.inl ⟨rfl,_,rfl,_,rfl,_,_,rfl,rfl,mulOk sn sby,_,rfl,_,_,rfl,rfl,⟨b0,sm_log (sn.mul sby) (by decide)⟩,nx _ _ ⟨rfl,?_⟩⟩;rw [J1 (sweep_at hn ho),gx,gy,z,Int.zero_mul,Int.sub_zero]
 ·refine iteN (fun e=>z (V.int.inj e)) ?_
  refine ⟨_,rfl,_,rfl,l,th,rfl,⟨_,hl⟩,⟨_,ht⟩,j3 (n:=x.length) (fun i ys H'=>Same H H'∧ys=intL ((VW x y c bot).take i)) ⟨Same.refl _,rfl⟩ (zw l1) ?_ ?_ ?_⟩
  ·rintro ys H' ⟨g,rfl⟩
   rw [A8 (by rw [sweep_len len]; exact Nat.le_refl _)];exact ⟨⟨_,_,g.seq hl,g.seq ht,.inl (by rw [Av]; exact Nat.le_refl _)⟩,fun D hD=>q D _ (zW g hD) (g.trans (qw hD _)) qj⟩
  ·rintro i ys H' hi ⟨g,_⟩
   exact ⟨_,_,_,_,g.seq hl,g.seq ht,y8 (A7 hi),y8 (A7 (by omega))⟩
  ·rintro i m' ys H' c1 v H2 hi ⟨g,rfl⟩ ⟨p2,z1,z2,hp2,rfl,rfl,v1,v2⟩ nx _
   obtain ⟨n,hn,rfl⟩:=wv (v1 _ (g.seq hl));obtain ⟨o,ho,rfl⟩:=wv (v2 _ (g.seq ht));have sn:=sx n (Af hn);have so:=sy o (Af ho);refine ⟨p2,_,rfl,SqT.of qj,rfl,_,_,rfl,_,_,rfl,rfl,Or.inl ⟨rfl,_,rfl,_,rfl,_,_,rfl,rfl,mulOk sn sby,_,rfl,_,rfl,_,_,rfl,rfl,mulOk ssh so,_,_,rfl,rfl,_,rfl,_,_,rfl,rfl,⟨b0,sm_log ((sn.mul sby).sub (ssh.mul so)) (by decide)⟩,nx _ _ ⟨g.trans (qw hp2 _),?_⟩⟩⟩;rw [J1 (sweep_at hn ho),gx,gy]
structure LeastQ (tops bots:List Int) (names:List Nat) (n k:Nat):Prop where
 lt:k<n
 pos:0<bots.getD k 0
 le:∀ j,j<n→0<bots.getD j 0→tops.getD k 0*bots.getD j 0≤tops.getD j 0*bots.getD k 0∧(tops.getD k 0*bots.getD j 0=tops.getD j 0*bots.getD k 0→names.getD k 0≤names.getD j 0)
def NoneQ (bots:List Int) (n:Nat):Prop:=∀ j,j<n→bots.getD j 0≤0
def BestQ (tops bots:List Int) (names:List Nat) (n:Nat) (v:V):Prop:=(v=.non∧NoneQ bots n)∨∃ k:Nat,v=.int (k:Int)∧LeastQ tops bots names n k
theorem cross_trans {a b c d e f:Int} (hb:0<b) (hd:0<d) (hf:0<f) (h1:a*d≤c*b) (h2:c*f≤e*d):a*f≤e*b∧(a*f=e*b→a*d=c*b∧c*f=e*d):=by
 have k1:a*d*f≤c*b*f:=Int.mul_le_mul_of_nonneg_right h1 (by omega);have k2:c*f*b≤e*d*b:=Int.mul_le_mul_of_nonneg_right h2 (by omega);have e1:a*d*f=a*f*d:=by ac_rfl
 have e2:c*b*f=c*f*b:=by ac_rfl
 have e3:e*d*b=e*b*d:=by ac_rfl
 have k3:a*f*d≤e*b*d:=by omega
 refine ⟨Int.le_of_mul_le_mul_right k3 hd,fun z=>?_⟩;rw [z] at e1;have k4:a*d*f=c*b*f:=by omega
 have k5:c*f*b=e*d*b:=by omega
 exact ⟨Int.eq_of_mul_eq_mul_right (by omega) k4,Int.eq_of_mul_eq_mul_right (by omega) k5⟩
theorem least_keep {tops bots:List Int} {names:List Nat} {n k:Nat} (h:LeastQ tops bots names n k) (o:bots.getD n 0≤0∨(tops.getD k 0*bots.getD n 0≤tops.getD n 0*bots.getD k 0∧(tops.getD k 0*bots.getD n 0=tops.getD n 0*bots.getD k 0→names.getD k 0≤names.getD n 0))):LeastQ tops bots names (n+1) k:=by
 refine ⟨Nat.lt_succ_of_lt h.lt,h.pos,fun j hj pj=>?_⟩
 by_cases e:j=n
 ·subst e
  rcases o with o | o
  ·omega
  ·exact o
 ·exact h.le j (by omega) pj
theorem least_new {tops bots:List Int} {names:List Nat} {n k:Nat} (h:LeastQ tops bots names n k) (p:0<bots.getD n 0) (o:tops.getD n 0*bots.getD k 0<tops.getD k 0*bots.getD n 0∨(tops.getD n 0*bots.getD k 0=tops.getD k 0*bots.getD n 0∧names.getD n 0<names.getD k 0)):LeastQ tops bots names (n+1) n:=by
 refine ⟨Nat.lt_succ_self _,p,fun j hj pj=>?_⟩
 by_cases e:j=n
 ·subst e
  exact ⟨Int.le_refl _,fun _=>Nat.le_refl _⟩
 ·have l:=h.le j (by omega) pj
  have c:=cross_trans p h.pos pj (a:=tops.getD n 0) (c:=tops.getD k 0) (e:=tops.getD j 0) (by omega) l.1;refine ⟨c.1,fun z=>?_⟩;have z2:=c.2 z;have:=l.2 z2.2;omega
theorem least_first {tops bots:List Int} {names:List Nat} {n:Nat} (h:NoneQ bots n) (p:0<bots.getD n 0):LeastQ tops bots names (n+1) n:=by
 refine ⟨Nat.lt_succ_self _,p,fun j hj pj=>?_⟩
 by_cases e:j=n
 ·subst e
  exact ⟨Int.le_refl _,fun _=>Nat.le_refl _⟩
 ·have:=h j (by omega)
  omega
def spLeast (K:Bc):Sp:=fun vs H Q _=>∃ (lt lb ln:Addr) (tops bots:List Int) (names:List Nat),vs=[.ref lt,.ref lb,.ref ln]∧SqL K H lt (intL tops)∧SqL K H lb (intL bots)∧SqL K H ln (natL names)∧bots.length≤tops.length∧bots.length≤names.length∧(∀ n∈tops,Sm 6700 n)∧(∀ n∈bots,Sm 6700 n)∧∀ v H',Same H H'→BestQ tops bots names bots.length v→Q v H'
abbrev Zw (P w K mg base) (a:Adr) (cdv A outer s H E):=(cxOf CX0 P w K mg base ["tops", "bottoms", "names", "best", "k", "bottom", "ahead"] "least_quotient" (qQ v6) a.fym cdv A outer s H E).nox
theorem JJ (T:Txt K mg a):FnOk P w K mg base CX0 1 a.fym a.dym ["tops", "bottoms", "names"] (spLeast K):=by
 refine T.Fym.ok jX (fun vs H Q E h=>?_) (fun cdv A outer s H vs Q E hr h=>?_)
 ·obtain ⟨_,_,_,_,_,_,rfl,_⟩:=h
  rfl
 obtain ⟨lt,lb,ln,tops,bots,names,rfl,ht,hb,hn,l1,l2,st,sb,q⟩:=h;have h0:PS (Zw P w K mg base a cdv A outer s H E) (bS v6 0) _:=(zq (i:=3) jX.nd rfl (Or.inl rfl) kY);have h1:PS (Zw P w K mg base a cdv A outer s H E) (bS v6 1) _:=(Q4 PassesOwn.never rfl (pi_enum rfl T.m_enumerate (pa_c (pv 1) qk)) (vZ rfl (zy (qW (i:=4) jX.nd rfl (Or.inl rfl)) (zy (qW (i:=5) jX.nd rfl (Or.inl rfl)) jy)))
    (qX (ps_if (zj op_gt (pv 5) qz (zv _))
    (qX (ps_if (zj V1 (pv 3) kY (zv _))
    (qX (zq (i:=3) jX.nd rfl (Or.inl rfl) (pv 4)))
    (qJ (zq (i:=6) jX.nd rfl (Or.inl rfl) (pe_op Yk (pe_op y9 (pe_ix zK (pv 0) (pv 4) (fun _ _=>rfl)) (pe_ix zK (pv 1) (pv 3) (fun _ _=>rfl))) (pe_op y9 (pe_ix zK (pv 0) (pv 3) (fun _ _=>rfl)) (pv 5))))
   (qX (ps_if (PW.pt (pw_or (zj op_lt (pv 6) qz (zv _)) (QV (PW.pt (W3 (zj op_eq (pv 6) qz (zv _)) (pw_and1 (zj op_lt (pe_ix zK (pv 2) (pv 4) (fun _ _=>rfl)) (pe_ix zK (pv 2) (pv 3) (fun _ _=>rfl)) (zv _))))))))
    (qX (zq (i:=3) jX.nd rfl (Or.inl rfl) (pv 4)))
    y4)))))
    y4)))
 have h2:PS (Zw P w K mg base a cdv A outer s H E) (bS v6 2) _:=(zQ (pv 3));refine body3 (by rfl) h0 h1 h2 ?_
 intros
 clear h0 h1 h2;refine ⟨_,rfl,lb,rfl,⟨_,hb⟩,Z0 (n:=bots.length) (fun i σ H'=>Same H H'∧∃ (b:V) (u4 u5 u6:Option V),BestQ tops bots names i b∧σ=[some (.ref lt),some (.ref lb),some (.ref ln),some b,u4,u5,u6])
  ⟨Same.refl _,.non,_,_,_,.inl ⟨rfl,fun j hj=>absurd hj (Az _)⟩,rfl⟩ ?_ ?_ ?_⟩
 ·rintro σ H1 ⟨g,b,u4,u5,u6,best,rfl⟩
  exact ⟨⟨_,g.seq hb,by rw [Av]; exact Nat.le_refl _⟩,_,rfl,q b H1 g best⟩
 ·rintro i σ H1 hi ⟨g,b,u4,u5,u6,best,rfl⟩
  exact ⟨_,_,g.seq hb,y8 (A7 hi)⟩
 ·rintro i σ H1 x H2 hi ⟨g,b,u4,u5,u6,best,rfl⟩ ⟨p,x2,hp,rfl,rfl,y1⟩
  obtain ⟨ci,hci,rfl⟩:=wv (y1 _ (g.seq hb));have g3:=qw hp (.tup [.int (i:Int),.int ci]);have gg:=g.trans g3;have gi:bots.getD i 0=ci:=qZ hci;refine ⟨p,_,rfl,SqT.of qj,rfl,_,_,rfl,_,_,rfl,rfl,_,rfl,_,_,rfl,rfl,_,rfl,?_⟩
  by_cases c0:0<ci
  ·refine iteP c0 ?_
   rcases best with ⟨rfl,no⟩ | ⟨k,rfl,le⟩
   ·refine ⟨_,rfl,rfl,_,rfl,iteP rfl ?_⟩
    exact ⟨_,rfl,gg,_,_,_,_,.inr ⟨i,rfl,least_first no (by rw [gi]; exact c0)⟩,rfl⟩
   ·refine ⟨_,rfl,rfl,_,rfl,iteN (by intro z; cases z) ?_⟩
    have lk:=le.lt;obtain ⟨bk,hk⟩:=yz (l:=bots) (i:=k) (by omega);obtain ⟨ti,hti⟩:=yz (l:=tops) (i:=i) (by omega);obtain ⟨tk,htk⟩:=yz (l:=tops) (i:=k) (by omega);obtain ⟨ni,hni⟩:=yz (l:=names) (i:=i) (by omega);obtain ⟨nk,hnk⟩:=yz (l:=names) (i:=k) (by omega);have m1:IntMulOk ti bk:=mulOk (st _ (Af hti)) (sb _ (Af hk));have m2:IntMulOk tk ci:=mulOk (st _ (Af htk)) (sb _ (Af hci));have gk:bots.getD k 0=bk:=qZ hk;have gti:tops.getD i 0=ti:=qZ hti;have gtk:tops.getD k 0=tk:=qZ htk;have gni:names.getD i 0=ni:=qZ hni;have gnk:names.getD k 0=nk:=qZ hnk;refine ⟨_,rfl,_,rfl,lt,_,_,_,rfl,rfl,gg.seq ht,atN (y8 hti),_,rfl,_,rfl,lb,_,_,_,rfl,rfl,gg.seq hb,atN (y8 hk),_,_,rfl,rfl,m1,_,rfl,_,rfl,lt,_,_,_,rfl,rfl,gg.seq ht,atN (y8 htk),_,rfl,_,_,rfl,rfl,m2,_,_,rfl,rfl,_,rfl,_,_,rfl,rfl,_,rfl,?_⟩;have keep:∀ o:tops.getD k 0*bots.getD i 0≤tops.getD i 0*bots.getD k 0∧(tops.getD k 0*bots.getD i 0=tops.getD i 0*bots.getD k 0→names.getD k 0≤names.getD i 0),BestQ tops bots names (i+1) (.int (k:Int)):=fun o=>.inr ⟨k,rfl,least_keep le (.inr o)⟩
    rw [gi,gk,gti,gtk,gni,gnk] at keep;have new:=least_new le (by rw [gi]; exact c0);rw [gi,gk,gti,gtk,gni,gnk] at new
    by_cases c1:ti*bk - tk*ci<0
    ·refine iteP c1 (iteT ?_)
     exact ⟨_,rfl,gg,_,_,_,_,.inr ⟨i,rfl,new (.inl (by omega))⟩,rfl⟩
    ·refine iteN c1 ⟨_,rfl,rfl,_,rfl,?_⟩
     by_cases c2:ti*bk - tk*ci=0
     ·refine iteP (by show V.int (ti*bk - tk*ci)=V.int 0; rw [c2]) ⟨_,rfl,_,rfl,ln,_,_,_,rfl,rfl,gg.seq hn,atN (j7 hni),_,rfl,_,rfl,ln,_,_,_,rfl,rfl,gg.seq hn,atN (j7 hnk),_,_,rfl,rfl,_,rfl,?_⟩
      by_cases c3:(ni:Int)<nk
      ·refine iteP c3 ?_
       exact ⟨_,rfl,gg,_,_,_,_,.inr ⟨i,rfl,new (.inr ⟨by omega,by omega⟩)⟩,rfl⟩
      ·refine iteN c3 ?_
       exact ⟨gg,_,_,_,_,keep ⟨by omega,fun _=>by omega⟩,rfl⟩
     ·refine iteN (fun z=>c2 (V.int.inj z)) (iteF ?_)
      exact ⟨gg,_,_,_,_,keep ⟨by omega,fun _=>by omega⟩,rfl⟩
  ·refine iteN c0 ?_
   refine ⟨gg,b,_,_,_,?_,rfl⟩
   rcases best with ⟨rfl,no⟩ | ⟨k,rfl,le⟩
   ·refine .inl ⟨rfl,fun j hj=>?_⟩
    by_cases e:j=i
    ·rw [e,gi]; omega
    ·exact no j (by omega)
   ·exact .inr ⟨k,rfl,least_keep le (.inl (by rw [gi]; omega))⟩
def But (S:Addr→Prop) (H H':Hp):Prop:=∀ b o,¬ S b→H b=some o→H' b=some o
theorem But.trans {S:Addr→Prop} {H H' H'':Hp} (a:But S H H') (b:But S H' H''):But S H H'':=fun c o n e=>b c o n (a c o n e)
theorem _root_.L2.Same.but {S:Addr→Prop} {H H':Hp} (g:Same H H'):But S H H':=fun b o _ e=>g b o e
theorem wQ {S:Addr→Prop} {H:Hp} {p:Addr} {o:HO} (h:S p):But S H (upd H p o):=fun b u n e=>by rw [zZ fun (z:b=p)=>n (by rw [z]; exact h)]; exact e
theorem But.seq {S:Addr→Prop} {H H':Hp} {p:Addr} {xs:List V} (g:But S H H') (n:¬ S p) (h:SqL K H p xs):SqL K H' p xs:=by
 rcases h with (h | ⟨o,h⟩) | h
 ·exact .inl (.inl (g _ _ n h))
 ·exact .inl (.inr ⟨o,g _ _ n h⟩)
 ·exact .inr h
set_option genInjectivity false in
set_option genSizeOf false in
structure TA where
 p:Addr
 dx:Addr
 al:Addr
 an:Addr
 ah:Addr
 ag:Addr
 au:Addr
def tabF (A:TA) (t:Tab):List (Str×V):=[("rooms",.int (t.rooms:Int)),("bottom",.int t.bot),("lines",.ref A.al),("names",.ref A.an),("heads",.ref A.ah),("goal",.ref A.ag),("guide",.ref A.au)]
def Apart (A:TA) (b:Addr):Prop:=b≠A.an∧b≠A.ah∧b≠A.p∧b≠A.al
def wq (H:Hp) (A:TA) (v:V) (l:List Int):Prop:=∃ b,v=.ref b∧H b=some (.lst (intL l))∧Apart A b
structure TabAt (C:Addr) (H:Hp) (A:TA) (t:Tab):Prop where
 ins:H A.p=some (.ins C A.dx (tabF A t))
 lines:∃ vl,H A.al=some (.lst vl)∧Paired (wq H A) vl t.lines
 names:H A.an=some (.lst (natL t.names))
 heads:H A.ah=some (.lst (natL t.heads))
 goal:wq H A (.ref A.ag) t.goal
 guide:wq H A (.ref A.au) t.guide
 n1:A.an≠A.ah
 n2:A.al≠A.an
 n3:A.al≠A.ah
def TabS (A:TA) (b:Addr):Prop:=b=A.p∨b=A.an∨b=A.ah
theorem Apart.not {A:TA} {b:Addr} (h:Apart A b):¬ TabS A b:=fun z=>z.elim h.2.2.1 fun y=>y.elim h.1 h.2.1
theorem wq.but {H H':Hp} {A:TA} {v:V} {l:List Int} (h:wq H A v l) (g:But (TabS A) H H'):wq H' A v l:=by
 obtain ⟨b,e,s,n⟩:=h;exact ⟨b,e,g _ _ n.not s,n⟩
theorem wq.mono {H H':Hp} {A:TA} {v:V} {l:List Int} (h:wq H A v l) (g:Same H H'):wq H' A v l:=h.but g.but
theorem TabAt.mono {C:Addr} {H H':Hp} {A:TA} {t:Tab} (h:TabAt C H A t) (g:Same H H'):TabAt C H' A t:=by
 obtain ⟨vl,e,p⟩:=h.lines;exact ⟨g _ _ h.ins,⟨vl,g _ _ e,Paired.mapP p fun _ _ k=>k.mono g⟩,g _ _ h.names,g _ _ h.heads,h.goal.mono g,h.guide.mono g,h.n1,h.n2,h.n3⟩
theorem TabAt.apart {C:Addr} {H:Hp} {A:TA} {t:Tab} {b:Addr} (h:TabAt C H A t) (e:H b=none):Apart A b:=by
 obtain ⟨vl,k,_⟩:=h.lines;exact ⟨Ne.symm (qV h.names e),Ne.symm (qV h.heads e),Ne.symm (qV h.ins e),Ne.symm (qV k e)⟩
theorem TabAt.np {C:Addr} {H:Hp} {A:TA} {t:Tab} (h:TabAt C H A t):A.an≠A.p∧A.ah≠A.p∧A.al≠A.p:=by
 obtain ⟨vl,k,_⟩:=h.lines;exact ⟨ne_of h.names h.ins (by intro z; cases z),ne_of h.heads h.ins (by intro z; cases z),ne_of k h.ins (by intro z; cases z)⟩
section
variable {C:Addr} {H:Hp} {A:TA} {t:Tab}
theorem TabAt.putP {t':Tab} (h:TabAt C H A t) (e1:t'.lines=t.lines) (e2:t'.names=t.names) (e3:t'.heads=t.heads) {g u:Addr} (hg:wq H A (.ref g) t'.goal) (hu:wq H A (.ref u) t'.guide) :
  TabAt C (upd H A.p (.ins C A.dx (tabF { A with ag:=g,au:=u } t'))) { A with ag:=g,au:=u } t':=by
 obtain ⟨vl,e,p⟩:=h.lines;obtain ⟨n1,n2,n3⟩:=h.np;have g4:But (TabS A) H (upd H A.p (.ins C A.dx (tabF { A with ag:=g,au:=u } t'))):=wQ (.inl rfl);refine ⟨qj,⟨vl,by show upd H A.p _ A.al=_; rw [zZ n3]; exact e,?_⟩,?_,?_,hg.but g4,hu.but g4,h.n1,h.n2,h.n3⟩
 ·rw [e1]
  exact Paired.mapP p fun _ _ k=>k.but g4
 ·show upd H A.p _ A.an=_
  rw [zZ n1,e2];exact h.names
 ·show upd H A.p _ A.ah=_
  rw [zZ n2,e3];exact h.heads
theorem TabAt.putLines {b:Addr} {ys:List V} {ls:List (List Int)} (h:TabAt C H A t) (n:Apart A b) (e:H b=some (.lst ys)) (p:Paired (fun v l=>∃ d,v=V.ref d∧H d=some (.lst (intL l))∧Apart A d∧d≠b) ys ls) (ng:A.ag≠b) (nu:A.au≠b) :
  TabAt C (upd H A.p (.ins C A.dx (tabF { A with al:=b } { t with lines:=ls }))) { A with al:=b } { t with lines:=ls }:=by
 obtain ⟨n1,n2,n3⟩:=h.np;have g4:But (TabS A) H (upd H A.p (.ins C A.dx (tabF { A with al:=b } { t with lines:=ls }))):=wQ (.inl rfl);obtain ⟨gb,eg,hg,ag⟩:=h.goal;obtain ⟨ub,eu,hu,au⟩:=h.guide
 cases eg
 cases eu
 refine ⟨qj,⟨ys,g4 _ _ n.not e,Paired.mapP p fun v l ⟨d,e1,e2,a,ne⟩=>⟨d,e1,g4 _ _ a.not e2,a.1,a.2.1,a.2.2.1,ne⟩⟩,?_,?_,⟨_,rfl,g4 _ _ ag.not hg,ag.1,ag.2.1,ag.2.2.1,ng⟩,⟨_,rfl,g4 _ _ au.not hu,au.1,au.2.1,au.2.2.1,nu⟩,h.n1,n.1,n.2.1⟩
 ·show upd H A.p _ A.an=_
  rw [zZ n1];exact h.names
 ·show upd H A.p _ A.ah=_
  rw [zZ n2];exact h.heads
theorem QY {α β:Type} {F:α→β→Prop}:∀ {vs:List α} {qs:List β} (i:Nat) {v:α} {q:β},Paired F vs qs→F v q→Paired F (vs.set i v) (qs.set i q)
 | _,_,_,_,_,.nil,_=>.nil
 | _,_,0,_,_,.cons _ t,k=>.cons k t
 | _,_,i+1,_,_,.cons h t,k=>.cons h (QY i t k)
theorem TabAt.setLine {b:Addr} {l:List Int} {vl:List V} (h:TabAt C H A t) (e:H A.al=some (.lst vl)) (i:Nat) (hb:wq H A (.ref b) l):TabAt C (upd H A.al (.lst (vl.set i (.ref b)))) A { t with lines:=t.lines.set i l }:=by
 obtain ⟨vl',e',p⟩:=h.lines;rw [e] at e'
 cases e'
 obtain ⟨n1,n2,n3⟩:=h.np;have k:∀ {v:V} {l:List Int},wq H A v l→wq (upd H A.al (.lst (vl.set i (.ref b)))) A v l:=fun ⟨d,e1,e2,n⟩=>⟨d,e1,by rw [zZ n.2.2.2]; exact e2,n⟩
 exact ⟨by rw [zZ (Ne.symm n3)]; exact h.ins,⟨_,qj,QY i (Paired.mapP p fun _ _ z=>k z) (k hb)⟩,by rw [zZ (Ne.symm h.n2)]; exact h.names,by rw [zZ (Ne.symm h.n3)]; exact h.heads,k h.goal,k h.guide,h.n1,h.n2,h.n3⟩
theorem TabAt.setNames {ns:List Nat} (h:TabAt C H A t):TabAt C (upd H A.an (.lst (natL ns))) A { t with names:=ns }:=by
 obtain ⟨vl,e,p⟩:=h.lines;obtain ⟨n1,n2,n3⟩:=h.np;have k:∀ {v:V} {l:List Int},wq H A v l→wq (upd H A.an (.lst (natL ns))) A v l:=fun ⟨d,e1,e2,n⟩=>⟨d,e1,by rw [zZ n.1]; exact e2,n⟩
 exact ⟨by rw [zZ (Ne.symm n1)]; exact h.ins,⟨vl,by rw [zZ h.n2]; exact e,Paired.mapP p fun _ _ z=>k z⟩,qj,by rw [zZ (Ne.symm h.n1)]; exact h.heads,k h.goal,k h.guide,h.n1,h.n2,h.n3⟩
theorem TabAt.setHeads {ns:List Nat} (h:TabAt C H A t):TabAt C (upd H A.ah (.lst (natL ns))) A { t with heads:=ns }:=by
 obtain ⟨vl,e,p⟩:=h.lines;obtain ⟨n1,n2,n3⟩:=h.np;have k:∀ {v:V} {l:List Int},wq H A v l→wq (upd H A.ah (.lst (natL ns))) A v l:=fun ⟨d,e1,e2,n⟩=>⟨d,e1,by rw [zZ n.2.1]; exact e2,n⟩
 exact ⟨by rw [zZ (Ne.symm n2)]; exact h.ins,⟨vl,by rw [zZ h.n3]; exact e,Paired.mapP p fun _ _ z=>k z⟩,by rw [zZ h.n1]; exact h.names,qj,k h.goal,k h.guide,h.n1,h.n2,h.n3⟩
end
def spWithout (K:Bc) (C:Addr):Sp:=fun vs H Q _=>∃ (p dx l th:Addr) (fs:List (Str×V)) (x y:List Int) (c:Nat) (bot sg:Int),vs=[.ref p,.ref l,.ref th,.int (c:Int),.int sg]∧H p=some (.ins C dx fs)∧fs.lookup ("bottom" : Str)=some (.int bot)∧SqL K H l (intL x)∧SqL K H th (intL y)∧x.length=y.length∧c<x.length∧x.length≤1000∧bot≠0∧(sg=1∨sg = -1)∧(∀ n∈x,Sm 6700 n)∧(∀ n∈y,Sm 6700 n)∧∀ q H',H q=none→Same H H'→H' q=some (.lst (intL (zV x y c bot sg)))→Q (.ref q) H'
theorem sg_sm {sg:Int} (h:sg=1∨sg = -1):Sm 1 sg:=by rcases h with h | h <;> rw [h] <;> (unfold Sm; decide)
theorem Y4 {n c:Nat} (h:c<n):ixN n (c:Int)=some c:=by
 unfold ixN;rw [if_pos (by omega),if_pos (by omega)];rfl
abbrev kx (P w K mg base) (a:Adr) (cdv A outer s H E):=(cxOf CX0 P w K mg base ["self", "line", "through", "column", "sign", "fresh"] "Tableau.without_head" (qQ yK) a.fzr cdv A outer s H E).nox
theorem kz (T:Txt K mg a):FnOk P w K mg base CX0 2 a.fzr a.dzr ["self", "line", "through", "column", "sign"] (spWithout K a.czg):=by
 refine T.Fzr.ok Z6 (fun vs H Q E h=>?_) (fun cdv A outer s H vs Q E hr h=>?_)
 ·obtain ⟨_,_,_,_,_,_,_,_,_,_,rfl,_⟩:=h
  rfl
 obtain ⟨p,dx,l,th,fs,x,y,c,bot,sg,rfl,hp,hbo,hl,ht,len,hc,l1,b0,hsg,sx,sy,q⟩:=h;have h0:PS (kx P w K mg base a cdv A outer s H E) (bS yK 0) _:=(zq (i:=5) Z6.nd rfl (Or.inl rfl) (qK (okyx T) (hr.mono (by decide)) rfl T.myx T.Fyx.kp T.byx .nil pass0 (pa_c (pv 1) (pa_c (pv 2) (pa_c (pv 3) (pa_c (zk (pv 0) rfl) qk))))));have h1:PS (kx P w K mg base a cdv A outer s H E) (bS yK 1) _:=(k7 (pe_op y9 (pe_un wZ (pe_ix zK (pv 1) (pv 3) (fun _ _=>rfl))) (pv 4)) (JY (pv 5) (pv 3) Qk));have h2:PS (kx P w K mg base a cdv A outer s H E) (bS yK 2) _:=(zQ (pv 5));refine body3 (by rfl) h0 h1 h2 ?_
 intros
 clear h0 h1 h2;obtain ⟨xc,hxc⟩:=yz (l:=x) (i:=c) hc;have gx:x.getD c 0=xc:=qZ hxc;refine ⟨_,rfl,_,rfl,_,rfl,_,rfl,p,_,dx,fs,_,rfl,hp,T.Czg,T.nzh,hbo,l,th,x,y,c,bot,rfl,hl,ht,len,hc,l1,b0,sx,sy,fun f H1 hf g1 e1=>?_⟩;refine ⟨_,rfl,_,rfl,l,_,_,_,rfl,rfl,g1.seq hl,atN (y8 hxc),_,rfl,_,rfl,_,_,rfl,rfl,mulOk (sx _ (Af hxc)).neg (sg_sm hsg),_,rfl,_,rfl,f,_,_,c,rfl,rfl,e1,Y4 (by rw [Av,sweep_len len]; exact hc),?_⟩;refine ⟨_,rfl,q f _ hf (g1.laid hf _) ?_⟩;rw [qj];show some (HO.lst ((intL (VW x y c bot)).set c (.int (-xc*sg))))=_;have e2:zV x y c bot sg=(VW x y c bot).set c (-xc*sg):=by rw [← gx]; rfl
 rw [e2];unfold intL;rw [List.map_set]
structure TabSz (t:Tab):Prop where
 ll:∀ l∈t.lines,l.length=t.heads.length+1∧∀ n∈l,Sm 6700 n
 lg:t.goal.length=t.heads.length+1∧∀ n∈t.goal,Sm 6700 n
 lu:t.guide.length=t.heads.length+1∧∀ n∈t.guide,Sm 6700 n
 nl:t.lines.length=t.names.length
 sb:Sm 6700 t.bot
 b0:t.bot≠0
 hd:t.heads.length≤100
 nd:t.names.length≤400
def spExch (K:Bc) (C:Addr):Sp:=fun vs H Q _=>∃ (A:TA) (t:Tab) (i c:Nat),vs=[.ref A.p,.int (i:Int),.int (c:Int)]∧TabAt C H A t∧TabSz t∧i<t.names.length∧c<t.heads.length∧∀ A' H',A'.p=A.p→A'.an=A.an→A'.ah=A.ah→A'.dx=A.dx→But (TabS A) H H'→TabAt C H' A' (exch t i c)→Q .non H'
theorem thL_len (l:List Int) (c:Nat):(thL l c).length=l.length:=by unfold thL; rw [Av]
theorem thL_sm {l:List Int} {c:Nat} (h:∀ n∈l,Sm 6700 n):∀ n∈thL l c,Sm 6700 n:=fun n hn=>by
 unfold thL at hn;obtain ⟨m,hm,e⟩:=List.mem_map.mp hn;rw [← e];refine (h m hm).le ?_;rw [B4]
 rcases sgL_one l c with z | z <;> rw [z] <;> (show m.natAbs*1≤_) <;> omega
theorem put_lines {A:TA} {t:Tab} {b:Addr} {ls:List (List Int)}:putF ("lines" : Str) (.ref b) (tabF A t)=tabF { A with al:=b } { t with lines:=ls }:=rfl
theorem put_goal {A:TA} {t:Tab} {b:Addr} {l:List Int}:putF ("goal" : Str) (.ref b) (tabF A t)=tabF { A with ag:=b } { t with goal:=l }:=rfl
theorem put_guide {A:TA} {t:Tab} {b:Addr} {l:List Int}:putF ("guide" : Str) (.ref b) (tabF A t)=tabF { A with au:=b } { t with guide:=l }:=rfl
theorem put_bottom {A:TA} {t:Tab} {b:Int}:putF ("bottom" : Str) (.int b) (tabF A t)=tabF A { t with bot:=b }:=rfl
theorem few_tab {A:TA} {t:Tab}:(tabF A t).length<1000:=by show 7<1000; decide
abbrev y3 (P w K mg base) (a:Adr) (cdv A outer s H E):=(cxOf CX0 P w K mg base ["self", "at", "column", "line", "sign", "through", "fresh", "name"] "Tableau.exchange" (qQ zJ) a.fzi cdv A outer s H E).nox
theorem Qj (T:Txt K mg a):FnOk P w K mg base CX0 3 a.fzi a.dzi ["self", "at", "column"] (spExch K a.czg):=by
 refine T.Fzi.ok jY (fun vs H Q E h=>?_) (fun cdv A outer s H vs Q E hr h=>?_)
 ·obtain ⟨_,_,_,_,rfl,_⟩:=h
  rfl
 obtain ⟨B,t,i,c,rfl,tab,sz,hi,hc,q⟩:=h;have h0:PS (y3 P w K mg base a cdv A outer s H E) (bS zJ 0) _:=(zq (i:=3) jY.nd rfl (Or.inl rfl) (pe_ix zK (zk (pv 0) rfl) (pv 1) (fun _ _=>rfl)));have h1:PS (y3 P w K mg base a cdv A outer s H E) (bS zJ 1) _:=(zq (i:=4) jY.nd rfl (Or.inr rfl) (Vx (zj op_gt (pe_ix zK (pv 3) (pv 2) (fun _ _=>rfl)) qz (zv _)) qz (pe_un wZ qz)));have h2:PS (y3 P w K mg base a cdv A outer s H E) (bS zJ 2) _:=(zq (i:=5) jY.nd rfl (Or.inr rfl) (vJ (N:=["number", "sign"]) (ix:=[none,some 4]) ⟨rfl,rfl,rfl,rfl,⟨rfl,trivial⟩,rfl,⟨⟨rfl,Or.inr (Or.inl rfl),jj rfl,rfl,Or.inl rfl⟩,trivial⟩⟩ rfl (yW (pv 3)) (fun _=>(qW (i:=0) (show (["number", "sign"]:List Str).Nodup by decide +kernel) rfl (Or.inl rfl))) (fun _ σ=>jQ rfl σ) (fun _=>yy) (fun _=>(pe_op y9 (pv 0) (pv 1)))));have h3:PS (y3 P w K mg base a cdv A outer s H E) (bS zJ 3) _:=(Q5 (pv 0) (vJ (N:=["other", "through", "column", "sign", "self"]) (ix:=[none,some 5,some 2,some 4,some 0]) ⟨rfl,rfl,rfl,rfl,⟨rfl,⟨rfl,⟨rfl,⟨rfl,trivial⟩⟩⟩⟩,rfl,⟨⟨rfl,Or.inr (Or.inl rfl),jj rfl,rfl,Or.inl rfl⟩,⟨⟨rfl,Or.inr (Or.inl rfl),jj rfl,rfl,Or.inl rfl⟩,⟨⟨rfl,Or.inr (Or.inl rfl),jj rfl,rfl,Or.inl rfl⟩,⟨⟨rfl,Or.inr (Or.inl rfl),jj rfl,rfl,Or.inl rfl⟩,trivial⟩⟩⟩⟩⟩ rfl (yW (zk (pv 0) rfl)) (fun _=>(qW (i:=0) (show (["other", "through", "column", "sign", "self"]:List Str).Nodup by decide +kernel) rfl (Or.inl rfl))) (fun _ σ=>jQ rfl σ) (fun _=>yy) (fun _=>(ZY (pv 4) T.Czg T.tzr (kz T) (hr.mono (by decide)) T.bzr .nil pass0 (pa_c (pv 0) (pa_c (pv 1) (pa_c (pv 2) (pa_c (pv 3) qk)))) (hst:=qq rfl _ _) (hpl:=qy rfl)))) rfl)
 have h4:PS (y3 P w K mg base a cdv A outer s H E) (bS zJ 4) _:=(Q5 (pv 0) (ZY (pv 0) T.Czg T.tzr (kz T) (hr.mono (by decide)) T.bzr .nil pass0 (pa_c (zk (pv 0) rfl) (pa_c (pv 5) (pa_c (pv 2) (pa_c (pv 4) qk)))) (hst:=qq rfl _ _) (hpl:=qy rfl)) rfl);have h5:PS (y3 P w K mg base a cdv A outer s H E) (bS zJ 5) _:=(Q5 (pv 0) (ZY (pv 0) T.Czg T.tzr (kz T) (hr.mono (by decide)) T.bzr .nil pass0 (pa_c (zk (pv 0) rfl) (pa_c (pv 5) (pa_c (pv 2) (pa_c (pv 4) qk)))) (hst:=qq rfl _ _) (hpl:=qy rfl)) rfl);have h6:PS (y3 P w K mg base a cdv A outer s H E) (bS zJ 6) _:=(zq (i:=6) jY.nd rfl (Or.inl rfl) (xv (xj) rfl T.m_list boot_list (pa_c (pv 5) qk)));have h7:PS (y3 P w K mg base a cdv A outer s H E) (bS zJ 7) _:=(k7 (pe_op y9 (zk (pv 0) rfl) (pv 4)) (JY (pv 6) (pv 2) Qk));have h8:PS (y3 P w K mg base a cdv A outer s H E) (bS zJ 8) _:=(k7 (pv 6) (JY (zk (pv 0) rfl) (pv 1) Qk));have h9:PS (y3 P w K mg base a cdv A outer s H E) (bS zJ 9) _:=(Q5 (pv 0) (pe_ix zK (pv 5) (pv 2) (fun _ _=>rfl)) rfl);have h10:PS (y3 P w K mg base a cdv A outer s H E) (bS zJ 10) _:=(zq (i:=7) jY.nd rfl (Or.inl rfl) (pe_ix zK (zk (pv 0) rfl) (pv 1) (fun _ _=>rfl)));have h11:PS (y3 P w K mg base a cdv A outer s H E) (bS zJ 11) _:=(k7 (pe_ix zK (zk (pv 0) rfl) (pv 2) (fun _ _=>rfl)) (JY (zk (pv 0) rfl) (pv 1) Qk));have h12:PS (y3 P w K mg base a cdv A outer s H E) (bS zJ 12) _:=(k7 (pv 7) (JY (zk (pv 0) rfl) (pv 2) Qk));refine body13 (by rfl) h0 h1 h2 h3 h4 h5 h6 h7 h8 h9 h10 h11 h12 ?_
 intros
 clear h0 h1 h2 h3 h4 h5 h6 h7 h8 h9 h10 h11 h12;obtain ⟨vl,hal,pl⟩:=tab.lines;have lv:=Paired.length pl;have hp:=tab.ins;obtain ⟨li,hli⟩:=yz (l:=t.lines) (i:=i) (by rw [sz.nl]; exact hi);obtain ⟨v,hv⟩:=yz (l:=vl) (i:=i) (by rw [lv,sz.nl]; exact hi);obtain ⟨l2,hl2,bl,rfl,sl0,apl⟩:=y7 pl hv;have sl:SqL K H bl (intL l2):=SqL.of sl0;rw [hli] at hl2
 cases hl2
 have gl:t.lines.getD i []=li:=qZ hli;obtain ⟨ln,ls⟩:=sz.ll li (Af hli);obtain ⟨lc,hlc⟩:=yz (l:=li) (i:=c) (by omega);have glc:li.getD c 0=lc:=qZ hlc;refine ⟨_,rfl,B.p,_,B.dx,_,_,rfl,hp,T.Czg,T.nzn,rfl,_,rfl,B.al,_,_,_,rfl,rfl,SqL.of hal,atN hv,?_⟩;dsimp only;rw [v3];change tSeq _ _ _ [some (.ref B.p),some (.int (i:Int)),some (.int (c:Int)),some (.ref bl),none,none,none,none] H;refine seq_cut fun N hN=>?_
 have rest:N [some (.ref B.p),some (.int (i:Int)),some (.int (c:Int)),some (.ref bl),some (.int (sgL li c)),none,none,none] H:=by
  subst hN;change tSeq _ _ _ [some (.ref B.p),some (.int (i:Int)),some (.int (c:Int)),some (.ref bl),some (.int (sgL li c)),none,none,none] H;have one:=sgL_one li c;generalize hsg:sgL li c=sg at *;refine ⟨_,rfl,bl,rfl,⟨_,sl⟩,j3 (n:=li.length) (fun k ys H'=>H'=H∧ys=intL ((thL li c).take k)) ⟨rfl,rfl⟩ (zw (by have:=sz.hd; omega)) ?_ ?_ ?_⟩
  case refine_2 =>
   rintro k ys H' hk ⟨rfl,_⟩;exact ⟨_,_,sl,y8 (A7 hk)⟩
  case refine_3 =>
   rintro k m' ys H' c1 v H2 hk ⟨rfl,rfl⟩ ⟨rfl,y1⟩ nx _;obtain ⟨n,hn,rfl⟩:=wv (y1 _ sl);refine Or.inl ⟨rfl,_,rfl,_,rfl,_,_,rfl,rfl,mulOk (ls n (Af hn)) (sg_sm one),nx _ _ ⟨rfl,?_⟩⟩;rw [J1 (x:=n*sg)];unfold thL;rw [List.getElem?_map,hn,hsg];rfl
  rintro ys H' ⟨rfl,rfl⟩;rw [A8 (by rw [thL_len]; exact Nat.le_refl _)];refine ⟨⟨_,sl,by rw [Av]; exact Nat.le_refl _⟩,fun th hth=>?_⟩;have g1:=qw hth (.lst (intL (thL li c)));have eth:upd H' th (.lst (intL (thL li c))) th=some (.lst (intL (thL li c))):=qj;have sth:=thL_sm (c:=c) ls;have lth:=thL_len li c;generalize hTH:thL li c=TH at *;have tab1:=tab.mono g1;have nth:Apart B th:=tab.apart hth;generalize upd H' th (.lst (intL TH))=H1 at *;have hd:=sz.hd;have nd:=sz.nd;have nl:=sz.nl;obtain ⟨vl1,hal1,pl1⟩:=tab1.lines;have lv1:=Paired.length pl1;refine ⟨_,rfl,B.p,_,B.dx,_,_,rfl,tab1.ins,T.Czg,T.nzn,rfl,B.al,rfl,⟨_,SqL.of hal1⟩,j3 (n:=t.lines.length) (fun k ys H'=>Same H1 H'∧Paired (wq H' B) ys ((t.lines.map fun o=>zV o TH c t.bot sg).take k)) ⟨Same.refl _,.nil⟩ (zw (by omega)) ?_ ?_ ?_⟩
  case refine_2 =>
   rintro k ys H2 hk ⟨g,_⟩;exact ⟨_,_,SqL.of (g _ _ hal1),A7 (by omega)⟩
  case refine_3 =>
   rintro k m' ys H2 c1 v H3 hk ⟨g,pr⟩ ⟨rfl,y1⟩ nx _;obtain ⟨o,ho,bo,rfl,so,_⟩:=y7 pl1 (y1 _ (SqL.of (g _ _ hal1)));obtain ⟨lo,sso⟩:=sz.ll o (Af ho);refine Or.inl ⟨rfl,_,rfl,B.p,B.dx,_,rfl,g _ _ tab1.ins,rfl,_,rfl,_,rfl,_,rfl,_,rfl,B.p,B.dx,bo,th,_,o,TH,c,t.bot,sg,rfl,g _ _ tab1.ins,rfl,SqL.of (g _ _ so),SqL.of (g _ _ eth),by omega,by omega,by omega,sz.b0,one,sso,sth,fun q1 H4 hq g4 e4=>nx _ _ ⟨g.trans g4,?_⟩⟩;rw [yv (x:=zV o TH c t.bot sg) (by rw [List.getElem?_map,ho]; rfl)];exact Paired.snoc (Paired.mapP pr fun _ _ k=>k.mono g4) ⟨q1,rfl,e4,(tab1.mono g).apart hq⟩
  rintro ys H2 ⟨g2,pr⟩;rw [A8 (by rw [Av]; exact Nat.le_refl _)] at pr;refine ⟨⟨_,SqL.of (g2 _ _ hal1),by omega⟩,fun al1 hal=>?_⟩;have g3:=qw hal (.lst ys);have tab2:=tab1.mono g2;have nal:=tab2.apart hal;have hal0:H' al1=none:=zW (g1.trans g2) hal;have g13:=g2.trans g3;have tab3:=tab1.mono g13;have ea:upd H2 al1 (.lst ys) al1=some (.lst ys):=qj;have pr3:Paired (fun v l=>∃ d,v=V.ref d∧upd H2 al1 (.lst ys) d=some (.lst (intL l))∧Apart B d∧d≠al1) ys (t.lines.map fun o=>zV o TH c t.bot sg):=Paired.mapP pr fun v l ⟨d,e1,e2,n⟩=>⟨d,e1,g3 _ _ e2,n,qV e2 hal⟩
  have ng:B.ag≠al1:=by obtain ⟨d,e1,e2,_⟩:=tab2.goal; cases e1; exact qV e2 hal
  have nu:B.au≠al1:=by obtain ⟨d,e1,e2,_⟩:=tab2.guide; cases e1; exact qV e2 hal
  have eth3:=g13 _ _ eth;have G3:But (TabS B) H' (upd H2 al1 (.lst ys)):=(g1.trans g13).but;generalize upd H2 al1 (.lst ys)=H3 at *;refine ⟨_,rfl,B.p,_,B.dx,_,rfl,tab3.ins,T.Czg,T.nzn,few_tab,?_⟩;rw [put_lines (ls:=t.lines.map fun o=>zV o TH c t.bot sg)];have tab4:=tab3.putLines nal ea pr3 ng nu;have u4:But (TabS B) H3 (upd H3 B.p (.ins a.czg B.dx (tabF { B with al:=al1 } { t with lines:=t.lines.map fun o=>zV o TH c t.bot sg }))):=wQ (.inl rfl);have eth4:=u4 _ _ nth.not eth3;have nth4:Apart { B with al:=al1 } th:=⟨nth.1,nth.2.1,nth.2.2.1,qV (g2 _ _ eth) hal⟩;have G4:=G3.trans u4;clear pr pr3 ea u4 eth3 tab3 g13 g3 g2 pl1 hal1 tab1 g1 tab2;generalize upd H3 B.p (.ins a.czg B.dx (tabF { B with al:=al1 } { t with lines:=t.lines.map fun o=>zV o TH c t.bot sg }))=H4 at *;obtain ⟨gb,egb,gs,gn⟩:=tab4.goal
  cases egb
  refine ⟨_,rfl,B.p,B.dx,_,rfl,tab4.ins,rfl,_,rfl,B.p,_,B.dx,_,_,rfl,tab4.ins,T.Czg,T.nzj,rfl,_,rfl,_,rfl,_,rfl,B.p,B.dx,B.ag,th,_,t.goal,TH,c,t.bot,sg,rfl,tab4.ins,rfl,SqL.of gs,SqL.of eth4,by have:=sz.lg.1; omega,by have:=sz.lg.1; omega,by have:=sz.lg.1; omega,sz.b0,one,sz.lg.2,sth,fun ag1 H5 hag g5 e5=>?_⟩;have tab5:=tab4.mono g5;have nag:=tab4.apart hag;refine ⟨_,rfl,B.p,_,B.dx,_,rfl,tab5.ins,T.Czg,T.nzj,few_tab,?_⟩;rw [put_goal (l:=zV t.goal TH c t.bot sg)];have tab6:=tab5.putP (t':={ t with lines:=t.lines.map fun o=>zV o TH c t.bot sg,goal:=zV t.goal TH c t.bot sg }) rfl rfl rfl ⟨ag1,rfl,e5,nag⟩ tab5.guide;have u6:But (TabS B) H5 (upd H5 B.p (.ins a.czg B.dx (tabF { B with al:=al1,ag:=ag1 } { t with lines:=t.lines.map fun o=>zV o TH c t.bot sg,goal:=zV t.goal TH c t.bot sg }))):=wQ (.inl rfl);have eth6:=u6 _ _ nth.not (g5 _ _ eth4);have G6:=G4.trans (g5.but.trans u6);clear tab4 tab5 u6 g5 e5 gs gn G4 eth4 hag;change TabAt _ (upd H5 B.p (.ins a.czg B.dx (tabF { B with al:=al1,ag:=ag1 } { t with lines:=t.lines.map fun o=>zV o TH c t.bot sg,goal:=zV t.goal TH c t.bot sg }))) { B with al:=al1,ag:=ag1 } { t with lines:=t.lines.map fun o=>zV o TH c t.bot sg,goal:=zV t.goal TH c t.bot sg } at tab6;generalize upd H5 B.p (.ins a.czg B.dx (tabF { B with al:=al1,ag:=ag1 } { t with lines:=t.lines.map fun o=>zV o TH c t.bot sg,goal:=zV t.goal TH c t.bot sg }))=H6 at *;obtain ⟨gb,egb,gs,gn⟩:=tab6.guide
  cases egb
  refine ⟨_,rfl,B.p,B.dx,_,rfl,tab6.ins,rfl,_,rfl,B.p,_,B.dx,_,_,rfl,tab6.ins,T.Czg,T.nzk,rfl,_,rfl,_,rfl,_,rfl,B.p,B.dx,B.au,th,_,t.guide,TH,c,t.bot,sg,rfl,tab6.ins,rfl,SqL.of gs,SqL.of eth6,by have:=sz.lu.1; omega,by have:=sz.lu.1; omega,by have:=sz.lu.1; omega,sz.b0,one,sz.lu.2,sth,fun au1 H7 hau g7 e7=>?_⟩;have tab7:=tab6.mono g7;have nau:=tab6.apart hau;refine ⟨_,rfl,B.p,_,B.dx,_,rfl,tab7.ins,T.Czg,T.nzk,few_tab,?_⟩;rw [put_guide (l:=zV t.guide TH c t.bot sg)];have tab8:=tab7.putP (t':={ t with lines:=t.lines.map fun o=>zV o TH c t.bot sg,goal:=zV t.goal TH c t.bot sg,guide:=zV t.guide TH c t.bot sg }) rfl rfl rfl tab7.goal ⟨au1,rfl,e7,nau⟩;have u8:But (TabS B) H7 (upd H7 B.p (.ins a.czg B.dx (tabF { B with al:=al1,ag:=ag1,au:=au1 } { t with lines:=t.lines.map fun o=>zV o TH c t.bot sg,goal:=zV t.goal TH c t.bot sg,guide:=zV t.guide TH c t.bot sg }))):=wQ (.inl rfl);have eth8:=u8 _ _ nth.not (g7 _ _ eth6);have G8:=G6.trans (g7.but.trans u8);clear tab6 tab7 u8 g7 e7 gs gn G6 eth6 hau;change TabAt _ (upd H7 B.p (.ins a.czg B.dx (tabF { B with al:=al1,ag:=ag1,au:=au1 } { t with lines:=t.lines.map fun o=>zV o TH c t.bot sg,goal:=zV t.goal TH c t.bot sg,guide:=zV t.guide TH c t.bot sg }))) { B with al:=al1,ag:=ag1,au:=au1 } { t with lines:=t.lines.map fun o=>zV o TH c t.bot sg,goal:=zV t.goal TH c t.bot sg,guide:=zV t.guide TH c t.bot sg } at tab8;generalize upd H7 B.p (.ins a.czg B.dx (tabF { B with al:=al1,ag:=ag1,au:=au1 } { t with lines:=t.lines.map fun o=>zV o TH c t.bot sg,goal:=zV t.goal TH c t.bot sg,guide:=zV t.guide TH c t.bot sg }))=H8 at *
  refine ⟨_,rfl,th,_,rfl,.inl (SqL.of eth8),fun fr hfr=>?_⟩;have g9:=qw hfr (.lst (intL TH));have tab9:=tab8.mono g9;have nfr:=tab8.apart hfr;have nft:th≠fr:=qV eth8 hfr;refine ⟨_,rfl,B.p,_,B.dx,_,_,rfl,tab9.ins,T.Czg,T.nzh,rfl,_,rfl,_,_,rfl,rfl,mulOk sz.sb (sg_sm one),_,rfl,_,rfl,fr,_,_,c,rfl,rfl,qj,Y4 (by rw [Av,lth]; omega),?_⟩;have e10:upd (upd H8 fr (.lst (intL TH))) fr (.lst ((intL TH).set c (.int (t.bot*sg)))) fr=some (.lst (intL (TH.set c (t.bot*sg)))):=by rw [qj]; unfold intL; rw [List.map_set]
  have gA:Same H8 (upd (upd H8 fr (.lst (intL TH))) fr (.lst ((intL TH).set c (.int (t.bot*sg))))):=g9.laid hfr _;have tabA:=tab8.mono gA;have ethA:=gA _ _ eth8;have GA:=G8.trans gA.but;clear tab8 tab9 g9 gA eth8 G8;generalize upd (upd H8 fr (.lst (intL TH))) fr (.lst ((intL TH).set c (.int (t.bot*sg))))=HA at *;obtain ⟨vlA,eA,pA⟩:=tabA.lines;have lA:=Paired.length pA;have lA2:vlA.length=t.lines.length:=by rw [lA]; exact Av _
  refine ⟨_,rfl,_,rfl,B.p,_,B.dx,_,_,rfl,tabA.ins,T.Czg,T.nzn,rfl,_,rfl,al1,_,_,i,rfl,rfl,eA,Y4 (by omega),?_⟩;have tabB:=tabA.setLine eA i ⟨fr,rfl,e10,nfr⟩;have GB:But (TabS B) H' (upd HA al1 (.lst (vlA.set i (.ref fr)))):=fun b o n e=>by
   rw [zZ (qV e hal0)];exact GA b o n e
  have ethB:upd HA al1 (.lst (vlA.set i (.ref fr))) th=some (.lst (intL TH)):=by rw [zZ nth4.2.2.2]; exact ethA
  clear tabA GA ethA eA pA;dsimp only at tabB;generalize upd HA al1 (.lst (vlA.set i (.ref fr)))=HB at *;obtain ⟨tc,htc⟩:=yz (l:=TH) (i:=c) (by omega);have gtc:TH.getD c 0=tc:=qZ htc;obtain ⟨ni,hni⟩:=yz (l:=t.names) (i:=i) hi;obtain ⟨hcn,hhc⟩:=yz (l:=t.heads) (i:=c) hc;refine ⟨_,rfl,_,rfl,th,_,_,_,rfl,rfl,SqL.of ethB,atN (y8 htc),_,rfl,B.p,_,B.dx,_,rfl,tabB.ins,T.Czg,T.nzh,few_tab,?_⟩;rw [put_bottom];have tabC:=tabB.putP (t':={ t with lines:=(t.lines.map fun o=>zV o TH c t.bot sg).set i (TH.set c (t.bot*sg)),goal:=zV t.goal TH c t.bot sg,guide:=zV t.guide TH c t.bot sg,bot:=tc }) rfl rfl rfl tabB.goal tabB.guide;have uC:But (TabS B) HB (upd HB B.p (.ins a.czg B.dx (tabF { B with al:=al1,ag:=ag1,au:=au1 } { t with lines:=(t.lines.map fun o=>zV o TH c t.bot sg).set i (TH.set c (t.bot*sg)),goal:=zV t.goal TH c t.bot sg,guide:=zV t.guide TH c t.bot sg,bot:=tc }))):=wQ (.inl rfl);have GC:=GB.trans uC;change TabAt _ (upd HB B.p (.ins a.czg B.dx (tabF { B with al:=al1,ag:=ag1,au:=au1 } { t with lines:=(t.lines.map fun o=>zV o TH c t.bot sg).set i (TH.set c (t.bot*sg)),goal:=zV t.goal TH c t.bot sg,guide:=zV t.guide TH c t.bot sg,bot:=tc }))) { B with al:=al1,ag:=ag1,au:=au1 } { t with lines:=(t.lines.map fun o=>zV o TH c t.bot sg).set i (TH.set c (t.bot*sg)),goal:=zV t.goal TH c t.bot sg,guide:=zV t.guide TH c t.bot sg,bot:=tc } at tabC;clear tabB GB uC ethB;dsimp only;generalize upd HB B.p (.ins a.czg B.dx (tabF { B with al:=al1,ag:=ag1,au:=au1 } { t with lines:=(t.lines.map fun o=>zV o TH c t.bot sg).set i (TH.set c (t.bot*sg)),goal:=zV t.goal TH c t.bot sg,guide:=zV t.guide TH c t.bot sg,bot:=tc }))=HC at *
  refine ⟨_,rfl,B.p,_,B.dx,_,_,rfl,tabC.ins,T.Czg,T.nzo,rfl,_,rfl,B.an,_,_,_,rfl,rfl,SqL.of tabC.names,atN (j7 hni),?_⟩;refine ⟨_,rfl,B.p,_,B.dx,_,_,rfl,tabC.ins,T.Czg,T.nzl,rfl,_,rfl,B.ah,_,_,_,rfl,rfl,SqL.of tabC.heads,atN (j7 hhc),_,rfl,B.p,_,B.dx,_,_,rfl,tabC.ins,T.Czg,T.nzo,rfl,_,rfl,B.an,_,_,i,rfl,rfl,tabC.names,Y4 (by rw [Av]; exact hi),?_⟩;have eD:(natL t.names).set i (.int (hcn:Int))=natL (t.names.set i hcn):=by unfold natL; rw [List.map_set]
  dsimp only;rw [eD];have tabD:=tabC.setNames (ns:=t.names.set i hcn);have uD:But (TabS B) HC (upd HC B.an (.lst (natL (t.names.set i hcn)))):=wQ (.inr (.inl rfl));have GD:=GC.trans uD;clear tabC GC uD eD;dsimp only at tabD;generalize upd HC B.an (.lst (natL (t.names.set i hcn)))=HD at *;refine ⟨_,rfl,_,rfl,B.p,_,B.dx,_,_,rfl,tabD.ins,T.Czg,T.nzl,rfl,_,rfl,B.ah,_,_,c,rfl,rfl,tabD.heads,Y4 (by rw [Av]; exact hc),?_⟩;have eE:(natL t.heads).set c (.int (ni:Int))=natL (t.heads.set c ni):=by unfold natL; rw [List.map_set]
  dsimp only;rw [eE];have tabE:=tabD.setHeads (ns:=t.heads.set c ni);have uE:But (TabS B) HD (upd HD B.ah (.lst (natL (t.heads.set c ni)))):=wQ (.inr (.inr rfl));refine q { B with al:=al1,ag:=ag1,au:=au1 } _ rfl rfl rfl rfl (GD.trans uE) ?_;have ex:exch t i c={ t with lines:=(t.lines.map fun o=>zV o TH c t.bot sg).set i (TH.set c (t.bot*sg)),goal:=zV t.goal TH c t.bot sg,guide:=zV t.guide TH c t.bot sg,bot:=tc,names:=t.names.set i hcn,heads:=t.heads.set c ni }:=by
   unfold exch;rw [gl,hTH,hsg,gtc,qZ hni,qZ hhc]
  rw [ex];exact tabE
 refine ⟨_,rfl,_,rfl,bl,_,_,_,rfl,rfl,sl,atN (y8 hlc),_,_,rfl,rfl,_,rfl,?_⟩
 by_cases c0:0<lc
 ·have e:sgL li c=1:=by unfold sgL; rw [glc,if_pos c0]
  rw [e] at rest;exact iteP c0 rest
 ·have e:sgL li c = -1:=by unfold sgL; rw [glc,if_neg c0]
  rw [e] at rest;exact iteN c0 ⟨_,rfl,rest⟩
def tab0 (lines:List (List Int)) (goal:List Int):Tab:=⟨lines.length,1,lines,List.range lines.length,(List.range (goal.length - 1)).map (lines.length+·),goal,goal⟩
def spTabInit (C:Addr):Sp:=fun vs H Q _=>∃ (x dx l g:Addr) (vl:List V) (lines:List (List Int)) (goal:List Int),vs=[.ref x,.ref l,.ref g]∧H x=some (.ins C dx [])∧H l=some (.lst vl)∧Paired (fun v li=>∃ d,v=V.ref d∧H d=some (.lst (intL li))∧d≠l) vl lines∧H g=some (.lst (intL goal))∧g≠l∧1≤goal.length∧goal.length≤101∧lines.length≤400∧∀ A H',A.p=x→A.al=l→A.ag=g→A.dx=dx→(∀ b o,b≠x→H b=some o→H' b=some o)→H A.an=none→H A.ah=none→H A.au=none→TabAt C H' A (tab0 lines goal)→Q .non H'
abbrev vv (P w K mg base) (a:Adr) (cdv A outer s H E):=(cxOf CX0 P w K mg base ["self", "lines", "goal"] "Tableau.__init__" (qQ j6) a.fzm cdv A outer s H E).nox
theorem okzm (T:Txt K mg a):FnOk P w K mg base CX0 1 a.fzm a.dzm ["self", "lines", "goal"] (spTabInit a.czg):=by
 refine T.Fzm.ok sczm (fun vs H Q E h=>?_) (fun cdv A outer s H vs Q E hr h=>?_)
 ·obtain ⟨_,_,_,_,_,_,_,rfl,_⟩:=h
  rfl
 obtain ⟨x,dx,l,g,vl,lines,goal,rfl,hx,hl,pl,hg,ngl,g1,g101,l400,q⟩:=h;have h0:PS (vv P w K mg base a cdv A outer s H E) (bS j6 0) _:=(Q5 (pv 0) (zX (yV) rfl T.m_len boot_len (pa_c (pv 1) qk)) rfl);have h1:PS (vv P w K mg base a cdv A outer s H E) (bS j6 1) _:=(Q5 (pv 0) qz rfl);have h2:PS (vv P w K mg base a cdv A outer s H E) (bS j6 2) _:=(Q5 (pv 0) (pv 1) rfl);have h3:PS (vv P w K mg base a cdv A outer s H E) (bS j6 3) _:=(Q5 (pv 0) (xv (call_list_rng rfl) rfl T.m_list boot_list (pa_c (xv (call_range1) rfl T.m_range boot_range (pa_c (zk (pv 0) rfl) qk)) qk)) rfl);have h4:PS (vv P w K mg base a cdv A outer s H E) (bS j6 4) _:=(Q5 (pv 0) (vJ (N:=["k", "self"]) (ix:=[none,some 0]) ⟨rfl,rfl,rfl,rfl,⟨rfl,trivial⟩,rfl,⟨⟨rfl,Or.inr (Or.inl rfl),jj rfl,rfl,Or.inl rfl⟩,trivial⟩⟩ rfl (pi_range1 rfl T.m_range (pa_c (pe_op Yk (zX (yV) rfl T.m_len boot_len (pa_c (pv 2) qk)) qz) qk)) (fun _=>(qW (i:=0) (show (["k", "self"]:List Str).Nodup by decide +kernel) rfl (Or.inl rfl))) (fun _ σ=>jQ rfl σ) (fun _=>yy) (fun _=>(pe_op Qz (zk (pv 1) rfl) (pv 0)))) rfl);have h5:PS (vv P w K mg base a cdv A outer s H E) (bS j6 5) _:=(Q5 (pv 0) (pv 2) rfl);have h6:PS (vv P w K mg base a cdv A outer s H E) (bS j6 6) _:=(Q5 (pv 0) (xv (xj) rfl T.m_list boot_list (pa_c (pv 2) qk)) rfl);refine body7 (by rfl) h0 h1 h2 h3 h4 h5 h6 ?_
 intros
 clear h0 h1 h2 h3 h4 h5 h6;have lv:=Paired.length pl;have nlx:l≠x:=ne_of hl hx (by intro z; cases z);have ngx:g≠x:=ne_of hg hx (by intro z; cases z);refine ⟨_,rfl,_,_,rfl,.inl (SqL.of hl),_,rfl,x,_,dx,[],rfl,hx,T.Czg,T.nzq,by decide,?_⟩;have hn:((vl.length:Nat):Int)=(lines.length:Int):=by rw [lv]
 rw [hn];have B1:But (fun b=>b=x) H (upd H x (.ins a.czg dx (putF "rooms" (.int (lines.length:Int)) []))):=wQ rfl;have x1:upd H x (.ins a.czg dx (putF "rooms" (.int (lines.length:Int)) [])) x=some (.ins a.czg dx [("rooms",.int (lines.length:Int))]):=qj;generalize upd H x (.ins a.czg dx (putF "rooms" (.int (lines.length:Int)) []))=H1 at *;refine ⟨_,rfl,x,_,dx,_,rfl,x1,T.Czg,T.nzh,(show 1<1000 by decide),?_⟩;have B2:But (fun b=>b=x) H (upd H1 x (.ins a.czg dx (putF "bottom" (.int 1) [("rooms",.int (lines.length:Int))]))):=B1.trans (wQ rfl);have x2:upd H1 x (.ins a.czg dx (putF "bottom" (.int 1) [("rooms",.int (lines.length:Int))])) x=some (.ins a.czg dx [("rooms",.int (lines.length:Int)),("bottom",.int 1)]):=qj;generalize upd H1 x (.ins a.czg dx (putF "bottom" (.int 1) [("rooms",.int (lines.length:Int))]))=H2 at *;refine ⟨_,rfl,_,rfl,x,_,dx,_,rfl,x2,T.Czg,T.nzn,(show 2<1000 by decide),?_⟩;have B3:But (fun b=>b=x) H (upd H2 x (.ins a.czg dx (putF "lines" (.ref l) [("rooms",.int (lines.length:Int)),("bottom",.int 1)]))):=B2.trans (wQ rfl);have x3:upd H2 x (.ins a.czg dx (putF "lines" (.ref l) [("rooms",.int (lines.length:Int)),("bottom",.int 1)])) x=some (.ins a.czg dx [("rooms",.int (lines.length:Int)),("bottom",.int 1),("lines",.ref l)]):=qj;clear B1 x1 B2 x2;generalize upd H2 x (.ins a.czg dx (putF "lines" (.ref l) [("rooms",.int (lines.length:Int)),("bottom",.int 1)]))=H3 at *;have none_of:∀ {G:Hp} {b:Addr},But (fun b=>b=x) H G→G b=none→b≠x→H b=none:=fun {G b} g e n=>by
  cases h:H b with
  | none=>rfl
  | some o=>rw [g b o n h] at e; cases e
 refine ⟨_,rfl,x,_,dx,_,_,rfl,x3,T.Czg,T.nzq,rfl,lines.length,rfl,fun p1 hp1=>?_⟩;have g4:=qw hp1 (.ext (RngAt p1 lines.length));refine ⟨p1,lines.length,rfl,qj,by omega,fun an han=>?_⟩;have g5:=qw han (.lst ((List.range lines.length).map fun k:Nat=>V.int (k:Int)));have g45:=g4.trans g5;have x5:=g45 _ _ x3;have en:upd (upd H3 p1 (.ext (RngAt p1 lines.length))) an (.lst ((List.range lines.length).map fun k:Nat=>V.int (k:Int))) an=some (.lst (natL (List.range lines.length))):=qj;have B5:But (fun b=>b=x) H (upd (upd H3 p1 (.ext (RngAt p1 lines.length))) an (.lst ((List.range lines.length).map fun k:Nat=>V.int (k:Int)))):=B3.trans g45.but;have nax:an≠x:=Ne.symm (qV (g4 _ _ x3) han);have an0:H an=none:=none_of (B3.trans g4.but) han nax;generalize upd (upd H3 p1 (.ext (RngAt p1 lines.length))) an (.lst ((List.range lines.length).map fun k:Nat=>V.int (k:Int)))=H5 at *;refine ⟨_,rfl,x,_,dx,_,rfl,x5,T.Czg,T.nzo,(show 3<1000 by decide),?_⟩;have u6:But (fun b=>b=x) H5 (upd H5 x (.ins a.czg dx (putF "names" (.ref an) [("rooms",.int (lines.length:Int)),("bottom",.int 1),("lines",.ref l)]))):=wQ rfl;have x6:upd H5 x (.ins a.czg dx (putF "names" (.ref an) [("rooms",.int (lines.length:Int)),("bottom",.int 1),("lines",.ref l)])) x=some (.ins a.czg dx [("rooms",.int (lines.length:Int)),("bottom",.int 1),("lines",.ref l),("names",.ref an)]):=qj;have B6:=B5.trans u6;have en6:=u6 _ _ nax en;clear B3 x3 g4 g5 g45 x5 B5 u6 en;generalize upd H5 x (.ins a.czg dx (putF "names" (.ref an) [("rooms",.int (lines.length:Int)),("bottom",.int 1),("lines",.ref l)]))=H6 at *
 have gl:((intL goal).length:Int) - 1=((goal.length - 1:Nat):Int):=by rw [Av]; omega
 refine ⟨_,rfl,_,_,rfl,.inl (SqL.of (B6 _ _ ngx hg)),_,_,rfl,rfl,_,congrArg (fun z=>[V.int z]) gl,by omega,by omega,j3 (n:=goal.length - 1) (fun i ys H'=>H'=H6∧ys=natL (((List.range (goal.length - 1)).map (lines.length+·)).take i)) ⟨rfl,rfl⟩ (zw (by omega)) ?_ ?_ ?_⟩
 case refine_2 =>
  rintro i ys H' hi _;show i<_;omega
 case refine_3 =>
  rintro i m' ys H' c1 v H2 hi ⟨rfl,rfl⟩ ⟨rfl,rfl⟩ nx _;refine Or.inl ⟨rfl,_,rfl,x,_,dx,_,_,rfl,x6,T.Czg,T.nzq,rfl,_,rfl,_,_,rfl,rfl,nx _ _ ⟨rfl,?_⟩⟩;unfold natL;rw [yv (x:=lines.length+i) (by rw [List.getElem?_map,List.getElem?_range (by omega)]; rfl),Ax];show _=_++[V.int ((lines.length+i:Nat):Int)];rw [show ((lines.length+i:Nat):Int)=(lines.length:Int)+(0+(i:Int)) by omega]
 rintro ys H' ⟨rfl,rfl⟩;rw [A8 (by rw [Av,Ar]; exact Nat.le_refl _)];refine ⟨by show _≤goal.length - 1; omega,fun ah hah=>?_⟩;have g7:=qw hah (.lst (natL ((List.range (goal.length - 1)).map (lines.length+·))));have nhx:ah≠x:=Ne.symm (qV x6 hah);have ah0:H ah=none:=none_of B6 hah nhx;have nna:an≠ah:=qV en6 hah;have x7:=g7 _ _ x6;have en7:=g7 _ _ en6;have eh7:upd H' ah (.lst (natL ((List.range (goal.length - 1)).map (lines.length+·)))) ah=_:=qj;have B7:=B6.trans g7.but;generalize upd H' ah (.lst (natL ((List.range (goal.length - 1)).map (lines.length+·))))=H7 at *;refine ⟨_,rfl,x,_,dx,_,rfl,x7,T.Czg,T.nzl,(show 4<1000 by decide),?_⟩;have u8:But (fun b=>b=x) H7 (upd H7 x (.ins a.czg dx (putF "heads" (.ref ah) [("rooms",.int (lines.length:Int)),("bottom",.int 1),("lines",.ref l),("names",.ref an)]))):=wQ rfl;have x8:upd H7 x (.ins a.czg dx (putF "heads" (.ref ah) [("rooms",.int (lines.length:Int)),("bottom",.int 1),("lines",.ref l),("names",.ref an)])) x=some (.ins a.czg dx [("rooms",.int (lines.length:Int)),("bottom",.int 1),("lines",.ref l),("names",.ref an),("heads",.ref ah)]):=qj;have B8:=B7.trans u8;have en8:=u8 _ _ nax en7;have eh8:=u8 _ _ nhx eh7;clear x6 en6 B6 x7 en7 eh7 B7 u8 g7;generalize upd H7 x (.ins a.czg dx (putF "heads" (.ref ah) [("rooms",.int (lines.length:Int)),("bottom",.int 1),("lines",.ref l),("names",.ref an)]))=H8 at *;refine ⟨_,rfl,_,rfl,x,_,dx,_,rfl,x8,T.Czg,T.nzj,(show 5<1000 by decide),?_⟩;have u9:But (fun b=>b=x) H8 (upd H8 x (.ins a.czg dx (putF "goal" (.ref g) [("rooms",.int (lines.length:Int)),("bottom",.int 1),("lines",.ref l),("names",.ref an),("heads",.ref ah)]))):=wQ rfl
 have x9:upd H8 x (.ins a.czg dx (putF "goal" (.ref g) [("rooms",.int (lines.length:Int)),("bottom",.int 1),("lines",.ref l),("names",.ref an),("heads",.ref ah)])) x=some (.ins a.czg dx [("rooms",.int (lines.length:Int)),("bottom",.int 1),("lines",.ref l),("names",.ref an),("heads",.ref ah),("goal",.ref g)]):=qj;have B9:=B8.trans u9;have en9:=u9 _ _ nax en8;have eh9:=u9 _ _ nhx eh8;clear x8 en8 eh8 B8 u9;generalize upd H8 x (.ins a.czg dx (putF "goal" (.ref g) [("rooms",.int (lines.length:Int)),("bottom",.int 1),("lines",.ref l),("names",.ref an),("heads",.ref ah)]))=H9 at *;refine ⟨_,rfl,g,_,rfl,.inl (SqL.of (B9 _ _ ngx hg)),fun au hau=>?_⟩;have gA:=qw hau (.lst (intL goal));have nux:au≠x:=Ne.symm (qV x9 hau);have au0:H au=none:=none_of B9 hau nux;have xA:=gA _ _ x9;have BA:=B9.trans gA.but;have euA:upd H9 au (.lst (intL goal)) au=some (.lst (intL goal)):=qj;have enA:=gA _ _ en9;have ehA:=gA _ _ eh9;have nua:au≠an:=Ne.symm (qV en9 hau);have nuh:au≠ah:=Ne.symm (qV eh9 hau);clear x9 B9 en9 eh9 gA;generalize upd H9 au (.lst (intL goal))=HA at *;refine ⟨_,rfl,x,_,dx,_,rfl,xA,T.Czg,T.nzk,(show 6<1000 by decide),?_⟩;have uB:But (fun b=>b=x) HA (upd HA x (.ins a.czg dx (putF "guide" (.ref au) [("rooms",.int (lines.length:Int)),("bottom",.int 1),("lines",.ref l),("names",.ref an),("heads",.ref ah),("goal",.ref g)]))):=wQ rfl;have BB:=BA.trans uB;have ap:∀ {d:Addr} {o:HO},H d=some o→d≠x→d≠l→Apart ⟨x,dx,l,an,ah,g,au⟩ d:=fun e n1 n2=>⟨qV e an0,qV e ah0,n1,n2⟩
 refine q ⟨x,dx,l,an,ah,g,au⟩ _ rfl rfl rfl rfl (fun b o n e=>BB b o n e) an0 ah0 au0 ⟨qj,⟨vl,BB _ _ nlx hl,Paired.mapP pl fun v li ⟨d,e1,e2,n⟩=>?_⟩,uB _ _ nax enA,uB _ _ nhx ehA,⟨g,rfl,BB _ _ ngx hg,ap hg ngx ngl⟩,⟨au,rfl,uB _ _ nux euA,nua,nuh,nux,Ne.symm (qV hl au0)⟩,nna,qV hl an0,qV hl ah0⟩;have dx':d≠x:=ne_of e2 hx (by intro z; cases z);exact ⟨d,e1,BB _ _ dx' e2,ap e2 dx' n⟩
def j9 (names:List Nat) (rooms:Nat):List Nat:=(List.range names.length).filter fun i=>decide (names.getD i 0<rooms)
theorem wK {names:List Nat} {rooms i:Nat}:i∈j9 names rooms↔∃ x,names[i]?=some x∧x<rooms:=by
 unfold j9;rw [List.mem_filter,List.mem_range,decide_eq_true_iff]
 constructor
 ·rintro ⟨h,k⟩
  rw [qZ (A7 h)] at k;exact ⟨_,A7 h,k⟩
 ·rintro ⟨x,e,k⟩
  exact ⟨(A3.mp e).1,by rw [qZ e]; exact k⟩
theorem roomIx_len (names:List Nat) (rooms:Nat):(j9 names rooms).length≤names.length:=by
 unfold j9;exact Ba (List.length_filter_le _ _) (by rw [Ar]; exact Nat.le_refl _)
def spRoomLines (C:Addr):Sp:=fun vs H Q _=>∃ (A:TA) (t:Tab),vs=[.ref A.p]∧TabAt C H A t∧t.names.length≤400∧∀ l H',H l=none→Same H H'→H' l=some (.lst (natL (j9 t.names t.rooms)))→Q (.ref l) H'
theorem xQ (T:Txt K mg a):FnOk P w K mg base CX0 1 a.fzp a.dzp ["self"] (spRoomLines a.czg):=by
 refine T.Fzp.ok sczp (fun vs H Q E h=>?_) (fun cdv A outer s H vs Q E hr h=>?_)
 ·obtain ⟨_,_,rfl,_⟩:=h
  rfl
 obtain ⟨B,t,rfl,tab,l400,q⟩:=h;refine ⟨_,(qX (zQ (vJ (N:=["at", "name", "self"]) (ix:=[none,none,some 0]) ⟨rfl,rfl,rfl,rfl,⟨rfl,trivial⟩,rfl,⟨⟨rfl,Or.inr (Or.inl rfl),jj rfl,rfl,Or.inl rfl⟩,trivial⟩⟩ rfl (pi_enum rfl T.m_enumerate (pa_c (zk (pv 0) rfl) qk)) (fun _=>(vZ rfl (zy (qW (i:=0) (show (["at", "name", "self"]:List Str).Nodup by decide +kernel) rfl (Or.inl rfl)) (zy (qW (i:=1) (show (["at", "name", "self"]:List Str).Nodup by decide +kernel) rfl (Or.inl rfl)) jy)))) (fun _ σ=>go_two rfl rfl (by decide) σ) (fun _=>(pif_one (zj op_lt (pv 1) (zk (pv 2) rfl) (zv _)))) (fun _=>(pv 0))))),?_⟩;refine ⟨_,rfl,B.p,_,B.dx,_,_,rfl,tab.ins,T.Czg,T.nzo,rfl,B.an,rfl,⟨_,SqL.of tab.names⟩,j3 (n:=t.names.length) (fun i ys H'=>Same H H'∧ys=natL ((List.range i).filter fun i=>decide (t.names.getD i 0<t.rooms))) ⟨Same.refl _,rfl⟩ (zw (by omega)) ?_ ?_ ?_⟩
 ·rintro ys H' ⟨g,rfl⟩
  exact ⟨⟨_,SqL.of (g _ _ tab.names),by rw [Av]; exact Nat.le_refl _⟩,fun D hD=>q D _ (zW g hD) (g.trans (qw hD _)) qj⟩
 ·rintro i ys H' hi ⟨g,_⟩
  exact ⟨_,_,SqL.of (g _ _ tab.names),j7 (A7 hi)⟩
 ·rintro i m' ys H' c1 v H2 hi ⟨g,rfl⟩ ⟨p,x2,hp,rfl,rfl,y1⟩ nx nx2
  obtain ⟨n,hn,rfl⟩:=Y0 (y1 _ (SqL.of (g _ _ tab.names)));have g3:=qw hp (.tup [.int (i:Int),.int (n:Int)]);have gg:=g.trans g3;have ex:(List.range (i+1)).filter (fun i=>decide (t.names.getD i 0<t.rooms))=(List.range i).filter (fun i=>decide (t.names.getD i 0<t.rooms))++if n<t.rooms then [i] else []:=by
   rw [List.range_succ,List.filter_append]
   congr 1
   by_cases c:n<t.rooms
   ·rw [if_pos c,List.filter_cons_of_pos (by rw [qZ hn]; exact decide_eq_true c)]; rfl
   ·rw [if_neg c,List.filter_cons_of_neg (by rw [qZ hn]; simpa using c)]; rfl
  refine ⟨p,_,rfl,SqT.of qj,rfl,_,_,rfl,_,_,rfl,rfl,_,rfl,_,rfl,B.p,_,B.dx,_,_,rfl,gg _ _ tab.ins,T.Czg,T.nzq,rfl,_,_,rfl,rfl,_,rfl,?_⟩
  by_cases c:n<t.rooms
  ·refine Or.inl ⟨decide_eq_true (by omega),_,rfl,nx _ _ ⟨gg,?_⟩⟩
   rw [ex,if_pos c];unfold natL;rw [Ax];rfl
  ·refine Or.inr ⟨decide_eq_false (by omega),nx2 _ ⟨gg,?_⟩⟩
   rw [ex,if_neg c,List.append_nil]
set_option genInjectivity false in
set_option genSizeOf false in
structure Stp where
 va:V
 vc:V
 top:Int
 bot:Int
 nm:Nat
def StpAt (K:Bc) (H:Hp) (v:V) (s:Stp):Prop:=∃ p,v=.ref p∧SqT K H p [s.va,s.vc,.int s.top,.int s.bot,.int (s.nm:Int)]
theorem StpAt.mono {H H':Hp} {v:V} {s:Stp} (h:StpAt K H v s) (g:Same H H'):StpAt K H' v s:=by
 obtain ⟨p,e,k⟩:=h;exact ⟨p,e,g.tup k⟩
def BestS (ss:List Stp) (n:Nat) (s:Stp):Prop:=s∈ss∧∀ j z,j<n→ss[j]?=some z→z.top*s.bot≤s.top*z.bot∧(z.top*s.bot=s.top*z.bot→s.nm≤z.nm)
theorem best_keep {ss:List Stp} {n:Nat} {s z:Stp} (h:BestS ss n s) (hz:ss[n]?=some z) (o:z.top*s.bot≤s.top*z.bot∧(z.top*s.bot=s.top*z.bot→s.nm≤z.nm)):BestS ss (n+1) s:=by
 refine ⟨h.1,fun j y hj hy=>?_⟩
 by_cases e:j=n
 ·subst e
  rw [hz] at hy
  cases hy
  exact o
 ·exact h.2 j y (by omega) hy
theorem best_new {ss:List Stp} {n:Nat} {s z:Stp} (p:∀ y∈ss,0<y.bot) (h:BestS ss n s) (hz:ss[n]?=some z) (o:s.top*z.bot<z.top*s.bot∨(s.top*z.bot=z.top*s.bot∧z.nm<s.nm)):BestS ss (n+1) z:=by
 refine ⟨Af hz,fun j y hj hy=>?_⟩
 by_cases e:j=n
 ·subst e
  rw [hz] at hy
  cases hy
  exact ⟨Int.le_refl _,fun _=>Nat.le_refl _⟩
 ·have l:=h.2 j y (by omega) hy
  have pz:=p z (Af hz);have ps:=p s h.1;have py:=p y (Af hy);have c:=cross_trans (a:=y.top) (b:=y.bot) (c:=s.top) (d:=s.bot) (e:=z.top) (f:=z.bot) py ps pz l.1 (by omega);refine ⟨c.1,fun w=>?_⟩;have w2:=c.2 w;have:=l.2 w2.1;omega
def spBest (K:Bc):Sp:=fun vs H Q _=>∃ (l:Addr) (vs':List V) (ss:List Stp),vs=[.ref l]∧SqL K H l vs'∧Paired (StpAt K H) vs' ss∧ss≠[]∧(∀ s∈ss,0<s.bot∧Sm 14000 s.top∧Sm 6700 s.bot)∧∀ p s,SqT K H p [s.va,s.vc,.int s.top,.int s.bot,.int (s.nm:Int)]→BestS ss ss.length s→Q (.ref p) H
abbrev Wz (P w K mg base) (a:Adr) (cdv A outer s H E):=(cxOf CX0 P w K mg base ["steps", "best", "step", "ahead"] "best_step" (qQ xY) a.fzt cdv A outer s H E).nox
theorem okzt (T:Txt K mg a):FnOk P w K mg base CX0 1 a.fzt a.dzt ["steps"] (spBest K):=by
 refine T.Fzt.ok Zz (fun vs H Q E h=>?_) (fun cdv A outer s H vs Q E hr h=>?_)
 ·obtain ⟨_,_,_,rfl,_⟩:=h
  rfl
 obtain ⟨l,vs,ss,rfl,hl,pr,ne,sz,q⟩:=h;have h0:PS (Wz P w K mg base a cdv A outer s H E) (bS xY 0) _:=(zq (i:=1) Zz.nd rfl (Or.inl rfl) (pe_ix zK (pv 0) qz (fun _ _=>rfl)));have h1:PS (Wz P w K mg base a cdv A outer s H E) (bS xY 1) _:=(Q4 PassesOwn.never rfl (yW (pv 0)) (qW (i:=2) Zz.nd rfl (Or.inl rfl))
    (qJ (zq (i:=3) Zz.nd rfl (Or.inl rfl) (pe_op Yk (pe_op y9 (pe_ix qY (pv 2) qz (fun _ _=>rfl)) (pe_ix qY (pv 1) qz (fun _ _=>rfl))) (pe_op y9 (pe_ix qY (pv 1) qz (fun _ _=>rfl)) (pe_ix qY (pv 2) qz (fun _ _=>rfl)))))
   (qX (ps_if (PW.pt (pw_or (zj op_gt (pv 3) qz (zv _)) (QV (PW.pt (W3 (zj op_eq (pv 3) qz (zv _)) (pw_and1 (zj op_lt (pe_ix qY (pv 2) qz (fun _ _=>rfl)) (pe_ix qY (pv 1) qz (fun _ _=>rfl)) (zv _))))))))
    (qX (zq (i:=1) Zz.nd rfl (Or.inl rfl) (pv 2)))
    y4))))
 have h2:PS (Wz P w K mg base a cdv A outer s H E) (bS xY 2) _:=(zQ (pv 1));refine body3 (by rfl) h0 h1 h2 ?_
 intros
 clear h0 h1 h2;have lv:=Paired.length pr;have l1:=List.length_pos_iff.mpr ne;obtain ⟨v0,hv0⟩:=yz (l:=vs) (i:=0) (by omega);obtain ⟨s0,hs0,p0,rfl,t0⟩:=y7 pr hv0;refine ⟨_,rfl,l,_,_,_,rfl,rfl,hl,atN (n:=0) hv0,_,rfl,l,rfl,⟨_,hl⟩,Z0 (n:=ss.length) (fun i σ H'=>H'=H∧∃ (p:Addr) (s:Stp) (u2 u3:Option V),σ=[some (.ref l),some (.ref p),u2,u3]∧SqT K H p [s.va,s.vc,.int s.top,.int s.bot,.int (s.nm:Int)]∧BestS ss i s)
  ⟨rfl,p0,s0,_,_,rfl,t0,Af hs0,fun j z hj=>absurd hj (Az _)⟩ ?_ ?_ ?_⟩
 ·rintro σ H' ⟨rfl,p,s,u2,u3,rfl,ht,hb⟩
  exact ⟨⟨_,hl,by omega⟩,_,rfl,q p s ht hb⟩
 ·rintro i σ H' hi ⟨rfl,_⟩
  exact ⟨_,_,hl,A7 (by omega)⟩
 ·rintro i σ H' x H2 hi ⟨rfl,p,s,u2,u3,rfl,ht,hb⟩ ⟨rfl,y1⟩
  obtain ⟨z,hz,pz,rfl,tz⟩:=y7 pr (y1 _ hl);obtain ⟨z0,z1,z2⟩:=sz z (Af hz);obtain ⟨s0',s1,s2⟩:=sz s hb.1;refine ⟨_,rfl,pz,_,_,_,rfl,rfl,tz,rfl,_,rfl,p,_,_,_,rfl,rfl,ht,rfl,_,_,rfl,rfl,mulOk z1 s2,_,rfl,p,_,_,_,rfl,rfl,ht,rfl,_,rfl,pz,_,_,_,rfl,rfl,tz,rfl,_,_,rfl,rfl,mulOk s1 z2,_,_,rfl,rfl,_,rfl,_,_,rfl,rfl,_,rfl,?_⟩
  by_cases c1:0<z.top*s.bot - s.top*z.bot
  ·refine iteP c1 (iteT ?_)
   exact ⟨_,rfl,rfl,pz,z,_,_,rfl,tz,best_new (fun y hy=>(sz y hy).1) hb hz (.inl (by omega))⟩
  ·refine iteN c1 ⟨_,rfl,rfl,_,rfl,?_⟩
   by_cases c2:z.top*s.bot - s.top*z.bot=0
   ·refine iteP (by show V.int (z.top*s.bot - s.top*z.bot)=V.int 0; rw [c2]) ⟨_,rfl,pz,_,_,_,rfl,rfl,tz,rfl,_,rfl,p,_,_,_,rfl,rfl,ht,rfl,_,_,rfl,rfl,_,rfl,?_⟩
    by_cases c3:(z.nm:Int)<s.nm
    ·refine iteP c3 ?_
     exact ⟨_,rfl,rfl,pz,z,_,_,rfl,tz,best_new (fun y hy=>(sz y hy).1) hb hz (.inr ⟨by omega,by omega⟩)⟩
    ·refine iteN c3 ?_
     exact ⟨rfl,p,s,_,_,rfl,ht,best_keep hb hz ⟨by omega,fun _=>by omega⟩⟩
   ·refine iteN (fun w=>c2 (V.int.inj w)) (iteF ?_)
    exact ⟨rfl,p,s,_,_,rfl,ht,best_keep hb hz ⟨by omega,fun _=>by omega⟩⟩
def xJ (l:List Int) (n:Nat):List Int:=(l.take n).map fun z => -z
theorem fallsL_len {l:List Int} {n:Nat} (h:n≤l.length):(xJ l n).length=n:=by unfold xJ; rw [Av,Au]; omega
theorem fallsL_at {l:List Int} {n j:Nat} {z:Int} (hj:j<n) (h:l[j]?=some z):(xJ l n)[j]?=some (-z):=by
 unfold xJ;rw [List.getElem?_map,A5 hj,h];rfl
theorem fallsL_getD {l:List Int} {n j:Nat} (hj:j<n) (hn:n≤l.length):(xJ l n).getD j 0 = -(l.getD j 0):=by
 obtain ⟨z,hz⟩:=yz (l:=l) (i:=j) (by omega);rw [qZ (fallsL_at hj hz),qZ hz]
structure MSt (t:Tab) (s:Stp) (i x col:Nat) (li:List Int):Prop where
 hi:t.names[i]?=some x
 xr:x<t.rooms
 hl:t.lines[i]?=some li
 neg:li.getD t.heads.length 0<0
 va:s.va=.int (i:Int)
 vc:s.vc=.int (col:Int)
 top:s.top = -(li.getD t.heads.length 0)*t.guide.getD col 0
 bot:s.bot=(xJ li t.heads.length).getD col 0
 nm:s.nm=x
 least:LeastQ t.guide (xJ li t.heads.length) t.heads t.heads.length col
def Wj (t:Tab) (ss:List Stp):Prop :=
 (∃ (i x:Nat) (li:List Int),t.names[i]?=some x∧x<t.rooms∧t.lines[i]?=some li∧li.getD t.heads.length 0<0∧NoneQ (xJ li t.heads.length) t.heads.length∧ss=[⟨.int (i:Int),.non,0,1,x⟩]) ∨
 ((∀ s∈ss,∃ i x col li,MSt t s i x col li)∧∀ (i x:Nat) (li:List Int),t.names[i]?=some x→x<t.rooms→t.lines[i]?=some li→li.getD t.heads.length 0<0→∃ s∈ss,∃ col,MSt t s i x col li)
theorem cutInit {vs:List V} (h:1≤vs.length):cutV vs none (some (-1))=vs.take (vs.length - 1):=by
 unfold cutV;rw [HT.sIx_none];have e:HT.sIx vs.length vs.length (some (-1))=vs.length - 1:=by
  show (if (-1:Int)<0 then ((-1:Int)+(vs.length:Int)).toNat else min (-1:Int).toNat vs.length)=vs.length - 1;rw [if_pos (by decide)];omega
 rw [e];rfl
def spSteps (K:Bc) (C:Addr) (Out:Tab→List Stp→Prop):Sp:=fun vs H Q _=>∃ (A:TA) (t:Tab),vs=[.ref A.p]∧TabAt C H A t∧TabSz t∧∀ l vs' ss H',H l=none→Same H H'→H' l=some (.lst vs')→Paired (StpAt K H') vs' ss→Out t ss→(∀ s∈ss,0<s.bot∧Sm 14000 s.top∧Sm 6700 s.bot)→Q (.ref l) H'
abbrev ZK (P w K mg base) (a:Adr) (cdv A outer s H E):=(cxOf CX0 P w K mg base ["tableau", "steps", "at", "line", "falls", "column"] "mending_steps" (qQ vj) a.fyp cdv A outer s H E).nox
theorem Vk (T:Txt K mg a):FnOk P w K mg base CX0 2 a.fyp a.dyp ["tableau"] (spSteps K a.czg Wj):=by
 refine T.Fyp.ok vX (fun vs H Q E h=>?_) (fun cdv A outer s H vs Q E hr h=>?_)
 ·obtain ⟨_,_,rfl,_⟩:=h
  rfl
 obtain ⟨B,t,rfl,tab,sz,q⟩:=h;have h0:PS (ZK P w K mg base a cdv A outer s H E) (bS vj 0) _:=(zq (i:=1) vX.nd rfl (Or.inl rfl) (w5 qk));have h1:PS (ZK P w K mg base a cdv A outer s H E) (bS vj 1) _:=(Q4 PassesOwn.never rfl (yW (Vj (pv 0) T.Czg T.tzp (xQ T) (hr.mono (by decide)) T.bzp .nil pass0)) (qW (i:=2) vX.nd rfl (Or.inl rfl))
    (qJ (zq (i:=3) vX.nd rfl (Or.inl rfl) (pe_ix zK (zk (pv 0) rfl) (pv 2) (fun _ _=>rfl)))
   (qX (ps_if (zj op_lt (pe_ix zK (pv 3) (pe_un wZ qz) (fun _ _=>rfl)) qz (zv _))
    (qJ (wW (i:=4) vX.nd rfl (Or.inl rfl) (N:=["number"]) (ix:=[none]) ⟨rfl,rfl,rfl,rfl,trivial,rfl,trivial⟩ rfl (yW (J5 VY (pv 3) W5 (W4 (pe_un wZ qz)))) (fun _=>(qW (i:=0) (show (["number"]:List Str).Nodup by decide +kernel) rfl (Or.inl rfl))) (fun _ σ=>jQ rfl σ) (fun _=>yy) (fun _=>(pe_un wZ (pv 0))))
   (qJ (zq (i:=5) vX.nd rfl (Or.inl rfl) (qK (JJ T) (hr.mono (by decide)) rfl T.mym T.Fym.kp T.bym .nil pass0 (pa_c (zk (pv 0) rfl) (pa_c (pv 4) (pa_c (zk (pv 0) rfl) qk)))))
   (qJ (ps_if (zj V1 (pv 5) kY (zv _))
    (qX (zQ (w5 (pa_c (j4 (pa_c (pv 2) (pa_c kY (pa_c qz (pa_c qz (pa_c (pe_ix zK (zk (pv 0) rfl) (pv 2) (fun _ _=>rfl)) qk)))))) qk))))
    y4)
   (qX (QJ (pe_bm PySem.F.plainAttrs_list PySem.F.slot_list_append PySem.F.type_list_append VQ (pv 1) (pa_c (j4 (pa_c (pv 2) (pa_c (pv 5) (pa_c (pe_op y9 (pe_un wZ (pe_ix zK (pv 3) (pe_un wZ qz) (fun _ _=>rfl))) (pe_ix zK (zk (pv 0) rfl) (pv 5) (fun _ _=>rfl))) (pa_c (pe_ix zK (pv 4) (pv 5) (fun _ _=>rfl)) (pa_c (pe_ix zK (zk (pv 0) rfl) (pv 2) (fun _ _=>rfl)) qk)))))) qk)))))))
    y4))))
 have h2:PS (ZK P w K mg base a cdv A outer s H E) (bS vj 2) _:=(zQ (pv 1));refine body3 (by rfl) h0 h1 h2 ?_
 intros
 clear h0 h1 h2;have hd:=sz.hd;have nd:=sz.nd;have nl:=sz.nl;refine ⟨(show 0≤sizeLine by decide),fun ls hls=>?_⟩;have g1:=qw hls (.lst []);have els:upd H ls (.lst []) ls=some (.lst []):=qj;have tab1:=tab.mono g1;have nls:=tab.apart hls;generalize upd H ls (.lst [])=H1 at *;refine ⟨_,rfl,B.p,B.dx,_,rfl,tab1.ins,rfl,B,t,rfl,tab1,nd,fun lr H2 hlr g2 er=>?_⟩;have tab2:=tab1.mono g2;have els2:=g2 _ _ els;have nlr:lr≠ls:=Ne.symm (qV els hlr);have rl:=roomIx_len t.names t.rooms;refine ⟨lr,rfl,⟨_,SqL.of er⟩,Z0 (n:=(j9 t.names t.rooms).length) (fun k σ H'=>Same H H'∧TabAt a.czg H' B t∧H' lr=some (.lst (natL (j9 t.names t.rooms)))∧∃ (vs:List V) (ss:List Stp) (u2 u3 u4 u5:Option V),σ=[some (.ref B.p),some (.ref ls),u2,u3,u4,u5]∧H' ls=some (.lst vs)∧Paired (StpAt K H') vs ss∧ss.length≤k∧(∀ s∈ss,∃ i x col li,MSt t s i x col li)∧(∀ s∈ss,0<s.bot∧Sm 14000 s.top∧Sm 6700 s.bot)∧∀ (j i x:Nat) (li:List Int),j<k→(j9 t.names t.rooms)[j]?=some i→t.names[i]?=some x→t.lines[i]?=some li→li.getD t.heads.length 0<0→∃ s∈ss,∃ col,MSt t s i x col li)
  ⟨g1.trans g2,tab2,er,[],[],_,_,_,_,rfl,els2,.nil,Nat.le_refl _,fun s h=>(by cases h),fun s h=>(by cases h),fun j i x li hj=>absurd hj (Az _)⟩ ?_ ?_ ?_⟩
 ·rintro σ H' ⟨g,tb,e,vs,ss,u2,u3,u4,u5,rfl,el,pr,lk,gs,zs,cov⟩
  refine ⟨⟨_,SqL.of e,by rw [Av]; exact Nat.le_refl _⟩,_,rfl,q ls vs ss H' hls g el pr (.inr ⟨gs,fun i x li hi xr hl neg=>?_⟩) zs⟩;obtain ⟨j,hj⟩:=List.mem_iff_getElem?.mp (wK.mpr ⟨x,hi,xr⟩);exact cov j i x li (A3.mp hj).1 hj hi hl neg
 ·rintro k σ H' hk ⟨g,tb,e,_⟩
  exact ⟨_,_,SqL.of e,j7 (A7 hk)⟩
 ·rintro k σ H' v H3 hk ⟨g,tb,e,vs,ss,u2,u3,u4,u5,rfl,el,pr,lk,gs,zs,cov⟩ ⟨rfl,y1⟩
  obtain ⟨i,hki,rfl⟩:=Y0 (y1 _ (SqL.of e));obtain ⟨x,hi,xr⟩:=wK.mp (Af hki);obtain ⟨vl,hal,pl⟩:=tb.lines;have lv:=Paired.length pl;have il:=(A3.mp hi).1;obtain ⟨li,hli⟩:=yz (l:=t.lines) (i:=i) (by omega);obtain ⟨v,hv⟩:=yz (l:=vl) (i:=i) (by omega);obtain ⟨l2,hl2,bl,rfl,sl,apl⟩:=y7 pl hv;rw [hli] at hl2
  cases hl2
  obtain ⟨ln,lz⟩:=sz.ll li (Af hli);obtain ⟨la,hla⟩:=yz (l:=li) (i:=t.heads.length) (by omega);have gla:li.getD t.heads.length 0=la:=qZ hla;have hlast:(intL li)[(intL li).length - 1]?=some (.int la):=by rw [Av,ln]; exact y8 hla
  refine ⟨_,rfl,B.p,_,B.dx,_,_,rfl,tb.ins,T.Czg,T.nzn,rfl,_,rfl,B.al,_,_,_,rfl,rfl,SqL.of hal,atN hv,?_⟩;refine ⟨_,rfl,_,rfl,bl,_,_,_,rfl,rfl,SqL.of sl,atLast hlast,_,_,rfl,rfl,_,rfl,?_⟩
  by_cases neg:la<0
  ·refine iteP neg ?_
   have hcut:cutV (intL li) none (some (-1))=intL (li.take t.heads.length):=by
    rw [cutInit (by rw [Av]; omega),Av,ln];exact (List.map_take ..).symm
   refine ⟨_,rfl,_,rfl,_,rfl,_,_,rfl,SqL.of sl,fun c hc=>?_⟩;rw [hcut];have g4:=qw hc (.lst (intL (li.take t.heads.length)));have ec:upd H3 c (.lst (intL (li.take t.heads.length))) c=some (.lst (intL (li.take t.heads.length))):=qj;have tb4:=tb.mono g4;have lt:(li.take t.heads.length).length=t.heads.length:=by rw [Au]; omega
   generalize upd H3 c (.lst (intL (li.take t.heads.length)))=H4 at *;refine ⟨c,rfl,⟨_,SqL.of ec⟩,j3 (n:=t.heads.length) (fun k ys H'=>H'=H4∧ys=intL ((xJ li t.heads.length).take k)) ⟨rfl,rfl⟩ (zw (by omega)) ?_ ?_ ?_⟩
   case refine_2 =>
    rintro j ys H5 hj ⟨rfl,_⟩;exact ⟨_,_,SqL.of ec,y8 (A7 (by omega))⟩
   case refine_3 =>
    rintro j m' ys H5 c1 v H6 hj ⟨rfl,rfl⟩ ⟨rfl,y2⟩ nx _;obtain ⟨n,hn,rfl⟩:=wv (y2 _ (SqL.of ec));rw [A5 hj] at hn;refine Or.inl ⟨rfl,_,rfl,_,rfl,nx _ _ ⟨rfl,?_⟩⟩;rw [J1 (fallsL_at hj hn)]
   rintro ys H5 ⟨rfl,rfl⟩;have fl:=fallsL_len (l:=li) (n:=t.heads.length) (by omega);rw [A8 (by omega)];refine ⟨⟨_,SqL.of ec,by rw [Av]; omega⟩,fun lf hlf=>?_⟩;have g5:=qw hlf (.lst (intL (xJ li t.heads.length)));have ef:upd H5 lf (.lst (intL (xJ li t.heads.length))) lf=some (.lst (intL (xJ li t.heads.length))):=qj;have tb5:=tb4.mono g5;have g45:=g4.trans g5;have zf:∀ n∈xJ li t.heads.length,Sm 6700 n:=fun n hn=>by
    unfold xJ at hn;obtain ⟨z,hz,e⟩:=List.mem_map.mp hn;rw [← e];exact (lz z (List.mem_of_mem_take hz)).neg
   clear tb4 g4 g5;generalize upd H5 lf (.lst (intL (xJ li t.heads.length)))=H6 at *;obtain ⟨ub,eub,us,ua⟩:=tb5.guide
   cases eub
   refine ⟨_,rfl,B.p,_,B.dx,_,_,rfl,tb5.ins,T.Czg,T.nzk,rfl,_,rfl,_,rfl,B.p,_,B.dx,_,_,rfl,tb5.ins,T.Czg,T.nzl,rfl,B.au,lf,B.ah,t.guide,_,t.heads,rfl,SqL.of us,SqL.of ef,SqL.of tb5.heads,by have:=sz.lu.1; omega,by omega,sz.lu.2,zf,fun vcol H7 g7 best=>?_⟩;rw [fl] at best;have tb7:=tb5.mono g7;have g07:=g.trans (g45.trans g7)
   rcases best with ⟨rfl,no⟩ | ⟨col,rfl,le⟩
   ·refine ⟨_,rfl,rfl,_,rfl,iteP rfl ?_⟩
    refine ⟨_,rfl,_,rfl,B.p,_,B.dx,_,_,rfl,tb7.ins,T.Czg,T.nzo,rfl,_,rfl,B.an,_,_,_,rfl,rfl,SqL.of tb7.names,atN (j7 hi),(show 5≤sizeLine by decide),fun p hp=>⟨(show 1≤sizeLine by decide),fun l hl=>?_⟩⟩;have g8:=qw hp (.tup [.int (i:Int),.non,.int 0,.int 1,.int (x:Int)]);have g9:=qw hl (.lst [.ref p]);have g79:=g8.trans g9;refine q l _ _ _ (zW (g07.trans g8) hl) (g07.trans g79) qj (.cons ⟨p,rfl,SqT.of (g9 _ _ qj)⟩ .nil) (.inl ⟨i,x,li,hi,xr,hli,by rw [gla]; exact neg,no,rfl⟩) fun s hs=>?_
    rw [Al.mp hs];exact ⟨Int.zero_lt_one,(show Sm 14000 0 by unfold Sm; decide),(show Sm 6700 1 by unfold Sm; decide)⟩
   ·refine ⟨_,rfl,rfl,_,rfl,iteN (by intro z; cases z) ?_⟩
    have lc:=le.lt;obtain ⟨gc,hgc⟩:=yz (l:=t.guide) (i:=col) (by have:=sz.lu.1; omega);obtain ⟨lcv,hlc⟩:=yz (l:=li) (i:=col) (by omega);have hfc:=fallsL_at (n:=t.heads.length) lc hlc;obtain ⟨ub2,eub2,us2,ua2⟩:=tb7.guide
    cases eub2
    have e7:=(g45.trans g7) _ _ e;have el7:=(g45.trans g7) _ _ el;have sl7:=(g45.trans g7) _ _ sl;have pr7:=Paired.mapP pr fun _ _ z=>StpAt.mono z (g45.trans g7)
    have ef7:=g7 _ _ ef;have zla:=lz la (Af hla);have zgc:=sz.lu.2 gc (Af hgc);refine ⟨_,rfl,.inl ⟨rfl,_,SqL.of el7⟩,_,rfl,_,rfl,_,rfl,_,rfl,bl,_,_,_,rfl,rfl,SqL.of sl7,atLast hlast,_,rfl,_,rfl,B.p,_,B.dx,_,_,rfl,tb7.ins,T.Czg,T.nzk,rfl,_,rfl,B.au,_,_,_,rfl,rfl,SqL.of us2,atN (y8 hgc),_,_,rfl,rfl,mulOk zla.neg zgc,_,rfl,_,rfl,lf,_,_,_,rfl,rfl,SqL.of ef7,atN (y8 hfc),_,rfl,B.p,_,B.dx,_,_,rfl,tb7.ins,T.Czg,T.nzo,rfl,_,rfl,B.an,_,_,_,rfl,rfl,SqL.of tb7.names,atN (j7 hi),(show 5≤sizeLine by decide),fun p hp=>?_⟩;have g8:=qw hp (.tup [.int (i:Int),.int (col:Int),.int (-la*gc),.int (-lcv),.int (x:Int)]);have el8:=g8 _ _ el7;have lss:=Paired.length pr;refine ⟨ls,_,_,rfl,rfl,el8,zw (by omega),?_⟩;have nlsl:lr≠ls:=nlr;have tb8:=tb7.mono g8;have st:MSt t ⟨.int (i:Int),.int (col:Int),-la*gc,-lcv,x⟩ i x col li:=⟨hi,xr,hli,by rw [gla]; exact neg,rfl,rfl,by rw [gla,qZ hgc],by rw [qZ hfc],rfl,le⟩;have spos:0 < -lcv:=by have:=le.pos; rw [qZ hfc] at this; exact this
    have upS:∀ {v:V} {s:Stp},StpAt K H7 v s→StpAt K (upd (upd H7 p (.tup [.int (i:Int),.int (col:Int),.int (-la*gc),.int (-lcv),.int (x:Int)])) ls (.lst (vs++[.ref p]))) v s:=fun ⟨d,e1,e2⟩=>⟨d,e1,SqT.upd_lst (g8.tup e2) el8⟩
    refine ⟨(g07.trans g8).laid hls _,?_,?_,vs++[.ref p],ss++[⟨.int (i:Int),.int (col:Int),-la*gc,-lcv,x⟩],_,_,_,_,rfl,qj,Paired.snoc (Paired.mapP pr7 fun _ _ z=>upS z) ⟨p,rfl,SqT.upd_lst (SqT.of qj) el8⟩,by rw [Ak,Ab]; omega,fun s hs=>?_,fun s hs=>?_,fun j i' x' li' hj hji hi' hl' neg'=>?_⟩
    ·exact tab.mono ((g07.trans g8).laid hls _)
    ·rw [zZ nlsl]; exact g8 _ _ e7
    ·rcases Aw.mp hs with h | h
     ·exact gs s h
     ·rw [Al.mp h]; exact ⟨i,x,col,li,st⟩
    ·rcases Aw.mp hs with h | h
     ·exact zs s h
     ·rw [Al.mp h]
      exact ⟨spos,(zla.neg.mul zgc).mono (by decide),(lz lcv (Af hlc)).neg⟩
    ·by_cases ej:j=k
     ·subst ej
      rw [hki] at hji
      cases hji
      rw [hli] at hl'
      cases hl'
      rw [hi] at hi'
      cases hi'
      exact ⟨_,Ac _ Am,col,st⟩
     ·obtain ⟨s,hs,r⟩:=cov j i' x' li' (by omega) hji hi' hl' neg'
      exact ⟨s,Ah _ hs,r⟩
  ·refine iteN neg ?_
   refine ⟨g,tb,e,vs,ss,_,_,_,_,rfl,el,pr,by omega,gs,zs,fun j i' x' li' hj hji hi' hl' neg'=>?_⟩
   by_cases ej:j=k
   ·subst ej
    rw [hki] at hji
    cases hji
    rw [hli] at hl'
    cases hl'
    omega
   ·exact cov j i' x' li' (by omega) hji hi' hl' neg'
def xZ (t:Tab):List Int:=(j9 t.names t.rooms).map fun i=>(t.lines.getD i []).getD t.heads.length 0
def wJ (t:Tab) (c:Nat):List Int:=(j9 t.names t.rooms).map fun i=>(t.lines.getD i []).getD c 0
def Zk (t:Tab):List Nat:=(j9 t.names t.rooms).map fun i=>t.names.getD i 0
def Rises (t:Tab) (c h:Nat):Prop:=t.goal.getD c 0<0∨(t.goal.getD c 0≠0∧t.rooms≤h)
structure CSt (t:Tab) (s:Stp) (c h k i:Nat):Prop where
 hh:t.heads[c]?=some h
 ri:Rises t c h
 hi:(j9 t.names t.rooms)[k]?=some i
 va:s.va=.int (i:Int)
 vc:s.vc=.int (c:Int)
 top:s.top = -(t.goal.getD c 0)*(xZ t).getD k 0
 bot:s.bot=(wJ t c).getD k 0
 nm:s.nm=h
 least:LeastQ (xZ t) (wJ t c) (Zk t) (j9 t.names t.rooms).length k
def Jx (t:Tab) (ss:List Stp):Prop :=
 (∃ c h:Nat,t.heads[c]?=some h∧Rises t c h∧NoneQ (wJ t c) (j9 t.names t.rooms).length∧ss=[⟨.non,.int (c:Int),0,1,h⟩]) ∨
 ((∀ s∈ss,∃ c h k i,CSt t s c h k i)∧∀ c h:Nat,t.heads[c]?=some h→Rises t c h→∃ s∈ss,∃ k i,CSt t s c h k i)
theorem Vz {H:Hp} {C:Addr} {B:TA} {t:Tab} (tb:TabAt C H B t) (sz:TabSz t) {vl:List V} (hal:H B.al=some (.lst vl)) {i:Nat} (hm:i∈j9 t.names t.rooms):∃ x li bl,t.names[i]?=some x∧x<t.rooms∧t.lines[i]?=some li∧t.lines.getD i []=li∧vl[i]?=some (.ref bl)∧H bl=some (.lst (intL li))∧li.length=t.heads.length+1∧∀ n∈li,Sm 6700 n:=by
 obtain ⟨x,hi,xr⟩:=wK.mp hm;obtain ⟨vl',hal',pl⟩:=tb.lines;rw [hal] at hal'
 cases hal'
 have lv:=Paired.length pl;have il:=(A3.mp hi).1;have nl:=sz.nl;obtain ⟨li,hli⟩:=yz (l:=t.lines) (i:=i) (by omega);obtain ⟨v,hv⟩:=yz (l:=vl) (i:=i) (by omega);obtain ⟨l2,hl2,bl,rfl,sl,apl⟩:=y7 pl hv;rw [hli] at hl2
 cases hl2
 obtain ⟨ln,lz⟩:=sz.ll li (Af hli);exact ⟨x,li,bl,hi,xr,hli,qZ hli,hv,sl,ln,lz⟩
abbrev vz (P w K mg base) (a:Adr) (cdv A outer s H E):=(cxOf CX0 P w K mg base ["tableau", "steps", "ats", "lasts", "names", "column", "head", "number", "takes", "k"] "climbing_steps" (qQ yY) a.fzv cdv A outer s H E).nox
theorem JX (T:Txt K mg a):FnOk P w K mg base CX0 2 a.fzv a.dzv ["tableau"] (spSteps K a.czg Jx):=by
 refine T.Fzv.ok yZ (fun vs H Q E h=>?_) (fun cdv A outer s H vs Q E hr h=>?_)
 ·obtain ⟨_,_,rfl,_⟩:=h
  rfl
 obtain ⟨B,t,rfl,tab,sz,q⟩:=h;have h0:PS (vz P w K mg base a cdv A outer s H E) (bS yY 0) _:=(zq (i:=1) yZ.nd rfl (Or.inl rfl) (w5 qk));have h1:PS (vz P w K mg base a cdv A outer s H E) (bS yY 1) _:=(zq (i:=2) yZ.nd rfl (Or.inl rfl) (Vj (pv 0) T.Czg T.tzp (xQ T) (hr.mono (by decide)) T.bzp .nil pass0));have h2:PS (vz P w K mg base a cdv A outer s H E) (bS yY 2) _:=(wW (i:=3) yZ.nd rfl (Or.inl rfl) (N:=["at", "tableau"]) (ix:=[none,some 0]) ⟨rfl,rfl,rfl,rfl,⟨rfl,trivial⟩,rfl,⟨⟨rfl,Or.inr (Or.inl rfl),jj rfl,rfl,Or.inl rfl⟩,trivial⟩⟩ rfl (yW (pv 2)) (fun _=>(qW (i:=0) (show (["at", "tableau"]:List Str).Nodup by decide +kernel) rfl (Or.inl rfl))) (fun _ σ=>jQ rfl σ) (fun _=>yy) (fun _=>(pe_ix zK (pe_ix zK (zk (pv 1) rfl) (pv 0) (fun _ _=>rfl)) (pe_un wZ qz) (fun _ _=>rfl))));have h3:PS (vz P w K mg base a cdv A outer s H E) (bS yY 3) _:=(wW (i:=4) yZ.nd rfl (Or.inl rfl) (N:=["at", "tableau"]) (ix:=[none,some 0]) ⟨rfl,rfl,rfl,rfl,⟨rfl,trivial⟩,rfl,⟨⟨rfl,Or.inr (Or.inl rfl),jj rfl,rfl,Or.inl rfl⟩,trivial⟩⟩ rfl (yW (pv 2)) (fun _=>(qW (i:=0) (show (["at", "tableau"]:List Str).Nodup by decide +kernel) rfl (Or.inl rfl))) (fun _ σ=>jQ rfl σ) (fun _=>yy) (fun _=>(pe_ix zK (zk (pv 1) rfl) (pv 0) (fun _ _=>rfl))));have h4:PS (vz P w K mg base a cdv A outer s H E) (bS yY 4) _:=(Q4 PassesOwn.never rfl (pi_enum rfl T.m_enumerate (pa_c (zk (pv 0) rfl) qk)) (vZ rfl (zy (qW (i:=5) yZ.nd rfl (Or.inr rfl)) (zy (qW (i:=6) yZ.nd rfl (Or.inl rfl)) jy)))
    (qJ (zq (i:=7) yZ.nd rfl (Or.inl rfl) (pe_ix zK (zk (pv 0) rfl) (pv 5) (fun _ _=>rfl)))
   (qX (ps_if (PW.pt (pw_or (zj op_lt (pv 7) qz (zv _)) (QV (PW.pt (W3 (zj op_ne (pv 7) qz (zv _)) (pw_and1 (zj op_ge (pv 6) (zk (pv 0) rfl) (zv _))))))))
    (qJ (wW (i:=8) yZ.nd rfl (Or.inl rfl) (N:=["at", "column", "tableau"]) (ix:=[none,some 5,some 0]) ⟨rfl,rfl,rfl,rfl,⟨rfl,⟨rfl,trivial⟩⟩,rfl,⟨⟨rfl,Or.inr (Or.inl rfl),jj rfl,rfl,Or.inl rfl⟩,⟨⟨rfl,Or.inr (Or.inl rfl),jj rfl,rfl,Or.inl rfl⟩,trivial⟩⟩⟩ rfl (yW (pv 2)) (fun _=>(qW (i:=0) (show (["at", "column", "tableau"]:List Str).Nodup by decide +kernel) rfl (Or.inl rfl))) (fun _ σ=>jQ rfl σ) (fun _=>yy) (fun _=>(pe_ix zK (pe_ix zK (zk (pv 2) rfl) (pv 0) (fun _ _=>rfl)) (pv 1) (fun _ _=>rfl))))
   (qJ (zq (i:=9) yZ.nd rfl (Or.inl rfl) (qK (JJ T) (hr.mono (by decide)) rfl T.mym T.Fym.kp T.bym .nil pass0 (pa_c (pv 3) (pa_c (pv 8) (pa_c (pv 4) qk)))))
   (qJ (ps_if (zj V1 (pv 9) kY (zv _))
    (qX (zQ (w5 (pa_c (j4 (pa_c kY (pa_c (pv 5) (pa_c qz (pa_c qz (pa_c (pv 6) qk)))))) qk))))
    y4)
   (qX (QJ (pe_bm PySem.F.plainAttrs_list PySem.F.slot_list_append PySem.F.type_list_append VQ (pv 1) (pa_c (j4 (pa_c (pe_ix zK (pv 2) (pv 9) (fun _ _=>rfl)) (pa_c (pv 5) (pa_c (pe_op y9 (pe_un wZ (pv 7)) (pe_ix zK (pv 3) (pv 9) (fun _ _=>rfl))) (pa_c (pe_ix zK (pv 8) (pv 9) (fun _ _=>rfl)) (pa_c (pv 6) qk)))))) qk)))))))
    y4))))
 have h5:PS (vz P w K mg base a cdv A outer s H E) (bS yY 5) _:=(zQ (pv 1));refine body6 (by rfl) h0 h1 h2 h3 h4 h5 ?_
 intros
 clear h0 h1 h2 h3 h4 h5;have hd:=sz.hd;have nd:=sz.nd;have nl:=sz.nl;have rl:=roomIx_len t.names t.rooms;refine ⟨(show 0≤sizeLine by decide),fun ls hls=>?_⟩;have g1:=qw hls (.lst []);have els:upd H ls (.lst []) ls=some (.lst []):=qj;have tab1:=tab.mono g1;generalize upd H ls (.lst [])=H1 at *;refine ⟨_,rfl,B.p,B.dx,_,rfl,tab1.ins,rfl,B,t,rfl,tab1,nd,fun la H2 hla g2 ea=>?_⟩;have tab2:=tab1.mono g2;have els2:=g2 _ _ els;have nla:la≠ls:=Ne.symm (qV els hla);have g02:=g1.trans g2;obtain ⟨vl,hal,_⟩:=tab2.lines;refine ⟨_,rfl,la,rfl,⟨_,SqL.of ea⟩,j3 (n:=(j9 t.names t.rooms).length) (fun k ys H'=>H'=H2∧ys=intL ((xZ t).take k)) ⟨rfl,rfl⟩ (zw (by omega)) ?_ ?_ ?_⟩
 case refine_2 =>
  rintro k ys H' hk ⟨rfl,_⟩;exact ⟨_,_,SqL.of ea,j7 (A7 hk)⟩
 case refine_3 =>
  rintro k m' ys H' c1 v H3 hk ⟨rfl,rfl⟩ ⟨rfl,y1⟩ nx _;obtain ⟨i,hi,rfl⟩:=Y0 (y1 _ (SqL.of ea));obtain ⟨x,li,bl,h1,h2,h3,h4,h5,h6,h7,h8⟩:=Vz tab2 sz hal (Af hi);obtain ⟨z,hz⟩:=yz (l:=li) (i:=t.heads.length) (by omega);refine Or.inl ⟨rfl,_,rfl,B.p,_,B.dx,_,_,rfl,tab2.ins,T.Czg,T.nzn,rfl,_,rfl,B.al,_,_,_,rfl,rfl,SqL.of hal,atN h5,_,rfl,bl,_,_,_,rfl,rfl,SqL.of h6,atLast (by rw [Av,h7]; exact y8 hz),nx _ _ ⟨rfl,?_⟩⟩;rw [J1 (x:=z)];unfold xZ;rw [List.getElem?_map,hi];show some ((t.lines.getD i []).getD t.heads.length 0)=_;rw [h4,qZ hz]
 rintro ys H' ⟨rfl,rfl⟩;have lla:(xZ t).length=(j9 t.names t.rooms).length:=by unfold xZ; rw [Av]
 rw [A8 (by omega)];refine ⟨⟨_,SqL.of ea,by rw [Av]; exact Nat.le_refl _⟩,fun ll hll=>?_⟩;have g3:=qw hll (.lst (intL (xZ t)));have el:upd H' ll (.lst (intL (xZ t))) ll=some (.lst (intL (xZ t))):=qj;have tab3:=tab2.mono g3;have ea3:=g3 _ _ ea;have els3:=g3 _ _ els2;have nll:ll≠ls:=Ne.symm (qV els2 hll);have g03:=g02.trans g3;clear tab1 tab2 els els2 g1 g2 g3 g02 ea hal;generalize upd H' ll (.lst (intL (xZ t)))=H3 at *;refine ⟨_,rfl,la,rfl,⟨_,SqL.of ea3⟩,j3 (n:=(j9 t.names t.rooms).length) (fun k ys H'=>H'=H3∧ys=natL ((Zk t).take k)) ⟨rfl,rfl⟩ (zw (by omega)) ?_ ?_ ?_⟩
 case refine_2 =>
  rintro k ys H' hk ⟨rfl,_⟩;exact ⟨_,_,SqL.of ea3,j7 (A7 hk)⟩
 case refine_3 =>
  rintro k m' ys H' c1 v H4 hk ⟨rfl,rfl⟩ ⟨rfl,y1⟩ nx _;obtain ⟨i,hi,rfl⟩:=Y0 (y1 _ (SqL.of ea3));obtain ⟨x,hx,xr⟩:=wK.mp (Af hi);refine Or.inl ⟨rfl,_,rfl,B.p,_,B.dx,_,_,rfl,tab3.ins,T.Czg,T.nzo,rfl,_,rfl,B.an,_,_,_,rfl,rfl,SqL.of tab3.names,atN (j7 hx),nx _ _ ⟨rfl,?_⟩⟩;unfold natL;rw [yv (xs:=Zk t) (x:=x),Ax]
  ·rfl
  ·unfold Zk
   rw [List.getElem?_map,hi];show some (t.names.getD i 0)=_;rw [qZ hx]
 rintro ys H' ⟨rfl,rfl⟩;have lln:(Zk t).length=(j9 t.names t.rooms).length:=by unfold Zk; rw [Av]
 rw [A8 (by omega)];refine ⟨⟨_,SqL.of ea3,by rw [Av]; exact Nat.le_refl _⟩,fun ln hln=>?_⟩;have g4:=qw hln (.lst (natL (Zk t)));have en:upd H' ln (.lst (natL (Zk t))) ln=some (.lst (natL (Zk t))):=qj;have tab4:=tab3.mono g4;have ea4:=g4 _ _ ea3;have els4:=g4 _ _ els3;have el4:=g4 _ _ el;have nln:ln≠ls:=Ne.symm (qV els3 hln);have g04:=g03.trans g4;clear tab3 ea3 els3 el g03 g4;generalize upd H' ln (.lst (natL (Zk t)))=H4 at *;have zl:∀ n∈xZ t,Sm 6700 n:=fun n hn=>by
  unfold xZ at hn;obtain ⟨i,hi,e⟩:=List.mem_map.mp hn;obtain ⟨x,li,bl,h1,h2,h3,h4,h5,h6,h7,h8⟩:=Vz tab4 sz (Classical.choose_spec tab4.lines).1 hi;rw [← e,h4];obtain ⟨z,hz⟩:=yz (l:=li) (i:=t.heads.length) (by omega);rw [qZ hz];exact h8 z (Af hz)
 have zt:∀ c,c<t.heads.length→∀ n∈wJ t c,Sm 6700 n:=fun c hc n hn=>by
  unfold wJ at hn;obtain ⟨i,hi,e⟩:=List.mem_map.mp hn;obtain ⟨x,li,bl,h1,h2,h3,h4,h5,h6,h7,h8⟩:=Vz tab4 sz (Classical.choose_spec tab4.lines).1 hi;rw [← e,h4];obtain ⟨z,hz⟩:=yz (l:=li) (i:=c) (by omega);rw [qZ hz];exact h8 z (Af hz)
 refine ⟨_,rfl,B.p,_,B.dx,_,_,rfl,tab4.ins,T.Czg,T.nzl,rfl,B.ah,rfl,⟨_,SqL.of tab4.heads⟩,Z0 (n:=t.heads.length) (fun k σ H'=>Same H H'∧H' la=some (.lst (natL (j9 t.names t.rooms)))∧H' ll=some (.lst (intL (xZ t)))∧H' ln=some (.lst (natL (Zk t)))∧∃ (vs:List V) (ss:List Stp) (u5 u6 u7 u8 u9:Option V),σ=[some (.ref B.p),some (.ref ls),some (.ref la),some (.ref ll),some (.ref ln),u5,u6,u7,u8,u9]∧H' ls=some (.lst vs)∧Paired (StpAt K H') vs ss∧ss.length≤k∧(∀ s∈ss,∃ c h k i,CSt t s c h k i)∧(∀ s∈ss,0<s.bot∧Sm 14000 s.top∧Sm 6700 s.bot)∧∀ c h:Nat,c<k→t.heads[c]?=some h→Rises t c h→∃ s∈ss,∃ k i,CSt t s c h k i)
  ⟨g04,ea4,el4,en,[],[],_,_,_,_,_,rfl,els4,.nil,Nat.le_refl _,fun s h=>(by cases h),fun s h=>(by cases h),fun c h hc=>absurd hc (Az _)⟩ ?_ ?_ ?_⟩
 ·rintro σ H' ⟨g,e1,e2,e3,vs,ss,u5,u6,u7,u8,u9,rfl,el,pr,lk,gs,zs,cov⟩
  exact ⟨⟨_,SqL.of (g _ _ tab.heads),by rw [Av]; exact Nat.le_refl _⟩,_,rfl,q ls vs ss H' hls g el pr (.inr ⟨gs,fun c h hh ri=>cov c h (A3.mp hh).1 hh ri⟩) zs⟩
 ·rintro k σ H' hk ⟨g,_⟩
  exact ⟨_,_,SqL.of (g _ _ tab.heads),j7 (A7 hk)⟩
 ·rintro c σ H' v H5 hc ⟨g,e1,e2,e3,vs,ss,u5,u6,u7,u8,u9,rfl,el,pr,lk,gs,zs,cov⟩ ⟨p,x2,hp,rfl,rfl,y1⟩
  obtain ⟨h,hh,rfl⟩:=Y0 (y1 _ (SqL.of (g _ _ tab.heads)));have g5:=qw hp (.tup [.int (c:Int),.int (h:Int)]);have e1:=g5 _ _ e1;have e2:=g5 _ _ e2;have e3:=g5 _ _ e3;have el:=g5 _ _ el;have pr:=Paired.mapP pr fun _ _ z=>StpAt.mono z g5
  have gg:=g.trans g5;have tb:=tab.mono gg;obtain ⟨gi,hgi⟩:=yz (l:=t.goal) (i:=c) (by have:=sz.lg.1; omega);have ggi:t.goal.getD c 0=gi:=qZ hgi;obtain ⟨gb,egb,gs1,gap⟩:=tb.goal
  cases egb
  refine ⟨p,_,rfl,SqT.of qj,rfl,_,_,rfl,_,_,rfl,rfl,?_⟩;clear g g5;generalize upd H' p (.tup [.int (c:Int),.int (h:Int)])=H6 at *;refine ⟨_,rfl,B.p,_,B.dx,_,_,rfl,tb.ins,T.Czg,T.nzj,rfl,_,rfl,B.ag,_,_,_,rfl,rfl,SqL.of gs1,atN (y8 hgi),_,rfl,_,_,rfl,rfl,_,rfl,?_⟩;have covS:¬ Rises t c h→∀ c' h':Nat,c'<c+1→t.heads[c']?=some h'→Rises t c' h'→∃ s∈ss,∃ k i,CSt t s c' h' k i:=fun nr c' h' hc' hh' ri=>by
   by_cases e:c'=c
   ·subst e
    rw [hh] at hh'
    cases hh'
    exact absurd ri nr
   ·exact cov c' h' (by omega) hh' ri
  by_cases c1:gi<0
  case' pos =>
   refine iteP c1 (iteT ?_);have ri:Rises t c h:=.inl (by rw [ggi]; exact c1)
  case' neg =>
   refine iteN c1 ⟨_,rfl,rfl,_,rfl,?_⟩
   by_cases c2:gi=0
   case pos =>
    refine iteNS (by rw [c2]) (iteF ?_);exact ⟨gg,e1,e2,e3,vs,ss,_,_,_,_,_,rfl,el,pr,by omega,gs,zs,covS fun z=>z.elim (fun y=>by rw [ggi] at y; omega) fun y=>y.1 (by rw [ggi]; exact c2)⟩
   case' neg =>
    refine iteNP (fun z=>c2 (V.int.inj z)) ⟨_,rfl,_,rfl,B.p,_,B.dx,_,_,rfl,tb.ins,T.Czg,T.nzq,rfl,_,_,rfl,rfl,_,rfl,?_⟩
    by_cases c3:(t.rooms:Int)≤h
    case neg =>
     refine iteN c3 ?_;exact ⟨gg,e1,e2,e3,vs,ss,_,_,_,_,_,rfl,el,pr,by omega,gs,zs,covS fun z=>z.elim (fun y=>by rw [ggi] at y; omega) fun y=>c3 (by have:=y.2; omega)⟩
    case' pos =>
     refine iteP c3 ?_;have ri:Rises t c h:=.inr ⟨by rw [ggi]; exact c2,by omega⟩
  all_goals
   obtain ⟨vl,hal,_⟩:=tb.lines;have lt:(wJ t c).length=(j9 t.names t.rooms).length:=by unfold wJ; rw [Av]
   refine ⟨_,rfl,la,rfl,⟨_,SqL.of e1⟩,j3 (n:=(j9 t.names t.rooms).length) (fun k ys H'=>H'=H6∧ys=intL ((wJ t c).take k)) ⟨rfl,rfl⟩ (zw (by omega)) ?_ ?_ ?_⟩
   case refine_2 =>
    rintro k ys H' hk ⟨rfl,_⟩;exact ⟨_,_,SqL.of e1,j7 (A7 hk)⟩
   case refine_3 =>
    rintro k m' ys H' c1 v H3 hk ⟨rfl,rfl⟩ ⟨rfl,y1⟩ nx _;obtain ⟨i,hi,rfl⟩:=Y0 (y1 _ (SqL.of e1));obtain ⟨x,li,bl,h1,h2,h3,h4,h5,h6,h7,h8⟩:=Vz tb sz hal (Af hi);obtain ⟨z,hz⟩:=yz (l:=li) (i:=c) (by omega);refine Or.inl ⟨rfl,_,rfl,B.p,_,B.dx,_,_,rfl,tb.ins,T.Czg,T.nzn,rfl,_,rfl,B.al,_,_,_,rfl,rfl,SqL.of hal,atN h5,_,rfl,bl,_,_,_,rfl,rfl,SqL.of h6,atN (y8 hz),nx _ _ ⟨rfl,?_⟩⟩;rw [J1 (x:=z)];unfold wJ;rw [List.getElem?_map,hi];show some ((t.lines.getD i []).getD c 0)=_;rw [h4,qZ hz]
   rintro ys H' ⟨rfl,rfl⟩;rw [A8 (by omega)];refine ⟨⟨_,SqL.of e1,by rw [Av]; exact Nat.le_refl _⟩,fun lk hlk=>?_⟩;have g7:=qw hlk (.lst (intL (wJ t c)));have ek:upd H' lk (.lst (intL (wJ t c))) lk=some (.lst (intL (wJ t c))):=qj;generalize upd H' lk (.lst (intL (wJ t c)))=H7 at *;refine ⟨_,rfl,_,rfl,_,rfl,ll,lk,ln,xZ t,wJ t c,Zk t,rfl,SqL.of (g7 _ _ e2),SqL.of ek,SqL.of (g7 _ _ e3),by omega,by omega,zl,zt c hc,fun vk H8 g8 best=>?_⟩;rw [lt] at best;have g78:=g7.trans g8;have tb8:=tb.mono g78
   rcases best with ⟨rfl,no⟩ | ⟨k,rfl,le⟩
   ·refine ⟨_,rfl,rfl,_,rfl,iteP rfl ?_⟩
    refine ⟨_,rfl,_,rfl,(show 5≤sizeLine by decide),fun p hp=>⟨(show 1≤sizeLine by decide),fun l hl=>?_⟩⟩;have g9:=qw hp (.tup [.non,.int (c:Int),.int 0,.int 1,.int (h:Int)]);have gA:=qw hl (.lst [.ref p]);refine q l _ _ _ (zW (gg.trans (g78.trans g9)) hl) (gg.trans (g78.trans (g9.trans gA))) qj (.cons ⟨p,rfl,SqT.of (gA _ _ qj)⟩ .nil) (.inl ⟨c,h,hh,ri,no,rfl⟩) fun s hs=>?_
    rw [Al.mp hs];exact ⟨Int.zero_lt_one,(show Sm 14000 0 by unfold Sm; decide),(show Sm 6700 1 by unfold Sm; decide)⟩
   ·refine ⟨_,rfl,rfl,_,rfl,iteN (by intro z; cases z) ?_⟩
    have lc:=le.lt;obtain ⟨i,hi⟩:=yz (l:=j9 t.names t.rooms) (i:=k) lc;obtain ⟨la1,hla1⟩:=yz (l:=xZ t) (i:=k) (by omega);obtain ⟨tk,htk⟩:=yz (l:=wJ t c) (i:=k) (by omega);have e1':=g78 _ _ e1;have e2':=g78 _ _ e2;have el':=g78 _ _ el;have pr':=Paired.mapP pr fun _ _ z=>StpAt.mono z g78
    have zgi:=sz.lg.2 gi (Af hgi);have zla:=zl la1 (Af hla1);have ek':=g8 _ _ ek;refine ⟨_,rfl,.inl ⟨rfl,_,SqL.of el'⟩,_,rfl,_,rfl,la,_,_,_,rfl,rfl,SqL.of e1',atN (j7 hi),_,rfl,_,rfl,_,rfl,_,rfl,_,rfl,ll,_,_,_,rfl,rfl,SqL.of e2',atN (y8 hla1),_,_,rfl,rfl,mulOk zgi.neg zla,_,rfl,_,rfl,lk,_,_,_,rfl,rfl,SqL.of ek',atN (y8 htk),_,rfl,(show 5≤sizeLine by decide),fun p hp=>?_⟩;have g9:=qw hp (.tup [.int (i:Int),.int (c:Int),.int (-gi*la1),.int tk,.int (h:Int)]);have el9:=g9 _ _ el';have lss:=Paired.length pr;refine ⟨ls,_,_,rfl,rfl,el9,zw (by omega),?_⟩;have st:CSt t ⟨.int (i:Int),.int (c:Int),-gi*la1,tk,h⟩ c h k i:=⟨hh,ri,hi,rfl,rfl,by rw [ggi,qZ hla1],by rw [qZ htk],rfl,le⟩;have spos:0<tk:=by have:=le.pos; rw [qZ htk] at this; exact this
    have upS:∀ {v:V} {s:Stp},StpAt K H8 v s→StpAt K (upd (upd H8 p (.tup [.int (i:Int),.int (c:Int),.int (-gi*la1),.int tk,.int (h:Int)])) ls (.lst (vs++[.ref p]))) v s:=fun ⟨d,e1,e2⟩=>⟨d,e1,SqT.upd_lst (g9.tup e2) el9⟩
    refine ⟨(gg.trans (g78.trans g9)).laid hls _,by rw [zZ nla]; exact g9 _ _ e1',by rw [zZ nll]; exact g9 _ _ e2',by rw [zZ nln]; exact (g78.trans g9) _ _ e3,vs++[.ref p],ss++[⟨.int (i:Int),.int (c:Int),-gi*la1,tk,h⟩],_,_,_,_,_,rfl,qj,Paired.snoc (Paired.mapP pr' fun _ _ z=>upS z) ⟨p,rfl,SqT.upd_lst (SqT.of qj) el9⟩,by rw [Ak,Ab]; omega,fun s hs=>?_,fun s hs=>?_,fun c' h' hc' hh' ri'=>?_⟩
    ·rcases Aw.mp hs with z | z
     ·exact gs s z
     ·rw [Al.mp z]; exact ⟨c,h,k,i,st⟩
    ·rcases Aw.mp hs with z | z
     ·exact zs s z
     ·rw [Al.mp z]
      exact ⟨spos,(zgi.neg.mul zla).mono (by decide),zt c hc tk (Af htk)⟩
    ·by_cases ec:c'=c
     ·subst ec
      rw [hh] at hh'
      cases hh'
      exact ⟨_,Ac _ Am,k,i,st⟩
     ·obtain ⟨s,hs,r⟩:=cov c' h' (by omega) hh' ri'
      exact ⟨s,Ah _ hs,r⟩
section
variable {F:Vecs} {m:Nat} {G Gd:Nat→Int} {act:List Nat} {S:Sit} {M:Nat}
theorem tabSz_of (I:SitI F m G Gd act S) (B:BndG F m G Gd M) (h1:S.t.heads.length≤100) (h2:S.t.names.length≤400):TabSz S.t:=by
 have hl:=heads_len0 I;refine ⟨fun l h=>?_,⟨?_,?_⟩,⟨?_,?_⟩,?_,?_,bot_ne0 I,h1,h2⟩
 ·rw [I.lines] at h
  obtain ⟨x,_,e⟩:=List.mem_map.mp h;rw [← e];exact ⟨by rw [Z8,hl],lineG_sm I B (B.f x)⟩
 ·rw [I.goal,Z8,hl]
 ·rw [I.goal]; exact lineG_sm I B B.g
 ·rw [I.guide,Z8,hl]
 ·rw [I.guide]; exact lineG_sm I B B.gd
 ·rw [I.lines,Av]
 ·rw [I.bot]
  exact Ao (bot_le I.gh.e1 B.one fun j _ c _=>B.f _ c) B.sm
theorem name_ix {x:Nat} (h:x∈S.t.names):∃ i:Nat,S.t.names[i]?=some x:=List.mem_iff_getElem?.mp h
theorem head_ix {x:Nat} (h:x∈S.t.heads):∃ i:Nat,S.t.heads[i]?=some x:=List.mem_iff_getElem?.mp h
theorem mend_best (I:SitI F m G Gd act S) (sz:TabSz S.t) (df:∀ y∈S.t.heads,0≤gG F m S.Hd S.e Gd y) {ss:List Stp} {s:Stp} {i x col:Nat} {li:List Int} (st:MSt S.t s i x col li)
  (cov:∀ (i x:Nat) (li:List Int),S.t.names[i]?=some x→x<S.t.rooms→S.t.lines[i]?=some li→li.getD S.t.heads.length 0<0→∃ s∈ss,∃ col,MSt S.t s i x col li) (best:BestS ss ss.length s) (bp:∀ s∈ss,0<s.bot) :
  ∃ q,act[col]?=some q∧StM F m Gd act S i col x q:=by
 have lc:=st.least.lt;have BR:=botR I;have ln:=(sz.ll li (Af st.hl)).1;obtain ⟨h,hh⟩:=yz (l:=S.t.heads) (i:=col) lc;obtain ⟨q,hq,eq,qm⟩:=act_at I hh;have fall:∀ {j:Nat},j<S.t.heads.length→(xJ li S.t.heads.length).getD j 0 = -(li.getD j 0):=fun hj=>fallsL_getD hj (by omega)
 have numN:∀ {j y:Nat},S.t.heads[j]?=some y→(((xJ li S.t.heads.length).getD j 0:Int):Rat) = -gG F m S.Hd S.e (F x) y*(S.t.bot:Rat):=fun hj=>by
  rw [fall (A3.mp hj).1,Rat.intCast_neg,Yv I st.hi st.hl hj];grind
 have gu:∀ {j y:Nat},S.t.heads[j]?=some y→((S.t.guide.getD j 0:Int):Rat)=gG F m S.Hd S.e Gd y*(S.t.bot:Rat):=fun hj=>guide_at I hj
 subst eq;refine ⟨q,hq,st.hi,hq,st.xr,(wz BR (YK I st.hi st.hl)).mp st.neg,?_,df,fun y hy ny=>?_,fun g0 y hy yx=>?_⟩
 ·have:=(sign_pos BR (numN hh)).mp st.least.pos
  grind
 ·obtain ⟨j,hj⟩:=head_ix hy
  have pj:0<(xJ li S.t.heads.length).getD j 0:=(sign_pos BR (numN hj)).mpr (by grind);have l:=st.least.le j (A3.mp hj).1 pj;have c:=cross_le BR (gu hh) (numN hj) (gu hj) (numN hh);refine ⟨c.1.mp l.1,fun e=>?_⟩;have:=l.2 (c.2.mpr e);rw [qZ hh,qZ hj] at this;exact this
 ·refine Classical.byContradiction fun n=>?_
  have n:=Rat.not_le.mp n;obtain ⟨j,hj⟩:=name_ix hy;obtain ⟨lj,hlj⟩:=yz (l:=S.t.lines) (i:=j) (by rw [sz.nl]; exact (A3.mp hj).1);have ng:=(wz BR (YK I hj hlj)).mpr n;obtain ⟨s',hs',col',st'⟩:=cov j y lj hj (Nat.lt_trans yx st.xr) hlj ng;have gc0:S.t.guide.getD col 0=0:=(J0 BR (gu hh)).mpr g0;have t0:s.top=0:=by rw [st.top,gc0,Int.mul_zero]
  obtain ⟨k',hk'⟩:=List.mem_iff_getElem?.mp hs';have b:=best.2 k' s' (A3.mp hk').1 hk';rw [t0,Int.zero_mul] at b;have lc':=st'.least.lt;obtain ⟨h',hh'⟩:=yz (l:=S.t.heads) (i:=col') lc';have gn:0≤S.t.guide.getD col' 0:=by
   have:=df h' (Af hh');refine Int.not_lt.mp fun z=>?_
   exact (Rat.not_lt.mpr this) ((wz BR (gu hh')).mp z)
  have tp:0≤s'.top:=by
   rw [st'.top];exact Int.mul_nonneg (by have:=st'.neg; omega) gn
  have z0:s'.top*s.bot=0:=Int.le_antisymm b.1 (Int.mul_nonneg tp (Int.le_of_lt (bp s best.1)));have:=b.2 z0;rw [st.nm,st'.nm] at this;omega
theorem climb_best (I:SitI F m G Gd act S) (sz:TabSz S.t) (se:Seat F m S) (fe:∀ y∈S.t.names,y<S.t.rooms→0≤vG F m S.Hd S.e (F y)) {ss:List Stp} {s:Stp} {c h k i:Nat} (st:CSt S.t s c h k i)
  (cov:∀ c h:Nat,S.t.heads[c]?=some h→Rises S.t c h→∃ s∈ss,∃ k i,CSt S.t s c h k i) (best:BestS ss ss.length s) (bp:∀ s∈ss,0<s.bot) :
  ∃ x q,act[c]?=some q∧StC F m G act S i c x q:=by
 have lk:=st.least.lt;have BR:=botR I;obtain ⟨q,hq,eq,qm⟩:=act_at I st.hh;have la:∀ {j i':Nat},(j9 S.t.names S.t.rooms)[j]?=some i'→∃ x li,S.t.names[i']?=some x∧x<S.t.rooms∧S.t.lines[i']?=some li∧(xZ S.t).getD j 0=li.getD S.t.heads.length 0∧(∀ c,(wJ S.t c).getD j 0=li.getD c 0)∧(Zk S.t).getD j 0=x:=fun {j i'} hj=>by
  obtain ⟨x,hx,xr⟩:=wK.mp (Af hj);obtain ⟨li,hli⟩:=yz (l:=S.t.lines) (i:=i') (by rw [sz.nl]; exact (A3.mp hx).1);refine ⟨x,li,hx,xr,hli,?_,fun c=>?_,?_⟩
  ·unfold xZ
   rw [qZ (x:=li.getD S.t.heads.length 0)];rw [List.getElem?_map,hj];show some ((S.t.lines.getD i' []).getD S.t.heads.length 0)=_;rw [qZ hli]
  ·unfold wJ
   rw [qZ (x:=li.getD c 0)];rw [List.getElem?_map,hj];show some ((S.t.lines.getD i' []).getD c 0)=_;rw [qZ hli]
  ·unfold Zk
   rw [qZ (x:=x)];rw [List.getElem?_map,hj];show some (S.t.names.getD i' 0)=_;rw [qZ hx]
 obtain ⟨x,li,hx,xr,hli,e1,e2,e3⟩:=la st.hi;have tk:((wJ S.t c).getD k 0:Int)=li.getD c 0:=e2 c;have ap:0<gG F m S.Hd S.e (F x) h:=(sign_pos BR (Yv I hx hli st.hh)).mp (by rw [← tk]; exact st.least.pos);have hr:h<S.t.rooms:=Nat.not_le.mp fun z=>by
  rw [se h (Af st.hh) z x (Af hx) xr] at ap;exact absurd ap Rat.lt_irrefl
 have gneg:S.t.goal.getD c 0<0:=by
  rcases st.ri with z | z
  ·exact z
  ·omega
 subst eq;refine ⟨x,q,hq,hx,hq,xr,(wz BR (YW I st.hh)).mp gneg,ap,fe,fun y hy yr ay=>?_,fun b0 y hy yh=>?_⟩
 ·obtain ⟨i',hi'⟩:=name_ix hy
  obtain ⟨j,hj⟩:=List.mem_iff_getElem?.mp (wK.mpr ⟨y,hi',yr⟩);obtain ⟨y',lj,hy',_,hlj,f1,f2,f3⟩:=la hj;rw [hi'] at hy'
  cases hy'
  have pj:0<(wJ S.t c).getD j 0:=by rw [f2]; exact (sign_pos BR (Yv I hi' hlj st.hh)).mpr ay
  have l:=st.least.le j (A3.mp hj).1 pj;rw [e1,f1,tk,f2,e3,f3] at l;have cr:=cross_le BR (YK I hx hli) (Yv I hi' hlj st.hh) (YK I hi' hlj) (Yv I hx hli st.hh);exact ⟨cr.1.mp l.1,fun e=>l.2 (cr.2.mpr e)⟩
 ·refine Classical.byContradiction fun n=>?_
  have n:=Rat.not_le.mp n;obtain ⟨c',hc'⟩:=head_ix hy;have gc:=(wz BR (YW I hc')).mpr n;obtain ⟨s',hs',k',i',st'⟩:=cov c' y hc' (.inl gc);obtain ⟨j',hj'⟩:=List.mem_iff_getElem?.mp hs';have b:=best.2 j' s' (A3.mp hj').1 hj';have l0:li.getD S.t.heads.length 0=0:=(J0 BR (YK I hx hli)).mpr b0;have t0:s.top=0:=by rw [st.top,e1,l0,Int.mul_zero]
  rw [t0,Int.zero_mul] at b;obtain ⟨x',li',hx',xr',hli',f1,_,_⟩:=la st'.hi;have ln:0≤(xZ S.t).getD k' 0:=by
   rw [f1];have:=fe x' (Af hx') xr';refine Int.not_lt.mp fun z=>?_
   exact (Rat.not_lt.mpr this) ((wz BR (YK I hx' hli')).mp z)
  have tp:0≤s'.top:=by
   rw [st'.top];exact Int.mul_nonneg (by omega) ln
  have z0:s'.top*s.bot=0:=Int.le_antisymm b.1 (Int.mul_nonneg tp (Int.le_of_lt (bp s best.1)));have:=b.2 z0;rw [st.nm,st'.nm] at this;omega
end
def spGo (K:Bc) (C f:Addr) (Out:Tab→List Stp→Prop):Sp:=fun vs H Q _=>∃ (A:TA) (S:Sit) (k:Nat) (Jv:Nat→Sit→Prop),vs=[.ref A.p,.ref f]∧TabAt C H A S.t∧Jv k S∧(∀ k S,Jv k S→TabSz S.t)∧(∀ k S ss s,Jv k S→Out S.t ss→BestS ss ss.length s→(∀ s∈ss,0<s.bot)→(s.va=.non∨s.vc=.non)∨∃ (i c:Nat) (S':Sit) (k':Nat),s.va=.int (i:Int)∧s.vc=.int (c:Int)∧i<S.t.names.length∧c<S.t.heads.length∧S'.t=exch S.t i c∧k'<k∧Jv k' S')∧∀ A' H' S' k',A'.p=A.p→A'.an=A.an→A'.ah=A.ah→A'.dx=A.dx→But (TabS A) H H'→TabAt C H' A' S'.t→Jv k' S'→(Out S'.t []→Q .non H')∧∀ p ss s,Out S'.t ss→BestS ss ss.length s→(s.va=.non∨s.vc=.non)→SqT K H' p [s.va,s.vc,.int s.top,.int s.bot,.int (s.nm:Int)]→Q (.ref p) H'
abbrev VJ (P w K mg base) (a:Adr) (cdv A outer s H E):=(cxOf CX0 P w K mg base ["tableau", "steps_of", "steps", "step"] "go_on" (qQ ZW) a.fzy cdv A outer s H E).nox
theorem W8 (T:Txt K mg a):FnOk P w K mg base CX0 4 a.fzy a.dzy ["tableau", "steps_of"] (spGo K a.czg a.fyp Wj):=by
 refine T.Fzy.ok Y8 (fun vs H Q E h=>?_) (fun cdv A outer s H vs Q E hr h=>?_)
 ·obtain ⟨_,_,_,_,rfl,_⟩:=h
  rfl
 obtain ⟨B,S,k,Jv,rfl,tab,jv,jz,jn,q⟩:=h;have h0:PS (VJ P w K mg base a cdv A outer s H E) (bS ZW 0) _:=(zq (i:=2) Y8.nd rfl (Or.inl rfl) (pe_callV (Vk T) (hr.mono (by decide)) (pv 1) T.Fyp.kp T.byp .nil pass0 (pa_c (pv 0) qk)));have h1:PS (VJ P w K mg base a cdv A outer s H E) (bS ZW 1) _:=(ps_while PassesOwn.never (zj op_gt (zX (yV) rfl T.m_len boot_len (pa_c (pv 2) qk)) qz (zv _))
    (qJ (zq (i:=3) Y8.nd rfl (Or.inl rfl) (qK (okzt T) (hr.mono (by decide)) rfl T.mzt T.Fzt.kp T.bzt .nil pass0 (pa_c (pv 2) qk)))
   (qJ (ps_if (PW.pt (pw_or (zj V1 (pe_ix qY (pv 3) qz (fun _ _=>rfl)) kY (zv _)) (QV (zj V1 (pe_ix qY (pv 3) qz (fun _ _=>rfl)) kY (zv _)))))
    (qX (zQ (pv 3)))
    y4)
   (qJ (QJ (ZY (pv 0) T.Czg T.tzi (Qj T) (hr.mono (by decide)) T.bzi .nil pass0 (pa_c (pe_ix qY (pv 3) qz (fun _ _=>rfl)) (pa_c (pe_ix qY (pv 3) qz (fun _ _=>rfl)) qk)) (hst:=qq rfl _ _) (hpl:=qy rfl)))
   (qX (zq (i:=2) Y8.nd rfl (Or.inl rfl) (pe_callV (Vk T) (hr.mono (by decide)) (pv 1) T.Fyp.kp T.byp .nil pass0 (pa_c (pv 0) qk))))))))
 have h2:PS (VJ P w K mg base a cdv A outer s H E) (bS ZW 2) _:=(zQ kY);refine body3 (by rfl) h0 h1 h2 ?_
 intros
 clear h0 h1 h2;refine ⟨rfl,_,rfl,B,S.t,rfl,tab,jz k S jv,fun l1 vs1 ss1 H1 hl1 g1 e1 pr1 out1 zs1=>?_⟩;refine ⟨fun k σ H'=>∃ (B':TA) (S':Sit) (l:Addr) (vs:List V) (ss:List Stp) (u3:Option V),σ=[some (.ref B.p),some (.ref a.fyp),some (.ref l),u3]∧B'.p=B.p∧B'.an=B.an∧B'.ah=B.ah∧B'.dx=B.dx∧But (TabS B) H H'∧TabAt a.czg H' B' S'.t∧Jv k S'∧H' l=some (.lst vs)∧Paired (StpAt K H') vs ss∧Wj S'.t ss∧∀ s∈ss,0<s.bot∧Sm 14000 s.top∧Sm 6700 s.bot,⟨k,B,S,l1,vs1,ss1,_,rfl,rfl,rfl,rfl,rfl,g1.but,tab.mono g1,jv,e1,pr1,out1,zs1⟩,?_⟩;rintro k1 σ H2 ⟨B',S',l,vs,ss,u3,rfl,b1,b2,b3,b4,but,tb,jv1,el,pr,out,zs⟩;have lv:=Paired.length pr;refine ⟨_,rfl,l,_,rfl,.inl (SqL.of el),_,_,rfl,rfl,_,rfl,?_⟩
 by_cases c0:0<(vs.length:Int)
 ·refine iteP c0 ?_
  have ne:ss≠[]:=fun z=>by rw [z] at lv; rw [lv] at c0; exact absurd c0 (by decide)
  refine ⟨fun σ' H'=>∃ m',m'<k1∧∃ (B':TA) (S':Sit) (l:Addr) (vs:List V) (ss:List Stp) (u3:Option V),σ'=[some (.ref B.p),some (.ref a.fyp),some (.ref l),u3]∧B'.p=B.p∧B'.an=B.an∧B'.ah=B.ah∧B'.dx=B.dx∧But (TabS B) H H'∧TabAt a.czg H' B' S'.t∧Jv m' S'∧H' l=some (.lst vs)∧Paired (StpAt K H') vs ss∧Wj S'.t ss∧∀ s∈ss,0<s.bot∧Sm 14000 s.top∧Sm 6700 s.bot,fun _ _ h=>h,?_⟩;refine ⟨_,rfl,l,vs,ss,rfl,SqL.of el,pr,ne,zs,fun p s hp best=>?_⟩;have fin:(s.va=.non∨s.vc=.non)→Q (.ref p) H2:=fun h=>(q B' H2 S' k1 b1 b2 b3 b4 but tb jv1).2 p ss s out best h hp
  refine ⟨_,rfl,p,_,_,_,rfl,rfl,hp,rfl,rfl,_,rfl,?_⟩
  by_cases va:s.va=.non
  ·exact iteP va (iteT ⟨_,rfl,fin (.inl va)⟩)
  refine iteN va ⟨_,rfl,p,_,_,_,rfl,rfl,hp,rfl,rfl,_,rfl,?_⟩
  by_cases vc:s.vc=.non
  ·exact iteP vc ⟨_,rfl,fin (.inr vc)⟩
  refine iteN vc ?_
  rcases jn k1 S' ss s jv1 out best fun s hs=>(zs s hs).1 with z | ⟨i,c,S2,k2,e1,e2,hi,hc,e3,lk,jv2⟩
  ·exact absurd z (fun y=>y.elim va vc)
  rw [e1,e2] at hp;refine ⟨_,rfl,B.p,B.dx,_,rfl,by rw [← b1,← b4]; exact tb.ins,rfl,_,rfl,p,_,_,_,rfl,rfl,hp,rfl,_,rfl,p,_,_,_,rfl,rfl,hp,rfl,B',S'.t,i,c,by rw [b1]; rfl,tb,jz k1 S' jv1,hi,hc,fun B2 H3 c1 c2 c3 c4 but2 tb2=>?_⟩;rw [← e3] at tb2;have but2':But (TabS B) H2 H3:=fun b o n e=>but2 b o (fun z=>n (by unfold TabS at z ⊢; rw [b1,b2,b3] at z; exact z)) e
  refine ⟨rfl,_,rfl,B2,S2.t,by rw [c1,b1]; rfl,tb2,jz k2 S2 jv2,fun l3 vs3 ss3 H4 hl3 g3 e5 pr3 out3 zs3=>?_⟩;exact ⟨k2,lk,B2,S2,l3,vs3,ss3,_,rfl,c1.trans b1,c2.trans b2,c3.trans b3,c4.trans b4,(but.trans but2').trans g3.but,tb2.mono g3,jv2,e5,pr3,out3,zs3⟩
 ·refine iteN c0 ?_
  have e0:ss=[]:=by
   have:vs.length=0:=by omega
   exact List.length_eq_zero_iff.mp (by omega)
  rw [e0] at out;exact (q B' H2 S' k1 b1 b2 b3 b4 but tb jv1).1 out
theorem Vv (T:Txt K mg a):FnOk P w K mg base CX0 4 a.fzy a.dzy ["tableau", "steps_of"] (spGo K a.czg a.fzv Jx):=by
 refine T.Fzy.ok Y8 (fun vs H Q E h=>?_) (fun cdv A outer s H vs Q E hr h=>?_)
 ·obtain ⟨_,_,_,_,rfl,_⟩:=h
  rfl
 obtain ⟨B,S,k,Jv,rfl,tab,jv,jz,jn,q⟩:=h;have h0:PS (VJ P w K mg base a cdv A outer s H E) (bS ZW 0) _:=(zq (i:=2) Y8.nd rfl (Or.inl rfl) (pe_callV (JX T) (hr.mono (by decide)) (pv 1) T.Fzv.kp T.bzv .nil pass0 (pa_c (pv 0) qk)));have h1:PS (VJ P w K mg base a cdv A outer s H E) (bS ZW 1) _:=(ps_while PassesOwn.never (zj op_gt (zX (yV) rfl T.m_len boot_len (pa_c (pv 2) qk)) qz (zv _))
    (qJ (zq (i:=3) Y8.nd rfl (Or.inl rfl) (qK (okzt T) (hr.mono (by decide)) rfl T.mzt T.Fzt.kp T.bzt .nil pass0 (pa_c (pv 2) qk)))
   (qJ (ps_if (PW.pt (pw_or (zj V1 (pe_ix qY (pv 3) qz (fun _ _=>rfl)) kY (zv _)) (QV (zj V1 (pe_ix qY (pv 3) qz (fun _ _=>rfl)) kY (zv _)))))
    (qX (zQ (pv 3)))
    y4)
   (qJ (QJ (ZY (pv 0) T.Czg T.tzi (Qj T) (hr.mono (by decide)) T.bzi .nil pass0 (pa_c (pe_ix qY (pv 3) qz (fun _ _=>rfl)) (pa_c (pe_ix qY (pv 3) qz (fun _ _=>rfl)) qk)) (hst:=qq rfl _ _) (hpl:=qy rfl)))
   (qX (zq (i:=2) Y8.nd rfl (Or.inl rfl) (pe_callV (JX T) (hr.mono (by decide)) (pv 1) T.Fzv.kp T.bzv .nil pass0 (pa_c (pv 0) qk))))))))
 have h2:PS (VJ P w K mg base a cdv A outer s H E) (bS ZW 2) _:=(zQ kY);refine body3 (by rfl) h0 h1 h2 ?_
 intros
 clear h0 h1 h2;refine ⟨rfl,_,rfl,B,S.t,rfl,tab,jz k S jv,fun l1 vs1 ss1 H1 hl1 g1 e1 pr1 out1 zs1=>?_⟩;refine ⟨fun k σ H'=>∃ (B':TA) (S':Sit) (l:Addr) (vs:List V) (ss:List Stp) (u3:Option V),σ=[some (.ref B.p),some (.ref a.fzv),some (.ref l),u3]∧B'.p=B.p∧B'.an=B.an∧B'.ah=B.ah∧B'.dx=B.dx∧But (TabS B) H H'∧TabAt a.czg H' B' S'.t∧Jv k S'∧H' l=some (.lst vs)∧Paired (StpAt K H') vs ss∧Jx S'.t ss∧∀ s∈ss,0<s.bot∧Sm 14000 s.top∧Sm 6700 s.bot,⟨k,B,S,l1,vs1,ss1,_,rfl,rfl,rfl,rfl,rfl,g1.but,tab.mono g1,jv,e1,pr1,out1,zs1⟩,?_⟩;rintro k1 σ H2 ⟨B',S',l,vs,ss,u3,rfl,b1,b2,b3,b4,but,tb,jv1,el,pr,out,zs⟩;have lv:=Paired.length pr;refine ⟨_,rfl,l,_,rfl,.inl (SqL.of el),_,_,rfl,rfl,_,rfl,?_⟩
 by_cases c0:0<(vs.length:Int)
 ·refine iteP c0 ?_
  have ne:ss≠[]:=fun z=>by rw [z] at lv; rw [lv] at c0; exact absurd c0 (by decide)
  refine ⟨fun σ' H'=>∃ m',m'<k1∧∃ (B':TA) (S':Sit) (l:Addr) (vs:List V) (ss:List Stp) (u3:Option V),σ'=[some (.ref B.p),some (.ref a.fzv),some (.ref l),u3]∧B'.p=B.p∧B'.an=B.an∧B'.ah=B.ah∧B'.dx=B.dx∧But (TabS B) H H'∧TabAt a.czg H' B' S'.t∧Jv m' S'∧H' l=some (.lst vs)∧Paired (StpAt K H') vs ss∧Jx S'.t ss∧∀ s∈ss,0<s.bot∧Sm 14000 s.top∧Sm 6700 s.bot,fun _ _ h=>h,?_⟩;refine ⟨_,rfl,l,vs,ss,rfl,SqL.of el,pr,ne,zs,fun p s hp best=>?_⟩;have fin:(s.va=.non∨s.vc=.non)→Q (.ref p) H2:=fun h=>(q B' H2 S' k1 b1 b2 b3 b4 but tb jv1).2 p ss s out best h hp
  refine ⟨_,rfl,p,_,_,_,rfl,rfl,hp,rfl,rfl,_,rfl,?_⟩
  by_cases va:s.va=.non
  ·exact iteP va (iteT ⟨_,rfl,fin (.inl va)⟩)
  refine iteN va ⟨_,rfl,p,_,_,_,rfl,rfl,hp,rfl,rfl,_,rfl,?_⟩
  by_cases vc:s.vc=.non
  ·exact iteP vc ⟨_,rfl,fin (.inr vc)⟩
  refine iteN vc ?_
  rcases jn k1 S' ss s jv1 out best fun s hs=>(zs s hs).1 with z | ⟨i,c,S2,k2,e1,e2,hi,hc,e3,lk,jv2⟩
  ·exact absurd z (fun y=>y.elim va vc)
  rw [e1,e2] at hp;refine ⟨_,rfl,B.p,B.dx,_,rfl,by rw [← b1,← b4]; exact tb.ins,rfl,_,rfl,p,_,_,_,rfl,rfl,hp,rfl,_,rfl,p,_,_,_,rfl,rfl,hp,rfl,B',S'.t,i,c,by rw [b1]; rfl,tb,jz k1 S' jv1,hi,hc,fun B2 H3 c1 c2 c3 c4 but2 tb2=>?_⟩;rw [← e3] at tb2;have but2':But (TabS B) H2 H3:=fun b o n e=>but2 b o (fun z=>n (by unfold TabS at z ⊢; rw [b1,b2,b3] at z; exact z)) e
  refine ⟨rfl,_,rfl,B2,S2.t,by rw [c1,b1]; rfl,tb2,jz k2 S2 jv2,fun l3 vs3 ss3 H4 hl3 g3 e5 pr3 out3 zs3=>?_⟩;exact ⟨k2,lk,B2,S2,l3,vs3,ss3,_,rfl,c1.trans b1,c2.trans b2,c3.trans b3,c4.trans b4,(but.trans but2').trans g3.but,tb2.mono g3,jv2,e5,pr3,out3,zs3⟩
 ·refine iteN c0 ?_
  have e0:ss=[]:=by
   have:vs.length=0:=by omega
   exact List.length_eq_zero_iff.mp (by omega)
  rw [e0] at out;exact (q B' H2 S' k1 b1 b2 b3 b4 but tb jv1).1 out
section
variable {F:Vecs} {m:Nat} {G Gd:Nat→Int} {act:List Nat} {M Kb:Nat}
structure JM (F:Vecs) (m:Nat) (G Gd:Nat→Int) (act:List Nat) (Kb:Nat) (S1:Sit) (k:Nat) (S:Sit):Prop where
 ch:∃ L f,Chain (NextM F m Gd act) L f∧f 0=S1∧f L=S∧k+L=Kb^S1.t.names.length
 I:SitI F m G Gd act S
 df:∀ y∈S.t.heads,0≤gG F m S.Hd S.e Gd y
 se:Seat F m S
 kin:Kin m act S1 S
 rooms:S.t.rooms=S1.t.rooms
 ln:S.t.names.length=S1.t.names.length
 lh:S.t.heads.length=S1.t.heads.length
theorem JM.next {S1 S:Sit} {k:Nat} {ss:List Stp} {s:Stp} (I1:SitI F m G Gd act S1) (hK:∀ x,(x∈S1.t.names∨x∈yj m S1.Hd)→x<Kb) (j:JM F m G Gd act Kb S1 k S) (sz:TabSz S.t) (out:Wj S.t ss) (best:BestS ss ss.length s) (bp:∀ s∈ss,0<s.bot) :
  (s.va=.non∨s.vc=.non)∨∃ (i c:Nat) (S':Sit) (k':Nat),s.va=.int (i:Int)∧s.vc=.int (c:Int)∧i<S.t.names.length∧c<S.t.heads.length∧S'.t=exch S.t i c∧k'<k∧JM F m G Gd act Kb S1 k' S':=by
 rcases out with ⟨i,x,li,_,_,_,_,_,rfl⟩ | ⟨all,cov⟩
 ·rw [Al.mp best.1]
  exact .inl (.inr rfl)
 ·obtain ⟨i,x,col,li,st⟩:=all s best.1
  obtain ⟨q,hq,sm⟩:=mend_best j.I sz j.df st cov best bp;have n0:gG F m S.Hd S.e (F x) (S.Hd q)≠0:=Ne.symm (lt_ne sm.aneg);obtain ⟨T2,K2,_,_,_⟩:=sit_X j.I sm.hi hq n0;obtain ⟨L,f,ch,f0,fL,e⟩:=j.ch;have bd:=runM_bound (Kb:=Kb) (f:=f) (L:=L) (by rw [f0]; exact I1) ch (by rw [f0]; exact hK);rw [f0] at bd;have nx:NextM F m Gd act (f L) (sitX F m act S i col q x):=by rw [fL]; exact ⟨i,col,x,q,sm,rfl⟩
  refine .inr ⟨i,col,sitX F m act S i col q x,k - 1,st.va,st.vc,(A3.mp st.hi).1,st.least.lt,rfl,by omega,⟨⟨L+1,_,ch.snoc nx,?_,?_,by omega⟩,T2,(stM_on j.I sm).1,seat_X j.I sm.hi hq n0 sm.xr j.se,j.kin.trans K2,j.rooms,(names_len _ _ _ _ _).trans j.ln,(heads_len _ _ _ _ _).trans j.lh⟩⟩
  ·show (if 0≤L then f 0 else _)=S1
   rw [if_pos (Nat.zero_le _),f0]
  ·show (if L+1≤L then f (L+1) else _)=_
   rw [if_neg (by omega)]
structure JC (F:Vecs) (m:Nat) (G Gd:Nat→Int) (act:List Nat) (Kb:Nat) (S1:Sit) (k:Nat) (S:Sit):Prop where
 ch:∃ L f,Chain (NextC F m G act) L f∧f 0=S1∧f L=S∧k+L=Kb^S1.t.heads.length
 I:SitI F m G Gd act S
 fe:∀ y∈S.t.names,y<S.t.rooms→0≤vG F m S.Hd S.e (F y)
 se:Seat F m S
 kin:Kin m act S1 S
 rooms:S.t.rooms=S1.t.rooms
 ln:S.t.names.length=S1.t.names.length
 lh:S.t.heads.length=S1.t.heads.length
theorem JC.next {S1 S:Sit} {k:Nat} {ss:List Stp} {s:Stp} (I1:SitI F m G Gd act S1) (hK:∀ x,(x∈S1.t.names∨x∈yj m S1.Hd)→x<Kb) (j:JC F m G Gd act Kb S1 k S) (sz:TabSz S.t) (out:Jx S.t ss) (best:BestS ss ss.length s) (bp:∀ s∈ss,0<s.bot) :
  (s.va=.non∨s.vc=.non)∨∃ (i c:Nat) (S':Sit) (k':Nat),s.va=.int (i:Int)∧s.vc=.int (c:Int)∧i<S.t.names.length∧c<S.t.heads.length∧S'.t=exch S.t i c∧k'<k∧JC F m G Gd act Kb S1 k' S':=by
 rcases out with ⟨c,h,_,_,_,rfl⟩ | ⟨all,cov⟩
 ·rw [Al.mp best.1]
  exact .inl (.inl rfl)
 ·obtain ⟨c,h,k2,i,st⟩:=all s best.1
  obtain ⟨x,q,hq,sm⟩:=climb_best j.I sz j.se j.fe st cov best bp;have n0:gG F m S.Hd S.e (F x) (S.Hd q)≠0:=lt_ne sm.apos;obtain ⟨T2,K2,_,_,_⟩:=sit_X j.I sm.hi hq n0;obtain ⟨L,f,ch,f0,fL,e⟩:=j.ch;have bd:=runC_bound (Kb:=Kb) (f:=f) (L:=L) (by rw [f0]; exact I1) ch (by rw [f0]; exact hK);rw [f0] at bd;have nx:NextC F m G act (f L) (sitX F m act S i c q x):=by rw [fL]; exact ⟨i,c,x,q,sm,rfl⟩
  refine .inr ⟨i,c,sitX F m act S i c q x,k - 1,st.va,st.vc,(A3.mp sm.hi).1,(A3.mp st.hh).1,rfl,by omega,⟨⟨L+1,_,ch.snoc nx,?_,?_,by omega⟩,T2,(stC_on j.I sm).1,seat_X j.I sm.hi hq n0 sm.xr j.se,j.kin.trans K2,j.rooms,(names_len _ _ _ _ _).trans j.ln,(heads_len _ _ _ _ _).trans j.lh⟩⟩
  ·show (if 0≤L then f 0 else _)=S1
   rw [if_pos (Nat.zero_le _),f0]
  ·show (if L+1≤L then f (L+1) else _)=_
   rw [if_neg (by omega)]
def Qx (F:Vecs) (Hd:Nat→Nat):List Nat→Nat→Int
 | [],_=>0
 | k::l,c => -(F (Hd k) c)+Qx F Hd l c
theorem negSum_supp {Hd:Nat→Nat} (sF:∀ x,SuppG m (F x)):∀ l:List Nat,SuppG m (Qx F Hd l)
 | [],_,_=>rfl
 | k::l,c,hc=>by
  show -(F (Hd k) c)+Qx F Hd l c=0;rw [sF _ c hc,negSum_supp sF l c hc];rfl
theorem negSum_le {Hd:Nat→Nat} (h:∀ x c,(F x c).natAbs≤M):∀ (l:List Nat) (c:Nat),(Qx F Hd l c).natAbs≤l.length*M
 | [],_=>Nat.zero_le _
 | k::l,c=>by
  show (-(F (Hd k) c)+Qx F Hd l c).natAbs≤(l.length+1)*M;have a:=negSum_le (Hd:=Hd) h l c;have b:=h (Hd k) c;have d:=Int.natAbs_add_le (-(F (Hd k) c)) (Qx F Hd l c);rw [Int.natAbs_neg] at d;rw [Nat.succ_mul];omega
theorem nu_negSum {Hd:Nat→Nat} {e:Int} {j:Nat} (hj:j<m+1):∀ l:List Nat,l.Nodup→(∀ k∈l,k<m)→nuG F m Hd e (Qx F Hd l) j=if j∈l then -botG F m Hd e else 0
 | [],_,_=>by
  have z:=nu_lin (F:=F) (m:=m) (Hd:=Hd) (e:=e) (k:=j) hj (a:=0) (b:=0) (u:=fun _=>0) (v:=fun _=>0)
  simp only [Int.zero_mul,Int.add_zero] at z
  rw [if_neg (List.not_mem_nil)];exact z
 | k::l,nd,lt=>by
  obtain ⟨n1,n2⟩:=List.nodup_cons.mp nd;have ih:=nu_negSum (Hd:=Hd) (e:=e) hj l n2 fun x hx=>lt x (List.mem_cons_of_mem _ hx)
  have km:=lt k Am;have z:=nu_lin (F:=F) (m:=m) (Hd:=Hd) (e:=e) (k:=j) hj (a := -1) (b:=1) (u:=F (Hd k)) (v:=Qx F Hd l);have ef:(fun c => -1*F (Hd k) c+1*Qx F Hd l c)=Qx F Hd (k::l):=by
   funext c
   show -1*F (Hd k) c+1*Qx F Hd l c = -(F (Hd k) c)+Qx F Hd l c;omega
  rw [ef,ih] at z;rw [z]
  by_cases e1:j=k
  ·subst e1
   have s:=nu_self (F:=F) (m:=m) (Hd:=Hd) (e:=e) (k:=j);rw [Jz km] at s;rw [s,if_neg n1,if_pos Am];omega
  ·have s:=nu_other (F:=F) (m:=m) (Hd:=Hd) (e:=e) (k:=j) (j:=k) hj (by omega) (Ne.symm e1)
   rw [Jz km] at s;rw [s]
   by_cases e2:j∈l
   ·rw [if_pos e2,if_pos (List.mem_cons_of_mem _ e2)]
    omega
   ·rw [if_neg e2,if_neg fun w=>(List.mem_cons.mp w).elim e1 e2]
    rfl
theorem lineG_negSum {S:Sit} (I:SitI F m G Gd act S):lineG m act (nuG F m S.Hd S.e (Qx F S.Hd act))=List.replicate act.length S.t.bot++[0]:=by
 unfold lineG;have last:nuG F m S.Hd S.e (Qx F S.Hd act) m=0:=by
  rw [nu_negSum (by omega) act I.nda I.lt,if_neg fun z=>by have:=I.lt m z; omega]
 rw [last]
 congr 1
 apply List.ext_getElem?
 intro j;rw [List.getElem?_map,List.getElem?_replicate]
 by_cases hj:j<act.length
 ·rw [if_pos hj,A7 hj]
  show some (-nuG F m S.Hd S.e (Qx F S.Hd act) act[j])=_;have mem:=At hj;rw [nu_negSum (by have:=I.lt _ mem; omega) act I.nda I.lt,if_pos mem,Int.neg_neg,I.bot]
 ·rw [if_neg hj,Ae (by omega)]
  rfl
structure Bnd0 (F:Vecs) (m:Nat) (G:Nat→Int) (M:Nat):Prop where
 one:1≤M
 f:∀ x c,(F x c).natAbs≤M
 g:∀ c,(G c).natAbs≤M
 sm:facN (m+1)*((m+1)*M)^(m+1)<2^6700
theorem Bnd0.to {z:Nat→Int} (B:Bnd0 F m G M) (h:∀ c,(z c).natAbs≤(m+1)*M):BndG F m G z ((m+1)*M):=by
 have le:M≤(m+1)*M:=A9 _ (by omega);exact ⟨Ba B.one le,fun x c=>Ba (B.f x c) le,fun c=>Ba (B.g c) le,h,B.sm⟩
theorem room_at {t:Tab} (sz:TabSz t) {i x:Nat} (hi:t.names[i]?=some x) (xr:x<t.rooms):∃ j li,j<(j9 t.names t.rooms).length∧t.lines[i]?=some li∧∀ c,(wJ t c).getD j 0=li.getD c 0:=by
 obtain ⟨j,hj⟩:=Ag (wK.mpr ⟨x,hi,xr⟩);obtain ⟨li,hli⟩:=yz (l:=t.lines) (i:=i) (by rw [sz.nl]; exact (A3.mp hi).1);refine ⟨j,li,(A3.mp hj).1,hli,fun c=>?_⟩;unfold wJ;rw [qZ (x:=li.getD c 0)];rw [List.getElem?_map,hj];show some ((t.lines.getD i []).getD c 0)=_;rw [qZ hli]
theorem not_lt_r {a b:Rat} (h:¬ a<b):b≤a:=Rat.not_lt.mp h
def MendEnd (F:Vecs) (m:Nat) (S:Sit) (v:V):Prop :=
 (v=.non∧∀ y∈S.t.names,y<S.t.rooms→0≤vG F m S.Hd S.e (F y)) ∨
 ∃ i x:Nat,v=.int (i:Int)∧S.t.names[i]?=some x∧x<S.t.rooms∧vG F m S.Hd S.e (F x)<0∧∀ h∈S.t.heads,0≤gG F m S.Hd S.e (F x) h
theorem mend_done {S:Sit} (I:SitI F m G Gd act S) (out:Wj S.t []):MendEnd F m S .non:=by
 refine .inl ⟨rfl,fun y hy yr=>not_lt_r fun z=>?_⟩
 rcases out with ⟨_,_,_,_,_,_,_,_,z⟩ | ⟨_,cov⟩
 ·cases z
 ·obtain ⟨i,hi⟩:=Ag hy
  have hl:=line_is I hi;obtain ⟨s,hs,_⟩:=cov i y _ hi yr hl ((wz (botR I) (YK I hi hl)).mpr z)
  cases hs
theorem mend_stuck {S:Sit} (I:SitI F m G Gd act S) (sz:TabSz S.t) {ss:List Stp} {s:Stp} (out:Wj S.t ss) (hs:s∈ss) (no:s.va=.non∨s.vc=.non):MendEnd F m S s.va:=by
 rcases out with ⟨i,x,li,hi,xr,hl,neg,nq,rfl⟩ | ⟨all,_⟩
 ·rw [Al.mp hs]
  refine .inr ⟨i,x,rfl,hi,xr,(wz (botR I) (YK I hi hl)).mp neg,fun h hh=>not_lt_r fun z=>?_⟩;obtain ⟨j,hj⟩:=Ag hh;have jl:=(A3.mp hj).1;have a:=nq j jl;rw [fallsL_getD jl (by have:=(sz.ll li (Af hl)).1; omega)] at a;have b:=(wz (botR I) (Yv I hi hl hj)).mpr z;omega
 ·obtain ⟨i,x,col,li,st⟩:=all s hs
  rw [st.va,st.vc] at no;exact no.elim (fun z=>by cases z) (fun z=>by cases z)
def ClimbEnd (F:Vecs) (m:Nat) (G:Nat→Int) (S:Sit) (v:V):Prop :=
 (v=.non∧∀ h∈S.t.heads,0≤gG F m S.Hd S.e G h∧(S.t.rooms≤h→gG F m S.Hd S.e G h=0)) ∨
 ∃ c h:Nat,v=.int (c:Int)∧S.t.heads[c]?=some h∧(gG F m S.Hd S.e G h<0∨(gG F m S.Hd S.e G h≠0∧S.t.rooms≤h))∧∀ y∈S.t.names,y<S.t.rooms→gG F m S.Hd S.e (F y) h≤0
theorem climb_done {S:Sit} (I:SitI F m G Gd act S) (out:Jx S.t []):ClimbEnd F m G S .non:=by
 rcases out with ⟨_,_,_,_,_,z⟩ | ⟨_,cov⟩
 ·cases z
 have no:∀ c h:Nat,S.t.heads[c]?=some h→¬ Rises S.t c h:=fun c h hc ri=>by
  obtain ⟨s,hs,_⟩:=cov c h hc ri
  cases hs
 refine .inl ⟨rfl,fun h hh=>?_⟩;obtain ⟨c,hc⟩:=Ag hh;refine ⟨not_lt_r fun z=>no c h hc (.inl ((wz (botR I) (YW I hc)).mpr z)),fun hr=>Classical.byContradiction fun z=>no c h hc (.inr ⟨fun y=>z ((J0 (botR I) (YW I hc)).mp y),hr⟩)⟩
theorem climb_stuck {S:Sit} (I:SitI F m G Gd act S) (sz:TabSz S.t) {ss:List Stp} {s:Stp} (out:Jx S.t ss) (hs:s∈ss) (no:s.va=.non∨s.vc=.non):ClimbEnd F m G S s.vc:=by
 rcases out with ⟨c,h,hh,ri,nq,rfl⟩ | ⟨all,_⟩
 ·rw [Al.mp hs]
  refine .inr ⟨c,h,rfl,hh,ri.imp (fun z=>(wz (botR I) (YW I hh)).mp z) (fun z=>⟨fun y=>z.1 ((J0 (botR I) (YW I hh)).mpr y),z.2⟩),fun y hy yr=>not_lt_r fun z=>?_⟩;obtain ⟨i,hi⟩:=Ag hy;obtain ⟨j,li,hj,hl,tk⟩:=room_at sz hi yr;have a:=nq j hj;rw [tk] at a;have b:=(sign_pos (botR I) (Yv I hi hl hh)).mpr z;omega
 ·obtain ⟨c,h,k,i,st⟩:=all s hs
  rw [st.va,st.vc] at no;exact no.elim (fun z=>by cases z) (fun z=>by cases z)
def wj (S:Sit) (g:List Int):Sit:={ S with t:={ S.t with guide:=g } }
theorem guide_new {S:Sit} (I:SitI F m G Gd act S) (B:Bnd0 F m G M) (ha:act.length≤m) {g:List Int} (h:(g=S.t.goal∧∀ j,j<S.t.heads.length→0≤S.t.goal.getD j 0)∨g=List.replicate S.t.heads.length S.t.bot++[0]) :
  ∃ z:Nat→Int,SitI F m G z act (wj S g)∧(∀ c,(z c).natAbs≤(m+1)*M)∧∀ y∈(wj S g).t.heads,0≤gG F m S.Hd S.e z y:=by
 have le:M≤(m+1)*M:=A9 _ (by omega);have fin:∀ z:Nat→Int,SitI F m G z act (wj S g)→(∀ j,j<S.t.heads.length→0≤g.getD j 0)→∀ y∈(wj S g).t.heads,0≤gG F m S.Hd S.e z y:=fun z J nn y hy=>not_lt_r fun w=>by
  obtain ⟨j,hj⟩:=Ag hy;have a:=nn j (A3.mp hj).1;have b:=(wz (botR J) (guide_at J hj)).mpr w;exact absurd a (by show ¬ 0≤(wj S g).t.guide.getD j 0; omega)
 rcases h with ⟨rfl,nn⟩ | rfl
 ·have J:SitI F m G G act (wj S S.t.goal):=⟨I.gh,I.bot,I.lt,I.nda,I.heads,I.lines,I.goal,I.goal,I.nd,I.apart,I.sF,I.sG,I.sG⟩
  exact ⟨G,J,fun c=>Ba (B.g c) le,fin _ J nn⟩
 ·have J:SitI F m G (Qx F S.Hd act) act (wj S (List.replicate S.t.heads.length S.t.bot++[0])):=⟨I.gh,I.bot,I.lt,I.nda,I.heads,I.lines,I.goal,by
   rw [heads_len0 I];exact (lineG_negSum I).symm,I.nd,I.apart,I.sF,I.sG,negSum_supp I.sF act⟩
  refine ⟨_,J,fun c=>Ba (negSum_le B.f act c) (Nat.mul_le_mul_right _ (by omega)),fin _ J fun j hj=>?_⟩;have b0:=VX I;rw [qZ (x:=S.t.bot)]
  ·omega
  ·rw [A4 (by rw [Ad]; exact hj),List.getElem?_replicate,if_pos hj]
end
def spGuide (C:Addr):Sp:=fun vs H Q _=>∃ (A:TA) (t:Tab),vs=[.ref A.p]∧TabAt C H A t∧TabSz t∧∀ A' H' g',A'.p=A.p→A'.an=A.an→A'.ah=A.ah→A'.dx=A.dx→But (TabS A) H H'→((g'=t.goal∧∀ j,j<t.heads.length→0≤t.goal.getD j 0)∨g'=List.replicate t.heads.length t.bot++[0])→TabAt C H' A' { t with guide:=g' }→Q .non H'
theorem okyw (T:Txt K mg a):FnOk P w K mg base CX0 1 a.fyw a.dyw ["tableau"] (spGuide a.czg):=by
 refine T.Fyw.ok scyw (fun vs H Q E h=>?_) (fun cdv A outer s H vs Q E hr h=>?_)
 ·obtain ⟨_,_,rfl,_⟩:=h
  rfl
 obtain ⟨B,t,rfl,tab,sz,q⟩:=h;refine ⟨_,(qX (ps_if (wV (zX (call_all rfl) rfl T.m_all boot_all (pa_c (vJ (N:=["number"]) (ix:=[none]) ⟨rfl,rfl,rfl,rfl,trivial,rfl,trivial⟩ rfl (yW (J5 VY (zk (pv 0) rfl) W5 (W4 (pe_un wZ qz)))) (fun _=>(qW (i:=0) (show (["number"]:List Str).Nodup by decide +kernel) rfl (Or.inl rfl))) (fun _ σ=>jQ rfl σ) (fun _=>yy) (fun _=>(Qq op_ge (pv 0) qz (zv _)))) qk)))
    (qX (Q5 (pv 0) (xv (xj) rfl T.m_list boot_list (pa_c (zk (pv 0) rfl) qk)) rfl))
    (qX (Q5 (pv 0) (pe_op op_cat (vJ (N:=["head", "tableau"]) (ix:=[none,some 0]) ⟨rfl,rfl,rfl,rfl,⟨rfl,trivial⟩,rfl,⟨⟨rfl,Or.inr (Or.inl rfl),jj rfl,rfl,Or.inl rfl⟩,trivial⟩⟩ rfl (yW (zk (pv 0) rfl)) (fun _=>(qW (i:=0) (show (["head", "tableau"]:List Str).Nodup by decide +kernel) rfl (Or.inl rfl))) (fun _ σ=>jQ rfl σ) (fun _=>yy) (fun _=>(zk (pv 1) rfl))) (w5 (pa_c qz qk))) rfl)))),?_⟩
 have hd:=sz.hd;have lg:=sz.lg.1;obtain ⟨gb,egb,gs,ga⟩:=tab.goal
 cases egb
 have hcut:cutV (intL t.goal) none (some (-1))=intL (t.goal.take t.heads.length):=by
  rw [cutInit (by rw [Av]; omega),Av,lg];exact (List.map_take ..).symm
 refine ⟨_,rfl,B.p,_,B.dx,_,_,rfl,tab.ins,T.Czg,T.nzj,rfl,_,rfl,_,rfl,_,_,rfl,SqL.of gs,fun c hc=>?_⟩;rw [hcut];have g1:=qw hc (.lst (intL (t.goal.take t.heads.length)));have ec:upd H c (.lst (intL (t.goal.take t.heads.length))) c=some (.lst (intL (t.goal.take t.heads.length))):=qj;have lt:(t.goal.take t.heads.length).length=t.heads.length:=by rw [Au]; omega
 generalize upd H c (.lst (intL (t.goal.take t.heads.length)))=H1 at *;refine ⟨c,rfl,⟨_,SqL.of ec⟩,j3 (n:=t.heads.length) (fun k ys H'=>H'=H1∧ys=(((t.goal.take t.heads.length).take k).map fun z=>decide (0≤z)).map V.bl) ⟨rfl,rfl⟩ (zw (by omega)) ?_ ?_ ?_⟩
 case refine_2 =>
  rintro k ys H' hk ⟨rfl,_⟩;exact ⟨_,_,SqL.of ec,y8 (A7 (by omega))⟩
 case refine_3 =>
  rintro k m' ys H' c1 v H2 hk ⟨rfl,rfl⟩ ⟨rfl,y1⟩ nx _;obtain ⟨n,hn,rfl⟩:=wv (y1 _ (SqL.of ec));refine Or.inl ⟨rfl,_,rfl,_,_,rfl,rfl,nx _ _ ⟨rfl,?_⟩⟩;rw [yv hn,Ax,Ax];rfl
 rintro ys H' ⟨rfl,rfl⟩;rw [A8 (i:=t.heads.length) (l:=t.goal.take t.heads.length) (by omega)];refine ⟨⟨_,SqL.of ec,by rw [Av]; omega⟩,fun lb hlb=>?_⟩;have g2:=qw hlb (.lst (((t.goal.take t.heads.length).map fun z=>decide (0≤z)).map V.bl));refine ⟨lb,_,rfl,SqL.of qj,_,rfl,?_⟩;have g12:=g1.trans g2;have tab2:=tab.mono g12;generalize upd H' lb (.lst (((t.goal.take t.heads.length).map fun z=>decide (0≤z)).map V.bl))=H2 at *;have bools:((t.goal.take t.heads.length).map fun z=>decide (0≤z)).all id=true→∀ j,j<t.heads.length→0≤t.goal.getD j 0:=by
  intro al j hj;have hj2:j<t.goal.length:=by omega
  have mem:t.goal[j]∈t.goal.take t.heads.length:=Af (by rw [A5 hj]; exact A7 hj2);have:=List.all_eq_true.mp al _ (List.mem_map_of_mem mem);rw [A1,A7 hj2];exact of_decide_eq_true this
 generalize ((t.goal.take t.heads.length).map fun z=>decide (0≤z)).all id=al at *
 cases al
 ·refine iteF ?_
  refine ⟨_,rfl,B.p,_,B.dx,_,_,rfl,tab2.ins,T.Czg,T.nzl,rfl,B.ah,rfl,⟨_,SqL.of tab2.heads⟩,j3 (n:=t.heads.length) (fun k ys H'=>H'=H2∧ys=intL (List.replicate k t.bot)) ⟨rfl,rfl⟩ (zw (by omega)) ?_ ?_ ?_⟩
  case refine_2 =>
   rintro k ys H' hk ⟨rfl,_⟩;exact ⟨_,_,SqL.of tab2.heads,j7 (A7 hk)⟩
  case refine_3 =>
   rintro k m' ys H' c1 v H3 hk ⟨rfl,rfl⟩ ⟨rfl,y1⟩ nx _;refine Or.inl ⟨rfl,_,rfl,B.p,_,B.dx,_,_,rfl,tab2.ins,T.Czg,T.nzh,rfl,nx _ _ ⟨rfl,?_⟩⟩;rw [List.replicate_succ',intL,intL,Ax];rfl
  rintro ys H' ⟨rfl,rfl⟩;refine ⟨⟨_,SqL.of tab2.heads,by rw [Av]; omega⟩,fun lb hlb=>?_⟩;have g3:=qw hlb (.lst (intL (List.replicate t.heads.length t.bot)));have e3:upd H' lb (.lst (intL (List.replicate t.heads.length t.bot))) lb=some (.lst (intL (List.replicate t.heads.length t.bot))):=qj;have tab3:=tab2.mono g3;generalize upd H' lb (.lst (intL (List.replicate t.heads.length t.bot)))=H3 at *;refine ⟨by decide,fun lz hlz=>?_⟩;have g4:=qw hlz (.lst [V.int 0]);have e4:upd H3 lz (.lst [V.int 0]) lz=some (.lst [V.int 0]):=qj;have e34:=g4 _ _ e3;have tab4:=tab3.mono g4;generalize upd H3 lz (.lst [V.int 0])=H4 at *;refine ⟨lb,lz,_,_,rfl,rfl,e34,e4,zw (by rw [Av,Ad]; omega),fun fr hfr=>?_⟩;have eg:intL (List.replicate t.heads.length t.bot)++[V.int 0]=intL (List.replicate t.heads.length t.bot++[0]):=by
   rw [intL,intL,Ax];rfl
  rw [eg];have g5:=qw hfr (.lst (intL (List.replicate t.heads.length t.bot++[0])));have e5:upd H4 fr (.lst (intL (List.replicate t.heads.length t.bot++[0]))) fr=some (.lst (intL (List.replicate t.heads.length t.bot++[0]))):=qj;have tab5:=tab4.mono g5;have nfr:=tab4.apart hfr;generalize upd H4 fr (.lst (intL (List.replicate t.heads.length t.bot++[0])))=H5 at *;refine ⟨_,rfl,B.p,_,B.dx,_,rfl,tab5.ins,T.Czg,T.nzk,few_tab,?_⟩;rw [put_guide (l:=List.replicate t.heads.length t.bot++[0])];have tab6:=tab5.putP (t':={ t with guide:=List.replicate t.heads.length t.bot++[0] }) rfl rfl rfl tab5.goal ⟨fr,rfl,e5,nfr⟩;exact q { B with au:=fr } _ _ rfl rfl rfl rfl ((g12.trans (g3.trans (g4.trans g5))).but.trans (wQ (.inl rfl))) (.inr rfl) tab6
 ·refine iteT ?_
  obtain ⟨gb,egb,gs2,_⟩:=tab2.goal
  cases egb
  refine ⟨_,rfl,B.p,_,B.dx,_,_,rfl,tab2.ins,T.Czg,T.nzj,rfl,B.ag,_,rfl,.inl (SqL.of gs2),fun fr hfr=>?_⟩;have g3:=qw hfr (.lst (intL t.goal));have e3:upd H2 fr (.lst (intL t.goal)) fr=some (.lst (intL t.goal)):=qj;have tab3:=tab2.mono g3;have nfr:=tab2.apart hfr;generalize upd H2 fr (.lst (intL t.goal))=H3 at *;refine ⟨_,rfl,B.p,_,B.dx,_,rfl,tab3.ins,T.Czg,T.nzk,few_tab,?_⟩;rw [put_guide (l:=t.goal)];have tab4:=tab3.putP (t':={ t with guide:=t.goal }) rfl rfl rfl tab3.goal ⟨fr,rfl,e3,nfr⟩;exact q { B with au:=fr } _ _ rfl rfl rfl rfl ((g12.trans g3).but.trans (wQ (.inl rfl))) (.inl ⟨rfl,bools rfl⟩) tab4
structure Set0 (F:Vecs) (m:Nat) (G Gd:Nat→Int) (act:List Nat) (M Kb:Nat) (S:Sit):Prop where
 I:SitI F m G Gd act S
 B:Bnd0 F m G M
 bg:∀ c,(Gd c).natAbs≤(m+1)*M
 h1:S.t.heads.length≤100
 h2:S.t.names.length≤400
 se:Seat F m S
 kb:∀ x,(x∈S.t.names∨x∈yj m S.Hd)→x<Kb
 ha:act.length≤m
theorem Set0.sz {F:Vecs} {m:Nat} {G Gd:Nat→Int} {act:List Nat} {M Kb:Nat} {S:Sit} (h:Set0 F m G Gd act M Kb S):TabSz S.t:=tabSz_of h.I (h.B.to h.bg) h.h1 h.h2
structure Kin0 (m:Nat) (act:List Nat) (S S':Sit):Prop where
 kin:Kin m act S S'
 rooms:S'.t.rooms=S.t.rooms
 ln:S'.t.names.length=S.t.names.length
 lh:S'.t.heads.length=S.t.heads.length
structure SameA (A A':TA):Prop where
 p:A'.p=A.p
 an:A'.an=A.an
 ah:A'.ah=A.ah
 dx:A'.dx=A.dx
def spMend (C:Addr):Sp:=fun vs H Q _=>∃ (A:TA) (F:Vecs) (m:Nat) (G Gd:Nat→Int) (act:List Nat) (M Kb:Nat) (S:Sit),vs=[.ref A.p]∧TabAt C H A S.t∧Set0 F m G Gd act M Kb S∧∀ A' H' S' Gd' v,SameA A A'→But (TabS A) H H'→TabAt C H' A' S'.t→Set0 F m G Gd' act M Kb S'→Kin0 m act S S'→MendEnd F m S' v→Q v H'
theorem okyo (T:Txt K mg a):FnOk P w K mg base CX0 5 a.fyo a.dyo ["tableau"] (spMend a.czg):=by
 refine T.Fyo.ok scyo (fun vs H Q E h=>?_) (fun cdv A outer s H vs Q E hr h=>?_)
 ·obtain ⟨_,_,_,_,_,_,_,_,_,rfl,_⟩:=h
  rfl
 obtain ⟨B,F,m,G,Gd,act,M,Kb,S,rfl,tab,set0,q⟩:=h;refine ⟨_,(qJ (QJ (qK (okyw T) (hr.mono (by decide)) rfl T.myw T.Fyw.kp T.byw .nil pass0 (pa_c (pv 0) qk)))
   (qJ (zq (i:=1) scyo.nd rfl (Or.inl rfl) (qK (W8 T) (hr.mono (by decide)) rfl T.mzy T.Fzy.kp T.bzy .nil pass0 (pa_c (pv 0) (pa_c (YJ (v:=.ref a.fyp) rfl T.myp rfl) qk))))
   (qX (zQ (Vx (zj V1 (pv 1) kY (zv _)) kY (pe_ix qY (pv 1) qz (fun _ _=>rfl))))))),?_⟩
 refine ⟨_,rfl,B,S.t,rfl,tab,set0.sz,fun B1 H1 g b1 b2 b3 b4 but1 hg tab1=>?_⟩;obtain ⟨z,J,zb,df⟩:=guide_new set0.I set0.B set0.ha hg;have j0:JM F m G z act Kb (wj S g) (Kb^(wj S g).t.names.length) (wj S g):=⟨⟨0,fun _=>wj S g,fun k hk=>absurd hk (Az _),rfl,rfl,rfl⟩,J,df,set0.se,Kin.refl _,rfl,rfl,rfl⟩;have on:∀ {k S'},JM F m G z act Kb (wj S g) k S'→Set0 F m G z act M Kb S':=fun {k S'} j=>⟨j.I,set0.B,zb,by rw [j.lh]; exact set0.h1,by rw [j.ln]; exact set0.h2,j.se,fun x hx=>set0.kb x ((j.kin.uni x).mpr hx),set0.ha⟩
 refine ⟨_,rfl,B1,wj S g,_,JM F m G z act Kb (wj S g),by rw [b1]; rfl,tab1,j0,fun k S' j=>(on j).sz,fun k S' ss s j out best bp=>JM.next J set0.kb j (on j).sz out best bp,fun B2 H2 S' k' c1 c2 c3 c4 but2 tab2 j=>?_⟩;have but2':But (TabS B) H1 H2:=fun b o n e=>but2 b o (fun z=>n (by unfold TabS at z ⊢; rw [b1,b2,b3] at z; exact z)) e
 have fin:∀ v,MendEnd F m S' v→Q v H2:=fun v e=>q B2 H2 S' z v ⟨c1.trans b1,c2.trans b2,c3.trans b3,c4.trans b4⟩ (but1.trans but2') tab2 (on j) ⟨⟨j.kin.uni,j.kin.pin⟩,j.rooms,j.ln,j.lh⟩ e
 refine ⟨fun out=>?_,fun p ss s out best no sp=>?_⟩
 ·refine ⟨_,rfl,rfl,_,rfl,?_⟩
  exact iteP rfl (fin _ (mend_done j.I out))
 ·refine ⟨_,rfl,rfl,_,rfl,?_⟩
  refine iteN (fun z=>by cases z) ⟨_,rfl,p,_,_,_,rfl,rfl,sp,rfl,?_⟩;exact fin _ (mend_stuck j.I (on j).sz out best.1 no)
def spClimb (C:Addr):Sp:=fun vs H Q _=>∃ (A:TA) (F:Vecs) (m:Nat) (G Gd:Nat→Int) (act:List Nat) (M Kb:Nat) (S:Sit),vs=[.ref A.p]∧TabAt C H A S.t∧Set0 F m G Gd act M Kb S∧(∀ y∈S.t.names,y<S.t.rooms→0≤vG F m S.Hd S.e (F y))∧∀ A' H' S' v,SameA A A'→But (TabS A) H H'→TabAt C H' A' S'.t→Set0 F m G Gd act M Kb S'→Kin0 m act S S'→(∀ y∈S'.t.names,y<S'.t.rooms→0≤vG F m S'.Hd S'.e (F y))→ClimbEnd F m G S' v→Q v H'
theorem okzu (T:Txt K mg a):FnOk P w K mg base CX0 5 a.fzu a.dzu ["tableau"] (spClimb a.czg):=by
 refine T.Fzu.ok sczu (fun vs H Q E h=>?_) (fun cdv A outer s H vs Q E hr h=>?_)
 ·obtain ⟨_,_,_,_,_,_,_,_,_,rfl,_⟩:=h
  rfl
 obtain ⟨B,F,m,G,Gd,act,M,Kb,S,rfl,tab,set0,fe,q⟩:=h;refine ⟨_,(qJ (zq (i:=1) sczu.nd rfl (Or.inl rfl) (qK (Vv T) (hr.mono (by decide)) rfl T.mzy T.Fzy.kp T.bzy .nil pass0 (pa_c (pv 0) (pa_c (YJ (v:=.ref a.fzv) rfl T.mzv rfl) qk))))
   (qX (zQ (Vx (zj V1 (pv 1) kY (zv _)) kY (pe_ix qY (pv 1) qz (fun _ _=>rfl)))))),?_⟩
 have j0:JC F m G Gd act Kb S (Kb^S.t.heads.length) S:=⟨⟨0,fun _=>S,fun k hk=>absurd hk (Az _),rfl,rfl,rfl⟩,set0.I,fe,set0.se,Kin.refl _,rfl,rfl,rfl⟩;have on:∀ {k S'},JC F m G Gd act Kb S k S'→Set0 F m G Gd act M Kb S':=fun {k S'} j=>⟨j.I,set0.B,set0.bg,by rw [j.lh]; exact set0.h1,by rw [j.ln]; exact set0.h2,j.se,fun x hx=>set0.kb x ((j.kin.uni x).mpr hx),set0.ha⟩
 refine ⟨_,rfl,B,S,_,JC F m G Gd act Kb S,rfl,tab,j0,fun k S' j=>(on j).sz,fun k S' ss s j out best bp=>JC.next set0.I set0.kb j (on j).sz out best bp,fun B2 H2 S' k' c1 c2 c3 c4 but2 tab2 j=>?_⟩;have fin:∀ v,ClimbEnd F m G S' v→Q v H2:=fun v e=>q B2 H2 S' v ⟨c1,c2,c3,c4⟩ but2 tab2 (on j) ⟨j.kin,j.rooms,j.ln,j.lh⟩ j.fe e
 refine ⟨fun out=>?_,fun p ss s out best no sp=>?_⟩
 ·refine ⟨_,rfl,rfl,_,rfl,?_⟩
  exact iteP rfl (fin _ (climb_done j.I out))
 ·refine ⟨_,rfl,rfl,_,rfl,?_⟩
  refine iteN (fun z=>by cases z) ⟨_,rfl,p,_,_,_,rfl,rfl,sp,rfl,?_⟩;exact fin _ (climb_stuck j.I (on j).sz out best.1 no)
def spFit (K:Bc) (C:Addr):Sp:=fun vs H Q _=>∃ (A:TA) (t:Tab) (i c:Nat) (wa:Addr) (w:List Nat),vs=[.ref A.p,.int (i:Int),.int (c:Int),.ref wa]∧TabAt C H A t∧TabSz t∧i<t.names.length∧c<t.heads.length∧SqL K H wa (natL w)∧∀ k:Int,Q (.int k) H
theorem okzx (T:Txt K mg a):FnOk P w K mg base CX0 1 a.fzx a.dzx ["tableau", "at", "column", "wanted"] (spFit K a.czg):=by
 refine T.Fzx.ok sczx (fun vs H Q E h=>?_) (fun cdv A outer s H vs Q E hr h=>?_)
 ·obtain ⟨_,_,_,_,_,_,rfl,_⟩:=h
  rfl
 obtain ⟨B,t,i,c,wa,wl,rfl,tab,sz,hi,hc,hw,q⟩:=h;refine ⟨_,(qJ (ps_if (zj op_in_seq (pe_ix zK (zk (pv 0) rfl) (pv 1) (fun _ _=>rfl)) (pv 3) (by with_unfolding_all rfl))
    (qX (zQ qz))
    y4)
   (qX (zQ (Vx (zj op_lt (pe_op y9 (pe_ix zK (pe_ix zK (zk (pv 0) rfl) (pv 1) (fun _ _=>rfl)) (pv 2) (fun _ _=>rfl)) (pe_ix zK (zk (pv 0) rfl) (pv 2) (fun _ _=>rfl))) qz (zv _)) qz qz)))),?_⟩
 obtain ⟨x,hx⟩:=yz (l:=t.names) (i:=i) hi;obtain ⟨li,hli⟩:=yz (l:=t.lines) (i:=i) (by rw [sz.nl]; exact hi);obtain ⟨vl,hal,pl⟩:=tab.lines;have lv:=Paired.length pl;obtain ⟨vb,hvb⟩:=yz (l:=vl) (i:=i) (by rw [lv,sz.nl]; exact hi);obtain ⟨l2,hl2,bl,rfl,hbl,_⟩:=y7 pl hvb;rw [hli] at hl2
 cases hl2
 have ll:=sz.ll li (Af hli);obtain ⟨z,hz⟩:=yz (l:=li) (i:=c) (by rw [ll.1]; omega);obtain ⟨gb,egb,gs,_⟩:=tab.goal
 cases egb
 have lg:=sz.lg;obtain ⟨g,hg⟩:=yz (l:=t.goal) (i:=c) (by rw [lg.1]; omega);have fl:(natL wl).all flatV=true:=by
  refine List.all_eq_true.mpr fun v hv=>?_
  obtain ⟨n,_,rfl⟩:=List.mem_map.mp hv;rfl
 refine ⟨_,rfl,B.p,_,B.dx,_,_,rfl,tab.ins,T.Czg,T.nzo,rfl,_,rfl,B.an,_,_,_,rfl,rfl,SqL.of tab.names,atN (j7 hx),_,rfl,wa,_,rfl,.inl hw,rfl,fl,_,rfl,?_⟩;generalize (if false=true then !inV (V.int (x:Int)) (natL wl) else inV (V.int (x:Int)) (natL wl))=bb
 cases bb
 ·refine iteF ?_
  refine ⟨_,rfl,B.p,_,B.dx,_,_,rfl,tab.ins,T.Czg,T.nzn,rfl,_,rfl,B.al,_,_,_,rfl,rfl,SqL.of hal,atN hvb,_,rfl,bl,_,_,_,rfl,rfl,SqL.of hbl,atN (y8 hz),_,rfl,B.p,_,B.dx,_,_,rfl,tab.ins,T.Czg,T.nzj,rfl,_,rfl,B.ag,_,_,_,rfl,rfl,SqL.of gs,atN (y8 hg),_,_,rfl,rfl,mulOk (ll.2 _ (Af hz)) (lg.2 _ (Af hg)),_,_,rfl,rfl,_,rfl,?_⟩
  by_cases n:z*g<0
  ·exact iteP n (q _)
  ·exact iteN n (q _)
 ·exact iteT (q _)
section
variable {F:Vecs} {m:Nat} {G Gd:Nat→Int} {act:List Nat} {S:Sit}
def SeatJ (F:Vecs) (m:Nat) (S:Sit) (c:Nat):Prop:=∀ j h,c≤j→S.t.heads[j]?=some h→S.t.rooms≤h→∀ x∈S.t.names,x<S.t.rooms→gG F m S.Hd S.e (F x) h=0
theorem SeatJ.all (h:SeatJ F m S 0):Seat F m S:=fun y hy=>by
 obtain ⟨j,hj⟩:=Ag hy;exact h j y (Nat.zero_le _) hj
theorem SeatJ.none {n:Nat} (h:S.t.heads.length=n):SeatJ F m S n:=fun j y hj e=>by
 have:=(A3.mp e).1;omega
theorem seat_skip {c:Nat} (s:SeatJ F m S (c+1)) (h0:∀ h,S.t.heads[c]?=some h→∀ x∈S.t.names,x<S.t.rooms→gG F m S.Hd S.e (F x) h=0):SeatJ F m S c:=fun j h hj e hr=>by
 by_cases z:j=c
 ·rw [z] at e
  exact h0 h e
 ·exact s j h (by omega) e hr
theorem seat_XJ (T:SitI F m G Gd act S) {i c q x:Nat} (hi:S.t.names[i]?=some x) (hc:act[c]?=some q) (n0:gG F m S.Hd S.e (F x) (S.Hd q)≠0) (xr:x<S.t.rooms) (s:SeatJ F m S (c+1)):SeatJ F m (sitX F m act S i c q x) c:=by
 obtain ⟨T2,K,mn,mh,E⟩:=sit_X T hi hc n0;have hq:q<m:=T.lt q (Af hc);have xm:=Af hi;intro j h hj e hr y hy yr;have hr:S.t.rooms≤h:=hr;have yr:y<S.t.rooms:=yr
 by_cases z:j=c
 ·have e2:(S.t.heads.set c (S.t.names.getD i 0))[j]?=some h:=e
  rw [z,qZ hi,List.getElem?_set] at e2
  by_cases l:c<S.t.heads.length
  ·rw [if_pos rfl,if_pos l] at e2
   cases e2
   omega
  ·rw [if_pos rfl,if_neg l] at e2
   cases e2
 ·rcases (mh h).mp (Af e) with ⟨h1,h2⟩ | h1
  ·have e2:(S.t.heads.set c (S.t.names.getD i 0))[j]?=some h:=e
   rw [List.getElem?_set,if_neg (Ne.symm z)] at e2;have zx:=s j h (by omega) e2 hr x xm xr;have f:=(E (F y) (T.sF y)).2.2 h h1 h2;rw [f,zx,Rat.zero_mul]
   rcases (mn y).mp hy with ⟨y1,_⟩ | y1
   ·rw [s j h (by omega) e2 hr y y1 yr]
    grind
   ·obtain ⟨k,ka,ek⟩:=(YV T).mp h1
    rw [y1,← ek,g_other T hq (T.lt k ka) fun z=>h2 (by rw [← ek,z])];grind
  ·omega
end
def ButL (S:Addr→Prop) (H H':Hp):Prop:=∀ b o,¬ S b→H b=some o→noT o=true→H' b=some o
theorem But.toL {S:Addr→Prop} {H H':Hp} (g:But S H H'):ButL S H H':=fun b o n e _=>g b o n e
theorem _root_.L2.SameL.butL {S:Addr→Prop} {H H':Hp} (g:SameL H H'):ButL S H H':=fun b o _ e t=>g b o e t
theorem ButL.trans {S:Addr→Prop} {H H' H'':Hp} (a:ButL S H H') (b:ButL S H' H''):ButL S H H'':=fun c o n e t=>b c o n (a c o n e t) t
theorem ButL.seq {S:Addr→Prop} {H H':Hp} {p:Addr} {xs:List V} (g:ButL S H H') (n:¬ S p) (h:SqL K H p xs):SqL K H' p xs:=by
 rcases h with (h | ⟨o,h⟩) | h
 ·exact .inl (.inl (g _ _ n h rfl))
 ·exact .inl (.inr ⟨o,g _ _ n h rfl⟩)
 ·exact .inr h
theorem wq.monoL {H H':Hp} {A:TA} {v:V} {l:List Int} (h:wq H A v l) (g:SameL H H'):wq H' A v l:=by
 obtain ⟨b,e,s,n⟩:=h;exact ⟨b,e,g _ _ s rfl,n⟩
theorem TabAt.monoL {C:Addr} {H H':Hp} {A:TA} {t:Tab} (h:TabAt C H A t) (g:SameL H H'):TabAt C H' A t:=by
 obtain ⟨vl,e,p⟩:=h.lines;exact ⟨g _ _ h.ins rfl,⟨vl,g _ _ e rfl,Paired.mapP p fun _ _ k=>k.monoL g⟩,g _ _ h.names rfl,g _ _ h.heads rfl,h.goal.monoL g,h.guide.monoL g,h.n1,h.n2,h.n3⟩
theorem LamSt.but {C:Addr} {H H':Hp} {A:TA} {t:Tab} {tb:Addr} {pos:Pos} {q:Str} (h:LamSt tb pos q H) (tab:TabAt C H A t) (g:But (TabS A) H H'):LamSt tb pos q H':=by
 have nt:∀ {b:Addr} {o:HO},H b=some o→(∀ C dx fs,o≠.ins C dx fs)→(∀ l,o≠.lst l)→¬ TabS A b:=fun {b o} e n1 n2 z=>by
  rcases z with z | z | z
  ·rw [z,tab.ins] at e; cases e; exact n1 _ _ _ rfl
  ·rw [z,tab.names] at e; cases e; exact n2 _ rfl
  ·rw [z,tab.heads] at e; cases e; exact n2 _ rfl
 rcases h with h | ⟨c,h1,h2⟩
 ·exact .inl (g _ _ (nt h (fun _ _ _ z=>by cases z) fun _ z=>by cases z) h)
 ·exact .inr ⟨c,g _ _ (nt h1 (fun _ _ _ z=>by cases z) fun _ z=>by cases z) h1,g _ _ (nt h2 (fun _ _ _ z=>by cases z) fun _ z=>by cases z) h2⟩
theorem SameA.refl (A:TA):SameA A A:=⟨rfl,rfl,rfl,rfl⟩
theorem SameA.trans {A B C:TA} (a:SameA A B) (b:SameA B C):SameA A C:=⟨b.p.trans a.p,b.an.trans a.an,b.ah.trans a.ah,b.dx.trans a.dx⟩
theorem SameA.tabS {A B:TA} (a:SameA A B) {b:Addr}:TabS B b↔TabS A b:=by unfold TabS; rw [a.p,a.an,a.ah]
theorem Kin0.refl {m:Nat} {act:List Nat} (S:Sit):Kin0 m act S S:=⟨Kin.refl _,rfl,rfl,rfl⟩
theorem Kin0.trans {m:Nat} {act:List Nat} {S S' S'':Sit} (a:Kin0 m act S S') (b:Kin0 m act S' S''):Kin0 m act S S'':=⟨a.kin.trans b.kin,b.rooms.trans a.rooms,b.ln.trans a.ln,b.lh.trans a.lh⟩
structure Set1 (F:Vecs) (m:Nat) (G Gd:Nat→Int) (act:List Nat) (M Kb:Nat) (S:Sit):Prop where
 I:SitI F m G Gd act S
 B:Bnd0 F m G M
 bg:∀ c,(Gd c).natAbs≤(m+1)*M
 h1:S.t.heads.length≤100
 h2:S.t.names.length≤400
 kb:∀ x,(x∈S.t.names∨x∈yj m S.Hd)→x<Kb
 ha:act.length≤m
theorem Set1.sz {F:Vecs} {m:Nat} {G Gd:Nat→Int} {act:List Nat} {M Kb:Nat} {S:Sit} (h:Set1 F m G Gd act M Kb S):TabSz S.t:=tabSz_of h.I (h.B.to h.bg) h.h1 h.h2
def Yw:Pos:={ line:=112,col:=42,endLine:=112,endCol:=89 }
def lamQ:Str:=(PyProof.Rows.envOfC "seat_variables" (qQ v5) 0 0 .none).qual++Str.ofString "<lambda>"
def spSeat (K:Bc) (C tb:Addr):Sp:=fun vs H Q _=>∃ (A:TA) (F:Vecs) (m:Nat) (G Gd:Nat→Int) (act:List Nat) (M Kb:Nat) (S:Sit) (wa:Addr) (w:List Nat),vs=[.ref A.p,.ref wa]∧TabAt C H A S.t∧Set1 F m G Gd act M Kb S∧LamSt tb Yw lamQ H∧SqL K H wa (natL w)∧¬ TabS A wa∧∀ A' H' S',SameA A A'→ButL (TabS A) H H'→TabAt C H' A' S'.t→Set0 F m G Gd act M Kb S'→Kin0 m act S S'→LamSt tb Yw lamQ H'→Q .non H'
theorem JZ (T:Txt K mg a) (B:BMain mg base):FnOk P w K mg base CX0 4 a.fyv a.dyv ["tableau", "wanted"] (spSeat K a.czg a.tb_lam):=by
 refine T.Fyv.ok Zq (fun vs H Q E h=>?_) (fun cdv hcd A outer s H vs Q E hr h=>?_)
 ·obtain ⟨_,_,_,_,_,_,_,_,_,_,_,rfl,_⟩:=h
  rfl
 obtain ⟨D,F,m,G,Gd,act,M,Kb,S,wa,wl,rfl,tab,set1,lst,hw,nw,q⟩:=h;refine ⟨_,(qX (Q4 PassesOwn.never rfl (pi_range3 rfl T.m_range (pa_c (pe_op Yk (zX (yV) rfl T.m_len boot_len (pa_c (zk (pv 0) rfl) qk)) qz) (pa_c (pe_un wZ qz) (pa_c (pe_un wZ qz) qk)))) (qW (i:=2) Zq.nd rfl (Or.inr rfl))
    (qJ (wW (i:=3) Zq.nd rfl (Or.inl rfl) (N:=["at", "column", "tableau"]) (ix:=[none,some 2,some 0]) ⟨rfl,rfl,rfl,rfl,⟨rfl,⟨rfl,trivial⟩⟩,rfl,⟨⟨rfl,Or.inr (Or.inl rfl),jj rfl,rfl,Or.inl rfl⟩,⟨⟨rfl,Or.inr (Or.inl rfl),jj rfl,rfl,Or.inl rfl⟩,trivial⟩⟩⟩ rfl (yW (Vj (pv 0) T.Czg T.tzp (xQ T) (hr.mono (by decide)) T.bzp .nil pass0)) (fun _=>(qW (i:=0) (show (["at", "column", "tableau"]:List Str).Nodup by decide +kernel) rfl (Or.inl rfl))) (fun _ σ=>jQ rfl σ) (fun _=>(pif_one (zj op_ne (pe_ix zK (pe_ix zK (zk (pv 2) rfl) (pv 0) (fun _ _=>rfl)) (pv 1) (fun _ _=>rfl)) qz (zv _)))) (fun _=>(pv 0)))
   (qX (ps_if (zj op_gt (zX (yV) rfl T.m_len boot_len (pa_c (pv 3) qk)) qz (zv _))
    (qX (QJ (ZY (pv 0) T.Czg T.tzi (Qj T) (hr.mono (by decide)) T.bzi .nil pass0 (pa_c (pe_maxK (y := "at") (N:=["tableau", "column", "wanted"]) (ix:=[some 0,some 2,some 1]) ⟨rfl,rfl,rfl,rfl,rfl,⟨rfl,⟨rfl,⟨rfl,trivial⟩⟩⟩,rfl,rfl,⟨⟨rfl,Or.inr (Or.inl rfl),jj rfl,rfl,Or.inr rfl⟩,⟨⟨rfl,Or.inr (Or.inl rfl),jj rfl,rfl,Or.inr rfl⟩,⟨⟨rfl,Or.inr (Or.inl rfl),jj rfl,rfl,Or.inr rfl⟩,trivial⟩⟩⟩⟩ rfl hr rfl T.m_max boot_max (pv 3) (pe_lam hcd T.Fyv.hd B) (fun _ _ _ _=>(qK (okzx T) (hr.lam (by decide)) rfl T.mzx T.Fzx.kp T.bzx .nil pass0 (pa_c (pv 1) (pa_c (pv 0) (pa_c (pv 2) (pa_c (pv 3) qk))))))) (pa_c (pv 2) qk)) (hst:=qq rfl _ _) (hpl:=qy rfl))))
    y4))))),?_⟩
 have hd:=set1.h1;have nh:(natL S.t.heads).length=S.t.heads.length:=Av ..;refine ⟨_,rfl,D.p,_,D.dx,_,_,rfl,tab.ins,T.Czg,T.nzl,rfl,D.ah,_,rfl,.inl (SqL.of tab.heads),_,_,rfl,rfl,_,rfl,_,rfl,(natL S.t.heads).length,rfl,by rw [nh]; omega,Z0 (n:=S.t.heads.length) (fun k σ H'=>∃ (D':TA) (S':Sit) (u2 u3:Option V),σ=[some (.ref D.p),some (.ref wa),u2,u3]∧SameA D D'∧ButL (TabS D) H H'∧TabAt a.czg H' D' S'.t∧SitI F m G Gd act S'∧Kin0 m act S S'∧SeatJ F m S' (S.t.heads.length - k)∧LamSt a.tb_lam Yw lamQ H')
  ⟨D,S,_,_,rfl,SameA.refl _,(Same.refl H).but.toL,tab,set1.I,Kin0.refl _,SeatJ.none (by omega),lst⟩ ?_ ?_ ?_⟩
 ·rintro σ H' ⟨D',S',u2,u3,rfl,sa,bl,tb,I,ki,sj,ls⟩
  rw [Nat.sub_self] at sj;refine ⟨by rw [nh]; exact Nat.le_refl _,q D' H' S' sa bl tb ?_ ki ls⟩;exact ⟨I,set1.B,set1.bg,by rw [ki.lh]; exact set1.h1,by rw [ki.ln]; exact set1.h2,sj.all,fun x hx=>set1.kb x ((ki.kin.uni x).mpr hx),set1.ha⟩
 ·rintro k σ H' hk _
  show k<_;rw [nh];exact hk
 ·rintro k σ H' x H2 hk ⟨D',S',u2,u3,rfl,sa,bl,tb,I,ki,sj,ls⟩ ⟨rfl,rfl⟩
  obtain ⟨c,ec⟩:∃ c:Nat,S.t.heads.length - k=c+1:=⟨S.t.heads.length - k - 1,by omega⟩;have ex:((natL S.t.heads).length:Int) - 1 - (k:Int)=(c:Int):=by rw [nh]; omega
  rw [ex];rw [ec] at sj;have ec2:S.t.heads.length - (k+1)=c:=by omega
  have s1:Set1 F m G Gd act M Kb S':=⟨I,set1.B,set1.bg,by rw [ki.lh]; exact set1.h1,by rw [ki.ln]; exact set1.h2,fun x hx=>set1.kb x ((ki.kin.uni x).mpr hx),set1.ha⟩;have sz:=s1.sz;have cl:c<S'.t.heads.length:=by rw [ki.lh]; omega
  have n4:=s1.h2;rw [v3];refine ⟨_,rfl,D.p,D.dx,_,rfl,by rw [← sa.p,← sa.dx]; exact tb.ins,rfl,D',S'.t,by rw [sa.p]; rfl,tb,n4,fun lr H3 hlr g3 er=>?_⟩;have tb3:=tb.mono g3;have ls3:=ls.mono g3;obtain ⟨vl,hal,pl⟩:=tb3.lines;refine ⟨lr,rfl,⟨_,SqL.of er⟩,j3 (n:=(j9 S'.t.names S'.t.rooms).length) (fun k ys H'=>H'=H3∧ys=natL (((j9 S'.t.names S'.t.rooms).take k).filter fun i=>decide ((S'.t.lines.getD i []).getD c 0≠0))) ⟨rfl,rfl⟩ (zw (by have:=roomIx_len S'.t.names S'.t.rooms; omega)) ?_ ?_ ?_⟩
  case refine_2 =>
   rintro k ys H' hk ⟨rfl,_⟩;exact ⟨_,_,SqL.of er,j7 (A7 hk)⟩
  case refine_3 =>
   rintro k m' ys H' c1 v H4 hk ⟨rfl,rfl⟩ ⟨rfl,y1⟩ nx nx2;obtain ⟨i,hi,rfl⟩:=Y0 (y1 _ (SqL.of er));obtain ⟨x,li,bl,h1,h2,h3,h4,h5,h6,h7,h8⟩:=Vz tb3 sz hal (Af hi);obtain ⟨z,hz⟩:=yz (l:=li) (i:=c) (by omega);have ex:((j9 S'.t.names S'.t.rooms).take (k+1)).filter (fun i=>decide ((S'.t.lines.getD i []).getD c 0≠0))=((j9 S'.t.names S'.t.rooms).take k).filter (fun i=>decide ((S'.t.lines.getD i []).getD c 0≠0))++if z≠0 then [i] else []:=by
    rw [yv hi,List.filter_append]
    congr 1
    by_cases c:z≠0
    ·rw [if_pos c,List.filter_cons_of_pos (by rw [h4,qZ hz]; exact decide_eq_true c)]; rfl
    ·rw [if_neg c,List.filter_cons_of_neg (by rw [h4,qZ hz]; simpa using c)]; rfl
   refine ⟨_,rfl,D.p,_,D.dx,_,_,rfl,by rw [← sa.p,← sa.dx]; exact tb3.ins,T.Czg,T.nzn,rfl,_,rfl,D'.al,_,_,_,rfl,rfl,SqL.of hal,atN h5,_,rfl,bl,_,_,_,rfl,rfl,SqL.of h6,atN (y8 hz),rfl,_,rfl,?_⟩
   by_cases z0:z≠0
   ·refine Or.inl ⟨?_,_,rfl,nx _ _ ⟨rfl,?_⟩⟩
    ·rw [dec_int]; simpa using z0
    ·rw [ex,if_pos z0]
     unfold natL;rw [Ax];rfl
   ·refine Or.inr ⟨?_,nx2 _ ⟨rfl,?_⟩⟩
    ·rw [dec_int]; simpa using z0
    ·rw [ex,if_neg z0,List.append_nil]
  rintro ys H' ⟨rfl,rfl⟩;rw [List.take_length];refine ⟨⟨_,SqL.of er,by rw [Av]; exact Nat.le_refl _⟩,fun la hla=>?_⟩;have mem:∀ i,i∈(j9 S'.t.names S'.t.rooms).filter (fun i=>decide ((S'.t.lines.getD i []).getD c 0≠0))↔i∈j9 S'.t.names S'.t.rooms∧(S'.t.lines.getD i []).getD c 0≠0:=fun i=>by rw [List.mem_filter,decide_eq_true_iff]
  generalize (j9 S'.t.names S'.t.rooms).filter (fun i=>decide ((S'.t.lines.getD i []).getD c 0≠0))=ats at *;have g4:=qw hla (.lst (natL ats));have ea:upd H' la (.lst (natL ats)) la=some (.lst (natL ats)):=qj;have tb4:=tb3.mono g4;have ls4:=ls3.mono g4;have bl4:=bl.trans (g3.trans g4).but.toL;generalize upd H' la (.lst (natL ats))=H4 at *;refine ⟨_,rfl,la,_,rfl,.inl (SqL.of ea),_,_,rfl,rfl,_,rfl,?_⟩;have lea:(natL ats).length=ats.length:=Av ..
  by_cases c0:(0:Int)<((natL ats).length:Int)
  ·refine iteP c0 ?_
   refine ⟨_,rfl,D.p,D.dx,_,rfl,by rw [← sa.p,← sa.dx]; exact tb4.ins,rfl,_,rfl,ls4,fun fl cc H5 g5 ls5 hcc hfl hF=>?_⟩;have tb5:=tb4.monoL g5;have ea5:=g5 _ _ ea rfl;have bl5:=bl4.trans g5.butL;refine ⟨la,fl,cc,_,rfl,rfl,SqL.of ea5,fun z=>by rw [z] at c0; exact absurd c0 (by decide),hF,hcc,fun f' c' s' v hv=>?_,fun v hv=>?_⟩
   ·obtain ⟨i,hi,rfl⟩:=List.mem_map.mp hv
    obtain ⟨hr',_⟩:=(mem i).mp hi;obtain ⟨x,hx,xr⟩:=wK.mp hr';refine ⟨_,rfl,_,rfl,_,rfl,_,rfl,D',S'.t,i,c,wa,wl,by rw [sa.p]; rfl,tb5,sz,(A3.mp hx).1,cl,bl5.seq nw hw,fun k=>⟨rfl,k,rfl⟩⟩
   ·obtain ⟨i,hi,rfl⟩:=List.mem_map.mp hv
    obtain ⟨hr',n0⟩:=(mem i).mp hi;obtain ⟨x,hx,xr⟩:=wK.mp hr';have hl:=line_is I hx;obtain ⟨h,hh⟩:=yz (l:=S'.t.heads) (i:=c) cl;obtain ⟨q2,hq,eq,qm⟩:=act_at I hh;rw [qZ hl] at n0;have n1:gG F m S'.Hd S'.e (F x) (S'.Hd q2)≠0:=fun z=>n0 ((J0 (botR I) (Yv I hx hl hh)).mpr (by rw [← eq]; exact z))
    obtain ⟨T2,K2,_,_,_⟩:=sit_X I hx hq n1;refine ⟨_,rfl,D',S'.t,i,c,by rw [sa.p]; rfl,tb5,sz,(A3.mp hx).1,cl,fun D2 H6 c1 c2 c3 c4 but tb6=>?_⟩;rw [ec2];refine ⟨D2,sitX F m act S' i c q2 x,_,_,rfl,sa.trans ⟨c1,c2,c3,c4⟩,bl5.trans fun b o n e t=>but b o (fun z=>n (sa.tabS.mp z)) e,tb6,T2,ki.trans ⟨K2,rfl,names_len _ _ _ _ _,heads_len _ _ _ _ _⟩,seat_XJ I hx hq n1 xr sj,LamSt.but (q:=lamQ) ls5 tb5 but⟩
  ·refine iteN c0 ?_
   rw [ec2];refine ⟨D',S',_,_,rfl,sa,bl4,tb4,I,ki,seat_skip sj fun h hh x hx xr=>?_,ls4⟩;obtain ⟨i,hi⟩:=Ag hx;have hl:=line_is I hi;have nm:i∉ats:=fun z=>by rw [List.eq_nil_of_length_eq_zero (by omega:ats.length=0)] at z; cases z
   have z0:(S'.t.lines.getD i []).getD c 0=0:=Classical.byContradiction fun z=>nm ((mem i).mpr ⟨wK.mpr ⟨x,hi,xr⟩,z⟩)
   rw [qZ hl] at z0;exact (J0 (botR I) (Yv I hi hl hh)).mp z0
def vecL (m:Nat) (l:List Int):Nat→Int:=fun c=>if c<m then -(l.getD c 0) else if c=m then l.getD m 0 else 0
def fam0 (lines:List (List Int)) (m:Nat):Vecs:=fun x=>if x<lines.length then vecL m (lines.getD x []) else if x<lines.length+m then unitV (x - lines.length) else fun _=>0
def sit0 (lines:List (List Int)) (goal:List Int):Sit:=⟨tab0 lines goal,fun k=>lines.length+k,1⟩
theorem ZQ (m:Nat) (l:List Int):SuppG m (vecL m l):=fun c hc=>by
 unfold vecL;rw [if_neg (by omega),if_neg (by omega)]
theorem vecL_line {m:Nat} {l:List Int} (h:l.length=m+1):lineG m (List.range m) (vecL m l)=l:=by
 unfold lineG vecL;rw [if_neg (Nat.lt_irrefl m),if_pos rfl]
 apply List.ext_getElem?
 intro j
 by_cases hj:j<m
 ·rw [A4 (by rw [Av,Ar]; exact hj),List.getElem?_map,List.getElem?_range hj,A7 (by omega)]
  show some (-(if j<m then -(l.getD j 0) else if j=m then l.getD m 0 else 0))=_;rw [if_pos hj,Int.neg_neg,qZ (A7 (by omega))]
 ·rw [A2 (by rw [Av,Ar]; omega),Av,Ar]
  by_cases e:j=m
  ·subst e
   have hj2:j<l.length:=by omega
   rw [Nat.sub_self];show some (l.getD j 0)=_;rw [qZ (A7 hj2),A7 hj2]
  ·rw [Ae (by show 1≤_; omega),Ae (by omega)]
theorem vecL_le {m M:Nat} {l:List Int} (h:∀ n∈l,n.natAbs≤M) (c:Nat):(vecL m l c).natAbs≤M:=by
 have g:∀ j,(l.getD j 0).natAbs≤M:=fun j=>by
  cases e:l[j]? with
  | none=>rw [A1,e]; exact Nat.zero_le _
  | some x=>rw [qZ e]; exact h x (Af e)
 unfold vecL
 by_cases h1:c<m
 ·rw [if_pos h1,Int.natAbs_neg]; exact g c
 ·rw [if_neg h1]
  by_cases h2:c=m
  ·rw [if_pos h2]; exact g m
  ·rw [if_neg h2]; exact Nat.zero_le _
theorem Zv (lines:List (List Int)) (m:Nat):∀ k,k<m→fam0 lines m (lines.length+k)=unitV k:=fun k hk=>by
 unfold fam0;rw [if_neg (by omega),if_pos (by omega),Nat.add_sub_cancel_left]
theorem VZ (lines:List (List Int)) (m:Nat) (x:Nat):SuppG m (fam0 lines m x):=fun c hc=>by
 unfold fam0
 by_cases h1:x<lines.length
 ·rw [if_pos h1]; exact ZQ _ _ c hc
 ·rw [if_neg h1]
  by_cases h2:x<lines.length+m
  ·rw [if_pos h2]
   unfold unitV;rw [if_neg (by omega)]
  ·rw [if_neg h2]
theorem fam0_le {lines:List (List Int)} {m M:Nat} (M1:1≤M) (h:∀ l∈lines,∀ n∈l,n.natAbs≤M) (x c:Nat):(fam0 lines m x c).natAbs≤M:=by
 unfold fam0
 by_cases h1:x<lines.length
 ·rw [if_pos h1,qZ (A7 h1)]
  exact vecL_le (h _ (At h1)) c
 ·rw [if_neg h1]
  by_cases h2:x<lines.length+m
  ·rw [if_pos h2]
   unfold unitV
   by_cases h3:c=x - lines.length
   ·rw [if_pos h3]; exact M1
   ·rw [if_neg h3]; exact Nat.zero_le _
  ·rw [if_neg h2]; exact Nat.zero_le _
theorem lineG_congr {m:Nat} {act:List Nat} {u v:Nat→Int} (h:∀ k∈act,u k=v k) (e:u m=v m):lineG m act u=lineG m act v:=by
 unfold lineG;rw [e,List.map_congr_left fun k hk=>by rw [h k hk]]
theorem sit0_I {lines:List (List Int)} {goal:List Int} {m:Nat} (hl:∀ l∈lines,l.length=m+1) (hg:goal.length=m+1):SitI (fam0 lines m) m (vecL m goal) (vecL m goal) (List.range m) (sit0 lines goal):=by
 have first:∀ {z:Nat→Int},SuppG m z→lineG m (List.range m) (nuG (fam0 lines m) m (fun k=>lines.length+k) 1 z)=lineG m (List.range m) z:=fun {z} s =>
  lineG_congr (fun k hk=>nu_first (Zv lines m) s (by have:=List.mem_range.mp hk; omega)) (nu_first (Zv lines m) s (by omega))
 have eg:lineG m (List.range m) (nuG (fam0 lines m) m (fun k=>lines.length+k) 1 (vecL m goal))=goal:=by rw [first (ZQ _ _),vecL_line hg]
 refine ⟨gho_first (Zv lines m),(bot_first (Zv lines m)).symm,fun k hk=>List.mem_range.mp hk,List.nodup_range,?_,?_,eg.symm,eg.symm,List.nodup_range,?_,VZ lines m,ZQ _ _,ZQ _ _⟩
 ·show (List.range (goal.length - 1)).map (lines.length+·)=_
  rw [hg];rfl
 ·show lines=(List.range lines.length).map _
  apply List.ext_getElem?
  intro j;rw [List.getElem?_map]
  by_cases hj:j<lines.length
  ·rw [List.getElem?_range hj,A7 hj]
   show _=some (lineG m (List.range m) (nuG (fam0 lines m) m (fun k=>lines.length+k) 1 (fam0 lines m j)));rw [first (VZ lines m j)];have:fam0 lines m j=vecL m lines[j]:=by
    unfold fam0;rw [if_pos hj,qZ (A7 hj)]
   rw [this,vecL_line (hl _ (At hj))]
  ·rw [Ae (by omega),Ae (by rw [Ar]; omega)]
   rfl
 ·intro x hx k hk
  have:x<lines.length:=List.mem_range.mp hx;show lines.length+k≠x;omega
theorem sit0_set {lines:List (List Int)} {goal:List Int} {m M:Nat} (hl:∀ l∈lines,l.length=m+1) (hg:goal.length=m+1) (M1:1≤M) (sl:∀ l∈lines,∀ n∈l,n.natAbs≤M) (sg:∀ n∈goal,n.natAbs≤M)
  (sm:facN (m+1)*((m+1)*M)^(m+1)<2^6700) (m100:m≤100) (l400:lines.length≤400):Set1 (fam0 lines m) m (vecL m goal) (vecL m goal) (List.range m) M (lines.length+m) (sit0 lines goal):=by
 refine ⟨sit0_I hl hg,⟨M1,fam0_le M1 sl,vecL_le sg,sm⟩,fun c=>Ba (vecL_le sg c) (A9 _ (by omega)),?_,?_,fun x hx=>?_,Nat.le_of_eq Ar⟩
 ·show ((List.range (goal.length - 1)).map (lines.length+·)).length≤100
  rw [Av,Ar];omega
 ·show (List.range lines.length).length≤400
  rw [Ar];exact l400
 ·rcases hx with hx | hx
  ·have:x<lines.length:=List.mem_range.mp hx
   omega
  ·obtain ⟨k,hk,e⟩:=yQ.mp hx
   have:lines.length+k=x:=e;omega
theorem shr_le {n:Int} {k:Nat}:(n/2^k).natAbs≤n.natAbs:=by
 have p:(0:Int)<2^k:=Int.pow_pos (by decide);have p1:(1:Int)≤2^k:=p
 rcases Int.le_total 0 n with h | h
 ·have a:=Int.ediv_nonneg h (Int.le_of_lt p)
  have b:=Int.ediv_le_self (2^k) h;omega
 ·have a:n/2^k≤0:=by
   have:=Int.ediv_le_ediv p h
   rwa [Int.zero_ediv] at this
  have b:n≤n/2^k:=(Int.le_ediv_iff_mul_le p).mpr (by
   have:=Int.mul_le_mul_of_nonpos_left h p1
   rwa [Int.mul_one] at this)
  omega
def spRough (K:Bc):Sp:=fun vs H Q _=>∃ (l:Addr) (ns:List Int),vs=[.ref l]∧SqL K H l (intL ns)∧ns≠[]∧ns.length≤400∧∀ l' ms H',H l'=none→Same H H'→H' l'=some (.lst (intL ms))→ms.length=ns.length→(∀ M,(∀ n∈ns,n.natAbs≤M)→∀ n∈ms,n.natAbs≤M)→Q (.ref l') H'
theorem okyu (T:Txt K mg a):FnOk P w K mg base CX0 1 a.fyu a.dyu ["line"] (spRough K):=by
 refine T.Fyu.ok scyu (fun vs H Q E h=>?_) (fun cdv A outer s H vs Q E hr h=>?_)
 ·obtain ⟨_,_,rfl,_⟩:=h
  rfl
 obtain ⟨l,ns,rfl,hl,ne,l400,q⟩:=h;refine ⟨_,(qJ (zq (i:=1) scyu.nd rfl (Or.inr rfl) (pe_op Yk (zX (call_max_ints rfl) rfl T.m_max boot_max (pa_c (vJ (N:=["number"]) (ix:=[none]) ⟨rfl,rfl,rfl,rfl,trivial,rfl,trivial⟩ rfl (yW (pv 0)) (fun _=>(qW (i:=0) (show (["number"]:List Str).Nodup by decide +kernel) rfl (Or.inl rfl))) (fun _ σ=>jQ rfl σ) (fun _=>yy) (fun _=>(pe_bits (pv 0)))) qk)) (YJ (v:=.int 64) rfl T.mzf ⟨_,rfl⟩)))
   (qX (zQ (Vx (zj op_gt (pv 1) qz (zv _)) (vJ (N:=["number", "spare"]) (ix:=[none,some 1]) ⟨rfl,rfl,rfl,rfl,⟨rfl,trivial⟩,rfl,⟨⟨rfl,Or.inr (Or.inl rfl),jj rfl,rfl,Or.inl rfl⟩,trivial⟩⟩ rfl (yW (pv 0)) (fun _=>(qW (i:=0) (show (["number", "spare"]:List Str).Nodup by decide +kernel) rfl (Or.inl rfl))) (fun _ σ=>jQ rfl σ) (fun _=>yy) (fun _=>(pe_op op_shr (pv 0) (pv 1)))) (xv (xj) rfl T.m_list boot_list (pa_c (pv 0) qk)))))),?_⟩
 refine ⟨_,rfl,l,rfl,⟨_,hl⟩,j3 (n:=ns.length) (fun k ys H'=>H'=H∧∃ bs:List Int,bs.length=k∧ys=intL bs) ⟨rfl,[],rfl,rfl⟩ (zw (by omega)) ?_ ?_ ?_⟩
 case refine_2 =>
  rintro k ys H' hk ⟨rfl,_⟩;exact ⟨_,_,hl,y8 (A7 hk)⟩
 case refine_3 =>
  rintro k m' ys H' c1 v H2 hk ⟨rfl,bs,lb,rfl⟩ ⟨rfl,y1⟩ nx _;obtain ⟨n,hn,rfl⟩:=wv (y1 _ hl);refine Or.inl ⟨rfl,_,rfl,n,rfl,?_⟩;intro b;refine nx _ _ ⟨rfl,bs++[(b:Int)],by rw [Ak,lb]; rfl,?_⟩;rw [intL,intL,Ax];rfl
 rintro ys H' ⟨rfl,bs,lb,rfl⟩;refine ⟨⟨_,hl,by rw [Av]; exact Nat.le_refl _⟩,fun lc hlc=>?_⟩;have g1:=qw hlc (.lst (intL bs));have hl1:=g1.seq hl;have nb:bs≠[]:=fun z=>by rw [z] at lb; exact ne (List.length_eq_zero_iff.mp lb.symm)
 refine ⟨lc,bs,rfl,SqL.of qj,nb,fun b hb=>?_⟩;generalize upd H' lc (.lst (intL bs))=H1 at *;refine ⟨_,_,rfl,rfl,?_⟩;dsimp only;rw [v3];refine ⟨_,rfl,_,_,rfl,rfl,_,rfl,?_⟩
 by_cases c0:0<b - 64
 ·refine iteP c0 ?_
  refine ⟨_,rfl,l,rfl,⟨_,hl1⟩,j3 (n:=ns.length) (fun k ys H'=>H'=H1∧ys=intL ((ns.take k).map fun n=>n/2^(b - 64).toNat)) ⟨rfl,rfl⟩ (zw (by omega)) ?_ ?_ ?_⟩
  case refine_2 =>
   rintro k ys H' hk ⟨rfl,_⟩;exact ⟨_,_,hl1,y8 (A7 hk)⟩
  case refine_3 =>
   rintro k m' ys H' c1 v H2 hk ⟨rfl,rfl⟩ ⟨rfl,y1⟩ nx _;obtain ⟨n,hn,rfl⟩:=wv (y1 _ hl1);refine Or.inl ⟨rfl,_,rfl,_,rfl,_,_,rfl,rfl,by omega,nx _ _ ⟨rfl,?_⟩⟩;rw [yv hn,intL,intL,Ax,Ax];rfl
  rintro ys H2 ⟨rfl,rfl⟩;rw [List.take_length];refine ⟨⟨_,hl1,by rw [Av]; exact Nat.le_refl _⟩,fun ld hld=>?_⟩;refine q ld _ _ (zW g1 hld) (g1.trans (qw hld _)) qj (Av ..) fun M hM n hn=>?_
  obtain ⟨z,hz,rfl⟩:=List.mem_map.mp hn;exact Ba shr_le (hM z hz)
 ·refine iteN c0 ?_
  refine ⟨_,rfl,l,_,rfl,.inl hl1,fun ld hld=>?_⟩;exact q ld ns _ (zW g1 hld) (g1.trans (qw hld _)) qj rfl fun M hM=>hM
theorem seq_to {t u:TS} {D:L2.Ends} {σ σ':St} {H H':Hp} (r:u D σ' H') (h:∀ N:St→Hp→Prop,N σ' H'→t { D with nx:=N } σ H):tSeq t u D σ H:=h _ r
def spLikely (K:Bc) (tb:Addr):Sp:=fun vs H Q _=>∃ (l g:Addr) (vl:List V) (lines:List (List Int)) (goal:List Int) (m M:Nat),vs=[.ref l,.ref g]∧SqL K H l vl∧Paired (fun v li=>∃ d,v=V.ref d∧SqL K H d (intL li)) vl lines∧SqL K H g (intL goal)∧(∀ li∈lines,li.length=m+1)∧goal.length=m+1∧m≤100∧lines.length≤400∧1≤M∧(∀ li∈lines,∀ n∈li,n.natAbs≤M)∧(∀ n∈goal,n.natAbs≤M)∧facN (m+1)*((m+1)*M)^(m+1)<2^6700∧LamSt tb Yw lamQ H∧∀ wa w H',SameL H H'→LamSt tb Yw lamQ H'→H wa=none→H' wa=some (.lst (natL w))→Q (.ref wa) H'
abbrev vx (P w K mg base) (a:Adr) (cdv A outer s H E):=(cxOf CX0 P w K mg base ["lines", "goal", "rough_lines", "rough_goal", "tableau"] "likely_heads" (qQ j5) a.fyn cdv A outer s H E).nox
theorem okyn (T:Txt K mg a) (B:BMain mg base):FnOk P w K mg base CX0 6 a.fyn a.dyn ["lines", "goal"] (spLikely K a.tb_lam):=by
 refine T.Fyn.ok QQ (fun vs H Q E h=>?_) (fun cdv A outer s H vs Q E hr h=>?_)
 ·obtain ⟨_,_,_,_,_,_,_,rfl,_⟩:=h
  rfl
 obtain ⟨l,g,vl,lines,goal,m,M,rfl,hl,pl,hg,ll,lg,m100,l400,M1,sl,sg,sm,ls,q⟩:=h;have h0:PS (vx P w K mg base a cdv A outer s H E) (bS j5 0) _:=(wW (i:=2) QQ.nd rfl (Or.inl rfl) (N:=["line"]) (ix:=[none]) ⟨rfl,rfl,rfl,rfl,trivial,rfl,trivial⟩ rfl (yW (pv 0)) (fun _=>(qW (i:=0) (show (["line"]:List Str).Nodup by decide +kernel) rfl (Or.inl rfl))) (fun _ σ=>jQ rfl σ) (fun _=>yy) (fun _=>(qK (okyu T) (hr.mono (by decide)) rfl T.myu T.Fyu.kp T.byu .nil pass0 (pa_c (pv 0) qk))));have h1:PS (vx P w K mg base a cdv A outer s H E) (bS j5 1) _:=(zq (i:=3) QQ.nd rfl (Or.inl rfl) (qK (okyu T) (hr.mono (by decide)) rfl T.myu T.Fyu.kp T.byu .nil pass0 (pa_c (pv 1) qk)));have h2:PS (vx P w K mg base a cdv A outer s H E) (bS j5 2) _:=(ps_if (PW.pt (W3 (zj (op_eqC hr.units) (pv 2) (pv 0) (zv _)) (pw_and1 (zj (op_eqC hr.units) (pv 3) (pv 1) (zv _)))))
    (qX (zQ (w5 qk)))
    y4)
 have h3:PS (vx P w K mg base a cdv A outer s H E) (bS j5 3) _:=(zq (i:=4) QQ.nd rfl (Or.inl rfl) (pe_make T.Mzg (okzm T) (hr.mono (by decide)) rfl T.mzg T.bzm .nil pass0 (pa_c (pv 2) (pa_c (pv 3) qk))));have h4:PS (vx P w K mg base a cdv A outer s H E) (bS j5 4) _:=(QJ (qK (JZ T B) (hr.mono (by decide)) rfl T.myv T.Fyv.kp T.byv .nil pass0 (pa_c (pv 4) (pa_c (w5 qk) qk))));have h5:PS (vx P w K mg base a cdv A outer s H E) (bS j5 5) _:=(ps_if (zj V1 (qK (okyo T) (hr.mono (by decide)) rfl T.myo T.Fyo.kp T.byo .nil pass0 (pa_c (pv 4) qk)) kY (zv _))
    (qX (QJ (qK (okzu T) (hr.mono (by decide)) rfl T.mzu T.Fzu.kp T.bzu .nil pass0 (pa_c (pv 4) qk))))
    y4)
 have h6:PS (vx P w K mg base a cdv A outer s H E) (bS j5 6) _:=(zQ (zk (pv 4) rfl));refine body7 (by rfl) h0 h1 h2 h3 h4 h5 h6 ?_
 intros
 clear h0 h1 h2 h3 h4 h5 h6;have lv:=Paired.length pl;refine ⟨_,rfl,l,rfl,⟨_,hl⟩,j3 (n:=lines.length) (fun k ys H'=>Same H H'∧∃ ms:List (List Int),Paired (fun v li=>∃ d,v=V.ref d∧H d=none∧H' d=some (.lst (intL li))) ys ms∧ms.length=k∧(∀ li∈ms,li.length=m+1)∧∀ li∈ms,∀ n∈li,n.natAbs≤M) ⟨Same.refl _,[],Paired.nil,rfl,(fun _ z=>by cases z),(fun _ z=>by cases z)⟩ (zw (by omega)) ?_ ?_ ?_⟩
 case refine_2 =>
  rintro k ys H' hk ⟨g1,_⟩;exact ⟨_,_,g1.seq hl,A7 (by omega)⟩
 case refine_3 =>
  rintro k m' ys H' c1 v H2 hk ⟨g1,ms,pm,lm,lm1,lm2⟩ ⟨rfl,y1⟩ nx _;have hv:=y1 _ (g1.seq hl);obtain ⟨li,hli,d,rfl,hd⟩:=y7 pl hv;have mem:=Af hli;refine Or.inl ⟨rfl,_,rfl,d,li,rfl,g1.seq hd,?_,?_,fun d2 ms2 H3 n2 g2 e2 l2 s2=>?_⟩
  ·intro z
   have:=ll li mem;rw [z] at this
   cases this
  ·rw [ll li mem]; omega
  refine nx _ _ ⟨g1.trans g2,ms++[ms2],Paired.snoc (Paired.mapP pm fun _ _ ⟨d,e1,e2,e3⟩=>⟨d,e1,e2,g2 _ _ e3⟩) ⟨d2,rfl,zW g1 n2,e2⟩,by rw [Ak,lm]; rfl,?_,?_⟩
  ·intro x hx
   rcases Aw.mp hx with z | z
   ·exact lm1 x z
   ·rw [Al.mp z,l2,ll li mem]
  ·intro x hx
   rcases Aw.mp hx with z | z
   ·exact lm2 x z
   ·rw [Al.mp z]
    exact s2 M (sl li mem)
 rintro ys H' ⟨g1,ms,pm,lm,lm1,lm2⟩;refine ⟨⟨_,g1.seq hl,by omega⟩,fun lr hlr=>?_⟩;have g2:=qw hlr (.lst ys);have er:upd H' lr (.lst ys) lr=some (.lst ys):=qj;have pm2:Paired (fun v li=>∃ d,v=V.ref d∧H d=none∧upd H' lr (.lst ys) d=some (.lst (intL li))∧d≠lr) ys ms:=Paired.mapP pm fun _ _ ⟨d,e1,e2,e3⟩=>⟨d,e1,e2,g2 _ _ e3,qV e3 hlr⟩
 have nlr:=zW g1 hlr;have g12:=g1.trans g2;clear g1 g2 pm hlr;generalize upd H' lr (.lst ys)=H1 at *;refine ⟨_,rfl,g,goal,rfl,g12.seq hg,?_,by omega,fun gr gs H2 ngr g3 egr lgs sgs=>?_⟩
 ·intro z
  rw [z] at lg
  cases lg
 have er2:=g3 _ _ er;have pm3:Paired (fun v li=>∃ d,v=V.ref d∧H d=none∧H2 d=some (.lst (intL li))∧d≠lr∧d≠gr) ys ms:=Paired.mapP pm2 fun _ _ ⟨d,e1,e2,e3,e4⟩=>⟨d,e1,e2,g3 _ _ e3,e4,qV e3 ngr⟩
 have nrg:gr≠lr:=Ne.symm (qV er ngr);have ngr0:=zW g12 ngr;have g23:=g12.trans g3;clear g12 g3 pm2 er ngr;have lym:=Paired.length pm3;have hl2:=g23.seq hl;have hg2:=g23.seq hg;dsimp only;rw [v3];change tSeq _ _ _ [some (.ref l),some (.ref g),some (.ref lr),some (.ref gr),none] H2;refine seq_to (σ':=[some (.ref l),some (.ref g),some (.ref lr),some (.ref gr),none]) (H':=H2) ?_ fun N hN=>?_
 case refine_2 =>
  refine ⟨_,rfl,_,rfl,lr,l,ys,vl,rfl,rfl,SqL.of er2,hl2,by omega,fun j x y hx hy=>?_,fun b1=>?_⟩
  ·obtain ⟨li,hli,d,rfl,_,e2,_,_⟩:=y7 pm3 hx
   obtain ⟨l2,hl2',d2,rfl,e3⟩:=y7 pl hy;refine .lst (SqL.of e2) (g23.seq e3) ?_ fun j x y hx hy=>?_
   ·rw [Av,Av,lm1 li (Af hli),ll l2 (Af hl2')]
   ·obtain ⟨_,_,rfl⟩:=wv hx
    obtain ⟨_,_,rfl⟩:=wv hy;exact .flat rfl rfl
  refine ⟨_,rfl,?_⟩
  cases b1
  ·exact iteF (iteF hN)
  ·refine iteT ⟨_,rfl,_,rfl,gr,g,_,_,rfl,rfl,SqL.of egr,hg2,by rw [Av,Av,lgs],fun j x y hx hy=>?_,fun b2=>⟨_,rfl,?_⟩⟩
   ·obtain ⟨_,_,rfl⟩:=wv hx
    obtain ⟨_,_,rfl⟩:=wv hy;exact .flat rfl rfl
   cases b2
   ·exact iteF hN
   ·refine iteT ⟨by decide,fun le hle=>?_⟩
    exact q le [] _ (g23.trans (qw hle _)).toL (LamSt.mono ls (g23.trans (qw hle _))) (zW g23 hle) qj
 clear hl2 hg2;refine ⟨_,rfl,_,rfl,fun x dx hx hdx ne=>?_⟩;have g4:Same H2 (upd (upd H2 dx (HO.own x)) x (HO.ins a.czg dx [])):=(qw hdx _).trans (qw (by rw [zZ (Ne.symm ne)]; exact hx) _);have ex:upd (upd H2 dx (HO.own x)) x (HO.ins a.czg dx []) x=some (HO.ins a.czg dx []):=qj;have nx0:=zW g23 hx;generalize upd (upd H2 dx (HO.own x)) x (HO.ins a.czg dx [])=H3 at *;have gg:=g23.trans g4;have lys:=Paired.length pm3;refine ⟨x,dx,lr,gr,ys,ms,gs,rfl,ex,g4 _ _ er2,Paired.mapP pm3 fun _ _ ⟨d,e1,e2,e3,e4,e5⟩=>⟨d,e1,g4 _ _ e3,e4⟩,g4 _ _ egr,nrg,by omega,by omega,by omega,fun D H5 dp dal dag ddx keep n1 n2 n3 tab=>⟨rfl,?_⟩⟩;have g5:Same H H5:=fun b o e=>keep b o (qV e nx0) (gg _ _ e)
 have nan:=zW gg n1;have nah:=zW gg n2;have nS:∀ {b:Addr} {o:HO},H b=some o→¬ TabS D b:=fun {b o} e z=>by
  rcases z with z | z | z
  ·exact qV e nx0 (by rw [z,dp])
  ·exact qV e nan z
  ·exact qV e nah z
 have lsl:∀ li∈ms,∀ n∈li,n.natAbs≤M:=lm2;have set1:=sit0_set (lines:=ms) (goal:=gs) (m:=m) (M:=M) lm1 (by omega) M1 lm2 (sgs M sg) sm m100 (by omega);dsimp only;rw [v3];refine ⟨_,rfl,by decide,fun wa hwa=>?_⟩;have g6:=qw hwa (.lst []);have ew:upd H5 wa (.lst []) wa=some (.lst (natL [])):=qj;have nwa:=(tab.apart hwa).not;have tab6:=tab.mono g6;have g56:=g5.trans g6;have ls6:=LamSt.mono ls g56;generalize upd H5 wa (.lst [])=H6 at *;have fin:∀ (D':TA) (Hf:Hp) (S':Sit),SameA D D'→ButL (TabS D) H6 Hf→TabAt a.czg Hf D' S'.t→LamSt a.tb_lam Yw lamQ Hf→Q (.ref D'.ah) Hf:=fun D' Hf S' sa bl tb lf=>by
  rw [sa.ah];refine q D.ah S'.t.heads Hf (fun b o e t=>bl b o (nS e) (g56 _ _ e) t) lf nah ?_;rw [← sa.ah];exact tb.heads
 refine ⟨D,_,m,_,_,_,M,_,sit0 ms gs,wa,[],by rw [dp]; rfl,tab6,set1,ls6,SqL.of ew,nwa,fun D1 H7 S1 sa1 bl1 tb1 st1 ki1 ls7=>?_⟩;refine ⟨_,rfl,D1,_,m,_,_,_,M,_,S1,by rw [sa1.p,dp]; rfl,tb1,st1,fun D2 H8 S2 Gd2 v sa2 bt2 tb2 st2 ki2 en2=>?_⟩;have sa12:=sa1.trans sa2;have bl2:ButL (TabS D) H6 H8:=bl1.trans fun b o n e t=>bt2 b o (fun z=>n (sa1.tabS.mp z)) e
 have ls8:LamSt a.tb_lam Yw lamQ H8:=LamSt.but ls7 tb1 bt2;refine ⟨rfl,_,rfl,?_⟩
 rcases en2 with ⟨rfl,fe⟩ | ⟨i,y,rfl,_⟩
 ·refine iteP rfl ?_
  refine ⟨_,rfl,D2,_,m,_,_,_,M,_,S2,by rw [sa12.p,dp]; rfl,tb2,st2,fe,fun D3 H9 S3 v sa3 bt3 tb3 st3 ki3 fe3 en3=>?_⟩;have sa13:=sa12.trans sa3;refine ⟨_,rfl,D3.p,_,D3.dx,_,_,by rw [sa13.p,dp],tb3.ins,T.Czg,T.nzl,rfl,?_⟩;exact fin D3 H9 S3 sa13 (bl2.trans fun b o n e t=>bt3 b o (fun z=>n (sa12.tabS.mp z)) e) tb3 (LamSt.but ls8 tb2 bt3)
 ·refine iteN (fun z=>by cases z) ?_
  refine ⟨_,rfl,D2.p,_,D2.dx,_,_,by rw [sa12.p,dp],tb2.ins,T.Czg,T.nzl,rfl,?_⟩;exact fin D2 H8 S2 sa12 bl2 tb2 ls8
def questF (tp:Addr) (many:Nat) (sc am:Addr):List (Str×V):=[("tableau",.ref tp),("many",.int (many:Int)),("scales",.ref sc),("aim",.ref am)]
def spQuestInit (C:Addr):Sp:=fun vs H Q _=>∃ (x dx tp sc am:Addr) (many:Nat),vs=[.ref x,.ref tp,.int (many:Int),.ref sc,.ref am]∧H x=some (.ins C dx [])∧∀ H',(∀ b o,b≠x→H b=some o→H' b=some o)→H' x=some (.ins C dx (questF tp many sc am))→Q .non H'
abbrev Y7 (P w K mg base) (a:Adr) (cdv A outer s H E):=(cxOf CX0 P w K mg base ["self", "tableau", "many", "scales", "aim"] "Quest.__init__" (qQ wx) a.fza cdv A outer s H E).nox
theorem okza (T:Txt K mg a):FnOk P w K mg base CX0 1 a.fza a.dza ["self", "tableau", "many", "scales", "aim"] (spQuestInit a.cz4):=by
 refine T.Fza.ok scza (fun vs H Q E h=>?_) (fun cdv A outer s H vs Q E hr h=>?_)
 ·obtain ⟨_,_,_,_,_,_,rfl,_⟩:=h
  rfl
 obtain ⟨x,dx,tp,sc,am,many,rfl,hx,q⟩:=h;have h0:PS (Y7 P w K mg base a cdv A outer s H E) (bS wx 0) _:=(Q5 (pv 0) (pv 1) rfl);have h1:PS (Y7 P w K mg base a cdv A outer s H E) (bS wx 1) _:=(Q5 (pv 0) (pv 2) rfl);have h2:PS (Y7 P w K mg base a cdv A outer s H E) (bS wx 2) _:=(Q5 (pv 0) (pv 3) rfl);have h3:PS (Y7 P w K mg base a cdv A outer s H E) (bS wx 3) _:=(Q5 (pv 0) (pv 4) rfl);refine body4 (by rfl) h0 h1 h2 h3 ?_
 intros
 clear h0 h1 h2 h3;refine ⟨_,rfl,_,rfl,x,_,dx,[],rfl,hx,T.Cz4,T.nze,by decide,?_⟩;refine ⟨_,rfl,_,rfl,x,_,dx,_,rfl,qj,T.Cz4,T.nzb,(show 1<1000 by decide),?_⟩;refine ⟨_,rfl,_,rfl,x,_,dx,_,rfl,qj,T.Cz4,T.nzd,(show 2<1000 by decide),?_⟩;refine ⟨_,rfl,_,rfl,x,_,dx,_,rfl,qj,T.Cz4,T.nz5,(show 3<1000 by decide),?_⟩;refine q _ (fun b o n e=>?_) qj;rw [zZ n,zZ n,zZ n,zZ n];exact e
def cornQ (F:Vecs) (m:Nat) (S:Sit) (i:Nat) (k:Nat):Rat:=if S.t.rooms+k∈S.t.names.take i then vG F m S.Hd S.e (F (S.t.rooms+k)) else 0
def k8 (F:Vecs) (m:Nat) (S:Sit) (i many:Nat):List Rat:=(List.range many).map (cornQ F m S i)
theorem W6 {α β:Type} {F:α→β→Prop} {v:α} {q:β} (h:F v q):∀ {n:Nat},Paired F (List.replicate n v) (List.replicate n q)
 | 0=>.nil
 | _+1=>.cons h (W6 h)
theorem pointQ_zero {F:Vecs} {m:Nat} {S:Sit} {many:Nat}:k8 F m S 0 many=List.replicate many 0:=by
 unfold k8;have:cornQ F m S 0=fun _=>0:=by
  funext k
  unfold cornQ;rw [List.take_zero,if_neg (List.not_mem_nil)]
 rw [this,List.map_const',Ar]
theorem pointQ_room {F:Vecs} {m:Nat} {S:Sit} {i nm many:Nat} (hi:S.t.names[i]?=some nm) (lt:nm<S.t.rooms):k8 F m S (i+1) many=k8 F m S i many:=by
 unfold k8;refine List.map_congr_left fun k _=>?_
 unfold cornQ;rw [yv hi]
 by_cases c:S.t.rooms+k∈S.t.names.take i
 ·rw [if_pos c,if_pos (Ah _ c)]
 ·rw [if_neg c,if_neg fun z=>(Aw.mp z).elim c fun y=>by have:=Al.mp y; omega]
theorem pointQ_var {F:Vecs} {m:Nat} {S:Sit} {i nm many:Nat} (hi:S.t.names[i]?=some nm) (ge:S.t.rooms≤nm) (lt:nm<S.t.rooms+many):k8 F m S (i+1) many=(k8 F m S i many).set (nm - S.t.rooms) (vG F m S.Hd S.e (F nm)):=by
 apply List.ext_getElem?
 intro j;unfold k8;rw [List.getElem?_set,List.getElem?_map,List.getElem?_map,Av,Ar]
 by_cases hj:j<many
 ·rw [List.getElem?_range hj]
  show some (cornQ F m S (i+1) j)=if _ then _ else some (cornQ F m S i j)
  by_cases e:nm - S.t.rooms=j
  ·rw [if_pos e,if_pos (by omega)]
   unfold cornQ;have e2:S.t.rooms+j=nm:=by omega
   rw [yv hi,e2,if_pos (Ac _ Am)]
  ·rw [if_neg e]
   unfold cornQ;rw [yv hi]
   by_cases c:S.t.rooms+j∈S.t.names.take i
   ·rw [if_pos c,if_pos (Ah _ c)]
   ·rw [if_neg c,if_neg fun z=>(Aw.mp z).elim c fun y=>by have:=Al.mp y; omega]
 ·rw [Ae (by rw [Ar]; omega),if_neg (by omega)]
  rfl
def spCorner (K:Bc) (C CQ:Addr):Sp:=fun vs H Q _=>∃ (x dx sc am:Addr) (many:Nat) (A:TA) (F:Vecs) (m:Nat) (G Gd:Nat→Int) (act:List Nat) (M:Nat) (S:Sit),vs=[.ref x]∧H x=some (.ins CQ dx (questF A.p many sc am))∧TabAt C H A S.t∧Set0 F m G Gd act M (S.t.rooms+many) S∧many≤100∧∀ l ys H',H l=none→Same H H'→H' l=some (.lst ys)→RL K H' ys (k8 F m S S.t.names.length many)→Q (.ref l) H'
abbrev Yy (P w K mg base) (a:Adr) (cdv A outer s H E):=(cxOf CX0 P w K mg base ["self", "point", "name", "line"] "Quest.corner" (qQ vY) a.fz6 cdv A outer s H E).nox
theorem okz6 (T:Txt K mg a):FnOk P w K mg base CX0 3 a.fz6 a.dz6 ["self"] (spCorner K a.czg a.cz4):=by
 refine T.Fz6.ok QZ (fun vs H Q E h=>?_) (fun cdv A outer s H vs Q E hr h=>?_)
 ·obtain ⟨_,_,_,_,_,_,_,_,_,_,_,_,_,rfl,_⟩:=h
  rfl
 obtain ⟨x,dx,sc,am,many,D,F,m,G,Gd,act,M,S,rfl,hx,tab,set0,m100,q⟩:=h;have h0:PS (Yy P w K mg base a cdv A outer s H E) (bS vY 0) _:=(zq (i:=1) QZ.nd rfl (Or.inl rfl) (pe_op op_rep (w5 (pa_c (YJ (v:=.ref a.gz2) rfl T.mz2 rfl) qk)) (zk (pv 0) rfl)));have h1:PS (Yy P w K mg base a cdv A outer s H E) (bS vY 1) _:=(Q4 PassesOwn.never rfl (pi_zip rfl T.m_zip (pa_c (zk (zk (pv 0) rfl) rfl) (pa_c (zk (zk (pv 0) rfl) rfl) qk))) (vZ rfl (zy (qW (i:=2) QZ.nd rfl (Or.inl rfl)) (zy (qW (i:=3) QZ.nd rfl (Or.inl rfl)) jy)))
    (qX (ps_if (zj op_ge (pv 2) (zk (zk (pv 0) rfl) rfl) (zv _))
    (qX (k7 (qK (okys T) (hr.mono (by decide)) rfl T.mys T.Fys.kp T.bys .nil pass0 (pa_c (pe_ix zK (pv 3) (pe_un wZ qz) (fun _ _=>rfl)) (pa_c (zk (zk (pv 0) rfl) rfl) qk))) (JY (pv 1) (pe_op Yk (pv 2) (zk (zk (pv 0) rfl) rfl)) Qk)))
    y4)))
 have h2:PS (Yy P w K mg base a cdv A outer s H E) (bS vY 2) _:=(zQ (pv 1));refine body3 (by rfl) h0 h1 h2 ?_
 intros
 clear h0 h1 h2;have n0:∀ H:Hp,SqT K H a.gz2 (TQ 0):=T.sz2;have sz:=set0.sz;have I:=set0.I;refine ⟨(show 1≤sizeLine by decide),fun l0 h0=>?_⟩;have g1:=qw h0 (.lst [V.ref a.gz2]);have e1:upd H l0 (.lst [V.ref a.gz2]) l0=some (.lst [V.ref a.gz2]):=qj;generalize upd H l0 (.lst [V.ref a.gz2])=H1 at *;refine ⟨_,rfl,x,_,dx,_,_,rfl,g1 _ _ hx,T.Cz4,T.nzb,rfl,l0,_,_,rfl,rfl,e1,by omega,by omega,?_,fun lp hlp=>?_⟩
 ·show 1*(many:Int).toNat≤sizeLine
  exact Nat.le_of_lt (zw (by omega))
 have er:(List.replicate (many:Int).toNat [V.ref a.gz2]).flatten=List.replicate many (V.ref a.gz2):=by
  rw [Int.toNat_natCast];exact List.flatten_replicate_singleton
 rw [er];have g2:=qw hlp (.lst (List.replicate many (V.ref a.gz2)));have e2:upd H1 lp (.lst (List.replicate many (V.ref a.gz2))) lp=some (.lst (List.replicate many (V.ref a.gz2))):=qj;have nlp:=zW g1 hlp;have g12:=g1.trans g2;have r0:RL K (upd H1 lp (.lst (List.replicate many (V.ref a.gz2)))) (List.replicate many (V.ref a.gz2)) (k8 F m S 0 many):=by
  rw [pointQ_zero];exact W6 ⟨_,rfl,n0 _⟩
 clear g1 e1 hlp g2;generalize upd H1 lp (.lst (List.replicate many (V.ref a.gz2)))=H2 at *;dsimp only;rw [v3];obtain ⟨vl,hal,pl⟩:=tab.lines;have lvl:=Paired.length pl;have nl:=sz.nl;refine ⟨_,rfl,x,_,dx,_,_,rfl,g12 _ _ hx,T.Cz4,T.nze,rfl,D.p,_,D.dx,_,_,rfl,g12 _ _ tab.ins,T.Czg,T.nzo,rfl,_,rfl,x,_,dx,_,_,rfl,g12 _ _ hx,T.Cz4,T.nze,rfl,D.p,_,D.dx,_,_,rfl,g12 _ _ tab.ins,T.Czg,T.nzn,rfl,D.an,D.al,rfl,⟨_,SqL.of (g12 _ _ tab.names)⟩,⟨_,SqL.of (g12 _ _ hal)⟩,Z0 (n:=S.t.names.length) (fun i σ H'=>∃ (ys:List V) (u2 u3:Option V),σ=[some (.ref x),some (.ref lp),u2,u3]∧Same H H'∧H' lp=some (.lst ys)∧RL K H' ys (k8 F m S i many)) ⟨_,_,_,rfl,g12,e2,r0⟩ ?_ ?_ ?_⟩
 ·rintro σ H' ⟨ys,u2,u3,rfl,g,el,rl⟩
  exact ⟨⟨_,_,SqL.of (g _ _ tab.names),SqL.of (g _ _ hal),.inl (by rw [Av]; exact Nat.le_refl _)⟩,_,rfl,q lp ys H' nlp g el rl⟩
 ·rintro i σ H' hi ⟨ys,u2,u3,rfl,g,el,rl⟩
  exact ⟨_,_,_,_,SqL.of (g _ _ tab.names),SqL.of (g _ _ hal),j7 (A7 hi),A7 (by omega)⟩
 ·rintro i σ H' x2 H3 hi ⟨ys,u2,u3,rfl,g,el,rl⟩ ⟨p2,z1,z2,hp2,rfl,rfl,v1,v2⟩
  obtain ⟨nm,hnm,rfl⟩:=Y0 (v1 _ (SqL.of (g _ _ tab.names)));have hv2:=v2 _ (SqL.of (g _ _ hal));obtain ⟨li,hli,bl,rfl,hbl,_⟩:=y7 pl hv2;have g3:=qw hp2 (.tup [V.int (nm:Int),V.ref bl]);have ti:=g _ _ tab.ins;have xi:=g _ _ hx;have lb:=g _ _ hbl;have el3:=g3 _ _ el;have rl3:=RL.mono rl g3;have gg:=g.trans g3;have et:upd H' p2 (.tup [V.int (nm:Int),V.ref bl]) p2=some (.tup [V.int (nm:Int),V.ref bl]):=qj;have ti3:=g3 _ _ ti;have xi3:=g3 _ _ xi;have lb3:=g3 _ _ lb;generalize upd H' p2 (.tup [V.int (nm:Int),V.ref bl])=H3 at *;refine ⟨p2,_,rfl,SqT.of et,rfl,_,_,rfl,_,_,rfl,rfl,_,rfl,_,rfl,x,_,dx,_,_,rfl,xi3,T.Cz4,T.nze,rfl,D.p,_,D.dx,_,_,rfl,ti3,T.Czg,T.nzq,rfl,_,_,rfl,rfl,_,rfl,?_⟩;have hll:=sz.ll li (Af hli);obtain ⟨z,hz⟩:=yz (l:=li) (i:=S.t.heads.length) (by omega)
  by_cases c:(S.t.rooms:Int)≤(nm:Int)
  ·refine iteP c ?_
   refine ⟨_,rfl,_,rfl,bl,_,_,_,rfl,rfl,SqL.of lb3,atLast (by rw [Av,hll.1]; exact y8 hz),_,rfl,x,_,dx,_,_,rfl,xi3,T.Cz4,T.nze,rfl,D.p,_,D.dx,_,_,rfl,ti3,T.Czg,T.nzh,rfl,z,S.t.bot,rfl,sz.b0,Sm.mono sz.sb (by decide),fun pr H4 g4 hpr=>?_⟩;have lt:nm<S.t.rooms+many:=set0.kb nm (.inl (Af hnm));have el4:=g4 _ _ el3;have ti4:=g4 _ _ ti3;have xi4:=g4 _ _ xi3;have rl4:=RL.mono rl3 g4;have ly:=Paired.length rl4;have lq:(k8 F m S i many).length=many:=by unfold k8; rw [Av,Ar]
   have ei:(nm:Int) - (S.t.rooms:Int)=((nm - S.t.rooms:Nat):Int):=by omega
   refine ⟨_,rfl,_,rfl,_,rfl,x,_,dx,_,_,rfl,xi4,T.Cz4,T.nze,rfl,D.p,_,D.dx,_,_,rfl,ti4,T.Czg,T.nzq,rfl,_,_,rfl,rfl,lp,ys,_,nm - S.t.rooms,rfl,congrArg V.int ei,el4,Y4 (by omega),?_⟩;have vq:vG F m S.Hd S.e (F nm)=Rat.divInt z S.t.bot:=by
    have la:=YK I hnm hli;rw [qZ hz] at la;rw [As,la,Bb];have b0:=Rat.ne_of_gt (botR I);grind
   have nr:=n_rat (t:=z) (b:=S.t.bot) sz.b0;refine ⟨_,_,_,rfl,fun b o e=>?_,qj,?_⟩
   ·rw [zZ fun z=>by rw [z,nlp] at e; cases e]
    exact g4 _ _ (gg _ _ e)
   ·rw [pointQ_var hnm (by omega) lt]
    refine QY _ (Paired.mapP rl4 fun _ _ ⟨p,e1,e2⟩=>⟨p,e1,SqT.upd_lst e2 el4⟩) ⟨pr,rfl,?_⟩;rw [vq];show SqT K _ pr (T2 _ _);rw [← nr.1,← nr.2];exact SqT.upd_lst (SqT.of hpr) el4
  ·refine iteN c ?_
   refine ⟨ys,_,_,rfl,gg,el3,?_⟩;rw [pointQ_room hnm (by omega)];exact rl3
theorem num_pos0 {y:Rat} (h:0<y):0<y.num:=by
 have a:=(Rat.num_nonneg (q:=y)).mpr (Rat.le_of_lt h);have b:y.num≠0:=fun z=>by
  have:=Rat.num_eq_zero.mp z;rw [this] at h;exact absurd h Rat.lt_irrefl
 omega
theorem inv_TQ {y:Rat} (h:0<y):y⁻¹.num=(y.den:Int)∧(y⁻¹.den:Int)=y.num:=by
 have hn:0<y.num:=num_pos0 h;rw [Rat.inv_def];exact rat_of ⟨hn,by
  have:=y.reduced;show Int.gcd (y.den:Int) y.num=1;rw [Int.gcd_comm];exact this⟩
def spOverQ (K:Bc):Sp:=fun vs H Q _=>∃ (p r:Addr) (x y:Rat),vs=[.ref p,.ref r]∧SqT K H p (TQ x)∧SqT K H r (TQ y)∧0<y∧SmQ 4000 x∧SmQ 4000 y∧RetT H Q (TQ (x/y))
theorem okyq (T:Txt K mg a):FnOk P w K mg base CX0 3 a.fyq a.dyq ["one", "other"] (spOverQ K):=by
 refine T.Fyq.ok scyq (fun vs H Q E h=>?_) (fun cdv A outer s H vs Q E hr h=>?_)
 ·obtain ⟨_,_,_,_,rfl,_⟩:=h
  rfl
 obtain ⟨p,r,x,y,rfl,hp,hq,hL,sx,sy,q⟩:=h;have hn:0<y.num:=num_pos0 hL;refine ⟨_,(qJ (ps_if (zj op_eq (pe_ix qY (pv 1) qz (fun _ _=>rfl)) qz (zv _))
    (qX ps_never)
    y4)
   (qJ (ps_if (zj op_lt (pe_ix qY (pv 1) qz (fun _ _=>rfl)) qz (zv _))
    (qX (zQ (qK (okyy T) (hr.mono (by decide)) rfl T.myy T.Fyy.kp T.byy .nil pass0 (pa_c (pv 0) (pa_c (j4 (pa_c (pe_un wZ (pe_ix qY (pv 1) qz (fun _ _=>rfl))) (pa_c (pe_un wZ (pe_ix qY (pv 1) qz (fun _ _=>rfl))) qk))) qk)))))
    y4)
   (qX (zQ (qK (okyy T) (hr.mono (by decide)) rfl T.myy T.Fyy.kp T.byy .nil pass0 (pa_c (pv 0) (pa_c (j4 (pa_c (pe_ix qY (pv 1) qz (fun _ _=>rfl)) (pa_c (pe_ix qY (pv 1) qz (fun _ _=>rfl)) qk))) qk))))))),?_⟩
 refine ⟨_,rfl,_,_,_,_,rfl,rfl,hq,rfl,rfl,_,rfl,iteN (fun z=>by have:=V.int.inj z; omega) ?_⟩;refine ⟨_,rfl,_,_,_,_,rfl,rfl,hq,rfl,_,_,rfl,rfl,_,rfl,iteN (by omega) ?_⟩;refine ⟨_,rfl,_,rfl,_,_,_,_,rfl,rfl,hq,rfl,_,rfl,_,_,_,_,rfl,rfl,hq,rfl,jZ,fun t ht=>?_⟩;have g:=qw ht (.tup (T2 y.den y.num));have e:=inv_TQ hL;have sl:SmQ 4000 y⁻¹:=⟨by rw [e.1]; exact sy.2,by rw [e.2]; exact sy.1⟩;refine ⟨p,t,x,y⁻¹,rfl,g.tup hp,?_,sx,sl,?_⟩
 ·unfold TQ
  rw [e.1,e.2];exact SqT.of qj
 ·show RetT _ _ (TQ (x*y⁻¹))
  rw [← Bb];exact RetT.mono q g
def prQ (heads:List Nat) (ns:List Int) (bot:Int) (scs:List Rat) (am:Rat) (rooms:Nat):Nat→List Rat
 | 0=>List.replicate rooms 0
 | i+1=>if ns.getD i 0=0 then prQ heads ns bot scs am rooms i else (prQ heads ns bot scs am rooms i).set (heads.getD i 0) (Rat.divInt (ns.getD i 0) bot*(scs.getD (heads.getD i 0) 0/am))
theorem QX {heads:List Nat} {ns:List Int} {bot:Int} {scs:List Rat} {am:Rat} {rooms:Nat}:∀ i,(prQ heads ns bot scs am rooms i).length=rooms
 | 0=>Ad
 | i+1=>by
  unfold prQ
  by_cases c:ns.getD i 0=0
  ·rw [if_pos c,QX i]
  ·rw [if_neg c,List.length_set,QX i]
def spPrices (K:Bc) (C CQ:Addr):Sp:=fun vs H Q _=>∃ (x dx sc ap ln pa:Addr) (many:Nat) (A:TA) (t:Tab) (ns:List Int) (vsc:List V) (scs:List Rat) (am:Rat),vs=[.ref x,.ref ln,.ref pa]∧H x=some (.ins CQ dx (questF A.p many sc ap))∧TabAt C H A t∧TabSz t∧t.rooms≤400∧SqL K H ln (intL ns)∧ns.length=t.heads.length∧SqL K H sc vsc∧RL K H vsc scs∧scs.length=t.rooms∧SqT K H pa (TQ am)∧0<am∧SmQ 4000 am∧(∀ c∈scs,SmQ 4000 c∧SmQ 4000 (c/am))∧(∀ n∈ns,SmQ 4000 (Rat.divInt n t.bot))∧(∀ (j h:Nat) (n:Int),t.heads[j]?=some h→ns[j]?=some n→n≠0→h<t.rooms)∧∀ l ys H',H l=none→Same H H'→H' l=some (.lst ys)→RL K H' ys (prQ t.heads ns t.bot scs am t.rooms t.heads.length)→Q (.ref l) H'
abbrev Z3 (P w K mg base) (a:Adr) (cdv A outer s H E):=(cxOf CX0 P w K mg base ["self", "numbers", "aim", "prices", "head", "number"] "Quest.prices_by" (qQ jV) a.fzc cdv A outer s H E).nox
theorem J7 (T:Txt K mg a):FnOk P w K mg base CX0 4 a.fzc a.dzc ["self", "numbers", "aim"] (spPrices K a.czg a.cz4):=by
 refine T.Fzc.ok kJ (fun vs H Q E h=>?_) (fun cdv A outer s H vs Q E hr h=>?_)
 ·obtain ⟨_,_,_,_,_,_,_,_,_,_,_,_,_,rfl,_⟩:=h
  rfl
 obtain ⟨x,dx,sc,ap,ln,pa,many,D,t,ns,vsc,scs,am,rfl,hx,tab,sz,r400,hln,lns,hsc,rsc,lsc,hpa,am0,sam,ssc,sns,hroom,q⟩:=h;have h0:PS (Z3 P w K mg base a cdv A outer s H E) (bS jV 0) _:=(zq (i:=3) kJ.nd rfl (Or.inl rfl) (pe_op op_rep (w5 (pa_c (YJ (v:=.ref a.gz2) rfl T.mz2 rfl) qk)) (zk (zk (pv 0) rfl) rfl)));have h1:PS (Z3 P w K mg base a cdv A outer s H E) (bS jV 1) _:=(Q4 PassesOwn.never rfl (pi_zip rfl T.m_zip (pa_c (zk (zk (pv 0) rfl) rfl) (pa_c (pv 1) qk))) (vZ rfl (zy (qW (i:=4) kJ.nd rfl (Or.inl rfl)) (zy (qW (i:=5) kJ.nd rfl (Or.inl rfl)) jy)))
    (qX (ps_if (zj op_ne (pv 5) qz (zv _))
    (qX (k7 (qK (okyy T) (hr.mono (by decide)) rfl T.myy T.Fyy.kp T.byy .nil pass0 (pa_c (qK (okys T) (hr.mono (by decide)) rfl T.mys T.Fys.kp T.bys .nil pass0 (pa_c (pv 5) (pa_c (zk (zk (pv 0) rfl) rfl) qk))) (pa_c (qK (okyq T) (hr.mono (by decide)) rfl T.myq T.Fyq.kp T.byq .nil pass0 (pa_c (pe_ix zK (zk (pv 0) rfl) (pv 4) (fun _ _=>rfl)) (pa_c (pv 2) qk))) qk))) (JY (pv 3) (pv 4) Qk)))
    y4)))
 have h2:PS (Z3 P w K mg base a cdv A outer s H E) (bS jV 2) _:=(zQ (pv 3));refine body3 (by rfl) h0 h1 h2 ?_
 intros
 clear h0 h1 h2;have n0:∀ H:Hp,SqT K H a.gz2 (TQ 0):=T.sz2;refine ⟨(show 1≤sizeLine by decide),fun l0 h0=>?_⟩;have g1:=qw h0 (.lst [V.ref a.gz2]);have e1:upd H l0 (.lst [V.ref a.gz2]) l0=some (.lst [V.ref a.gz2]):=qj;generalize upd H l0 (.lst [V.ref a.gz2])=H1 at *;refine ⟨_,rfl,x,_,dx,_,_,rfl,g1 _ _ hx,T.Cz4,T.nze,rfl,D.p,_,D.dx,_,_,rfl,g1 _ _ tab.ins,T.Czg,T.nzq,rfl,l0,_,_,rfl,rfl,e1,by omega,by omega,?_,fun lp hlp=>?_⟩
 ·show 1*(t.rooms:Int).toNat≤sizeLine
  exact Nat.le_of_lt (zw (by omega))
 have er:(List.replicate (t.rooms:Int).toNat [V.ref a.gz2]).flatten=List.replicate t.rooms (V.ref a.gz2):=by
  rw [Int.toNat_natCast];exact List.flatten_replicate_singleton
 rw [er];have g2:=qw hlp (.lst (List.replicate t.rooms (V.ref a.gz2)));have e2:upd H1 lp (.lst (List.replicate t.rooms (V.ref a.gz2))) lp=some (.lst (List.replicate t.rooms (V.ref a.gz2))):=qj;have nlp:=zW g1 hlp;have g12:=g1.trans g2;have r0:RL K (upd H1 lp (.lst (List.replicate t.rooms (V.ref a.gz2)))) (List.replicate t.rooms (V.ref a.gz2)) (prQ t.heads ns t.bot scs am t.rooms 0):=W6 ⟨_,rfl,n0 _⟩;clear g1 e1 hlp g2;generalize upd H1 lp (.lst (List.replicate t.rooms (V.ref a.gz2)))=H2 at *;dsimp only;rw [v3];refine ⟨_,rfl,x,_,dx,_,_,rfl,g12 _ _ hx,T.Cz4,T.nze,rfl,D.p,_,D.dx,_,_,rfl,g12 _ _ tab.ins,T.Czg,T.nzl,rfl,_,rfl,D.ah,ln,rfl,⟨_,SqL.of (g12 _ _ tab.heads)⟩,⟨_,g12.seq hln⟩,Z0 (n:=t.heads.length) (fun i σ H'=>∃ (ys:List V) (u2 u3:Option V),σ=[some (.ref x),some (.ref ln),some (.ref pa),some (.ref lp),u2,u3]∧Same H H'∧H' lp=some (.lst ys)∧RL K H' ys (prQ t.heads ns t.bot scs am t.rooms i)) ⟨_,_,_,rfl,g12,e2,r0⟩ ?_ ?_ ?_⟩
 ·rintro σ H' ⟨ys,u2,u3,rfl,g,el,rl⟩
  exact ⟨⟨_,_,SqL.of (g _ _ tab.heads),g.seq hln,.inl (by rw [Av]; exact Nat.le_refl _)⟩,_,rfl,q lp ys H' nlp g el rl⟩
 ·rintro i σ H' hi ⟨ys,u2,u3,rfl,g,el,rl⟩
  exact ⟨_,_,_,_,SqL.of (g _ _ tab.heads),g.seq hln,j7 (A7 hi),y8 (A7 (by omega))⟩
 ·rintro i σ H' x2 H3 hi ⟨ys,u2,u3,rfl,g,el,rl⟩ ⟨p2,z1,z2,hp2,rfl,rfl,v1,v2⟩
  obtain ⟨h,hh,rfl⟩:=Y0 (v1 _ (SqL.of (g _ _ tab.heads)));obtain ⟨n,hn,rfl⟩:=wv (v2 _ (g.seq hln));have g3:=qw hp2 (.tup [V.int (h:Int),V.int n]);have el3:=g3 _ _ el;have rl3:=RL.mono rl g3;have gg:=g.trans g3;have et:upd H' p2 (.tup [V.int (h:Int),V.int n]) p2=some (.tup [V.int (h:Int),V.int n]):=qj;generalize upd H' p2 (.tup [V.int (h:Int),V.int n])=H3 at *;refine ⟨p2,_,rfl,SqT.of et,rfl,_,_,rfl,_,_,rfl,rfl,_,rfl,rfl,_,rfl,?_⟩;have eh:=qZ (d:=0) hh;have en:=qZ (d:=0) hn
  by_cases c:n=0
  ·refine iteNS (by rw [c]) ?_
   refine ⟨ys,_,_,rfl,gg,el3,?_⟩;unfold prQ;rw [if_pos (by rw [en,c])];exact rl3
  ·refine iteNP (fun z=>c (V.int.inj z)) ?_
   have hr0:=hroom i h n hh hn c;have lvs:=Paired.length rsc;obtain ⟨vq,hvq⟩:=yz (l:=vsc) (i:=h) (by omega);obtain ⟨cq,hcq,pq,rfl,epq⟩:=y7 rsc hvq;have ecq:=qZ (d:=0) hcq;obtain ⟨s1,s2⟩:=ssc cq (Af hcq);have nr:=n_rat (t:=n) (b:=t.bot) sz.b0;refine ⟨_,rfl,_,rfl,x,_,dx,_,_,rfl,gg _ _ hx,T.Cz4,T.nze,rfl,D.p,_,D.dx,_,_,rfl,gg _ _ tab.ins,T.Czg,T.nzh,rfl,n,t.bot,rfl,sz.b0,Sm.mono sz.sb (by decide),fun pr H4 g4 hpr=>?_⟩;have gg4:=gg.trans g4;refine ⟨_,rfl,x,_,dx,_,_,rfl,gg4 _ _ hx,T.Cz4,T.nzd,rfl,_,rfl,sc,_,_,_,rfl,rfl,gg4.seq hsc,atN hvq,_,rfl,pq,pa,cq,am,rfl,gg4.tup epq,gg4.tup hpa,am0,s1,sam,fun po H5 g5 hpo=>?_⟩;have gg5:=gg4.trans g5;refine ⟨pr,po,Rat.divInt n t.bot,cq/am,rfl,?_,SqT.of hpo,sns n (Af hn),s2,fun pt H6 g6 hpt=>?_⟩
   ·show SqT K _ pr (T2 _ _)
    rw [← nr.1,← nr.2];exact SqT.of (g5 _ _ hpr)
   have gg6:=gg5.trans g6;have el6:=g6 _ _ (g5 _ _ (g4 _ _ el3));have rl6:=RL.mono (RL.mono (RL.mono rl3 g4) g5) g6;have ly:=Paired.length rl6;rw [QX] at ly;refine ⟨_,rfl,_,rfl,lp,ys,_,h,rfl,rfl,el6,Y4 (by omega),?_⟩;refine ⟨_,_,_,rfl,fun b o e=>?_,qj,?_⟩
   ·rw [zZ fun z=>by rw [z,nlp] at e; cases e]
    exact gg6 _ _ e
   ·unfold prQ
    rw [if_neg (by rw [en]; exact c),eh,en,ecq];exact QY _ (Paired.mapP rl6 fun _ _ ⟨p,e1,e2⟩=>⟨p,e1,SqT.upd_lst e2 el6⟩) ⟨pt,rfl,SqT.upd_lst (SqT.of hpt) el6⟩
def spEmpty (K:Bc) (C CQ:Addr):Sp:=fun vs H Q _=>∃ (x dx sc ap:Addr) (many i nm:Nat) (A:TA) (t:Tab) (li:List Int) (vsc:List V) (scs:List Rat),vs=[.ref x,.int (i:Int)]∧H x=some (.ins CQ dx (questF A.p many sc ap))∧TabAt C H A t∧TabSz t∧t.rooms≤400∧t.names[i]?=some nm∧nm<t.rooms∧t.lines[i]?=some li∧SqL K H sc vsc∧RL K H vsc scs∧scs.length=t.rooms∧(∀ c∈scs,SmQ 4000 c)∧(∀ n∈li,SmQ 4000 (Rat.divInt n t.bot))∧(∀ (j h:Nat) (n:Int),t.heads[j]?=some h→li[j]?=some n→n≠0→h<t.rooms)∧∀ l ys H',H l=none→Same H H'→H' l=some (.lst ys)→RL K H' ys ((prQ t.heads (li.take t.heads.length) t.bot scs 1 t.rooms t.heads.length).set nm (scs.getD nm 0))→Q (.ref l) H'
abbrev w6 (P w K mg base) (a:Adr) (cdv A outer s H E):=(cxOf CX0 P w K mg base ["self", "at", "name", "prices"] "Quest.empty_prices" (qQ yX) a.fz7 cdv A outer s H E).nox
theorem okz7 (T:Txt K mg a):FnOk P w K mg base CX0 5 a.fz7 a.dz7 ["self", "at"] (spEmpty K a.czg a.cz4):=by
 refine T.Fz7.ok xy (fun vs H Q E h=>?_) (fun cdv A outer s H vs Q E hr h=>?_)
 ·obtain ⟨_,_,_,_,_,_,_,_,_,_,_,_,rfl,_⟩:=h
  rfl
 obtain ⟨x,dx,sc,ap,many,i,nm,D,t,li,vsc,scs,rfl,hx,tab,sz,r400,hi,nr,hli,hsc,rsc,lsc,ssc,sli,hroom,q⟩:=h;have h0:PS (w6 P w K mg base a cdv A outer s H E) (bS yX 0) _:=(zq (i:=2) xy.nd rfl (Or.inl rfl) (pe_ix zK (zk (zk (pv 0) rfl) rfl) (pv 1) (fun _ _=>rfl)));have h1:PS (w6 P w K mg base a cdv A outer s H E) (bS yX 1) _:=(zq (i:=3) xy.nd rfl (Or.inl rfl) (ZY (pv 0) T.Cz4 T.tzc (J7 T) (hr.mono (by decide)) T.bzc .nil pass0 (pa_c (J5 VY (pe_ix zK (zk (zk (pv 0) rfl) rfl) (pv 1) (fun _ _=>rfl)) W5 (W4 (pe_un wZ qz))) (pa_c (YJ (v:=.ref a.gz3) rfl T.mz3 rfl) qk)) (hst:=qq rfl _ _) (hpl:=qy rfl)));have h2:PS (w6 P w K mg base a cdv A outer s H E) (bS yX 2) _:=(k7 (pe_ix zK (zk (pv 0) rfl) (pv 2) (fun _ _=>rfl)) (JY (pv 3) (pv 2) Qk));have h3:PS (w6 P w K mg base a cdv A outer s H E) (bS yX 3) _:=(zQ (pv 3));refine body4 (by rfl) h0 h1 h2 h3 ?_
 intros
 clear h0 h1 h2 h3;have o1:∀ H:Hp,SqT K H a.gz3 (TQ 1):=T.sz3;obtain ⟨vl,hal,pl⟩:=tab.lines;have lvl:=Paired.length pl;have il:=(A3.mp hli).1;obtain ⟨v,hv⟩:=yz (l:=vl) (i:=i) (by omega);obtain ⟨l2,hl2,bl,rfl,sl,_⟩:=y7 pl hv;rw [hli] at hl2
 cases hl2
 obtain ⟨ln,lz⟩:=sz.ll li (Af hli);have hcut:cutV (intL li) none (some (-1))=intL (li.take t.heads.length):=by
  rw [cutInit (by rw [Av]; omega),Av,ln];exact (List.map_take ..).symm
 refine ⟨_,rfl,x,_,dx,_,_,rfl,hx,T.Cz4,T.nze,rfl,D.p,_,D.dx,_,_,rfl,tab.ins,T.Czg,T.nzo,rfl,_,rfl,D.an,_,_,_,rfl,rfl,SqL.of tab.names,atN (j7 hi),?_⟩;dsimp only;rw [v3];refine ⟨_,rfl,x,dx,_,rfl,hx,rfl,_,rfl,x,_,dx,_,_,rfl,hx,T.Cz4,T.nze,rfl,D.p,_,D.dx,_,_,rfl,tab.ins,T.Czg,T.nzn,rfl,_,rfl,D.al,_,_,_,rfl,rfl,SqL.of hal,atN hv,_,rfl,_,rfl,_,_,rfl,SqL.of sl,fun c hc=>?_⟩;rw [hcut];have g1:=qw hc (.lst (intL (li.take t.heads.length)));have ec:upd H c (.lst (intL (li.take t.heads.length))) c=some (.lst (intL (li.take t.heads.length))):=qj;generalize upd H c (.lst (intL (li.take t.heads.length)))=H1 at *;have one:∀ c:Rat,c/1=c:=fun c=>by rw [Bb]; grind
 refine ⟨x,dx,sc,ap,c,a.gz3,many,D,t,li.take t.heads.length,vsc,scs,1,rfl,g1 _ _ hx,tab.mono g1,sz,r400,SqL.of ec,by rw [Au]; omega,g1.seq hsc,RL.mono rsc g1,lsc,o1 _,by decide,⟨show (1:Int).natAbs<2^4000 from Nat.one_lt_two_pow (by decide),show (1:Int).natAbs<2^4000 from Nat.one_lt_two_pow (by decide)⟩,fun c hc=>⟨ssc c hc,by rw [one]; exact ssc c hc⟩,fun n hn=>sli n (List.mem_of_mem_take hn),fun j h n hj hn n0=>hroom j h n hj ?_ n0,fun lp ys H2 nlp g2 el rl=>?_⟩
 ·rw [A5 (A3.mp hj).1] at hn
  exact hn
 have gg:=g1.trans g2;have lvs:=Paired.length rsc;obtain ⟨vq,hvq⟩:=yz (l:=vsc) (i:=nm) (by omega);obtain ⟨cq,hcq,pq,rfl,epq⟩:=y7 rsc hvq;have ecq:=qZ (d:=0) hcq;have ly:=Paired.length rl;rw [QX] at ly;dsimp only;rw [v3];refine ⟨_,rfl,x,_,dx,_,_,rfl,gg _ _ hx,T.Cz4,T.nzd,rfl,_,rfl,sc,_,_,_,rfl,rfl,gg.seq hsc,atN hvq,_,rfl,_,rfl,lp,ys,_,nm,rfl,rfl,el,Y4 (by omega),?_⟩;refine ⟨_,rfl,q lp _ _ (zW g1 nlp) (fun b o e=>?_) qj ?_⟩
 ·rw [zZ fun z=>by rw [z,zW g1 nlp] at e; cases e]
  exact gg _ _ e
 ·rw [ecq]
  exact QY _ (Paired.mapP rl fun _ _ ⟨p,e1,e2⟩=>⟨p,e1,SqT.upd_lst e2 el⟩) ⟨pq,rfl,SqT.upd_lst (gg.tup epq) el⟩
def ptQ (names:List Nat) (rooms:Nat) (f:Nat→Rat) (i many:Nat):List Rat:=(List.range many).map fun k=>if rooms+k∈names.take i then f (rooms+k) else 0
theorem ptQ_len {names:List Nat} {rooms:Nat} {f:Nat→Rat} {i many:Nat}:(ptQ names rooms f i many).length=many:=by unfold ptQ; rw [Av,Ar]
theorem ptQ_zero {names:List Nat} {rooms:Nat} {f:Nat→Rat} {many:Nat}:ptQ names rooms f 0 many=List.replicate many 0:=by
 unfold ptQ;have:(fun k=>if rooms+k∈names.take 0 then f (rooms+k) else 0)=fun _=>(0:Rat):=by
  funext k
  rw [List.take_zero,if_neg (List.not_mem_nil)]
 rw [this,List.map_const',Ar]
theorem ptQ_room {names:List Nat} {rooms:Nat} {f:Nat→Rat} {i nm many:Nat} (hi:names[i]?=some nm) (lt:nm<rooms):ptQ names rooms f (i+1) many=ptQ names rooms f i many:=by
 unfold ptQ;refine List.map_congr_left fun k _=>?_
 rw [yv hi]
 by_cases c:rooms+k∈names.take i
 ·rw [if_pos c,if_pos (Ah _ c)]
 ·rw [if_neg c,if_neg fun z=>(Aw.mp z).elim c fun y=>by have:=Al.mp y; omega]
theorem ptQ_var {names:List Nat} {rooms:Nat} {f:Nat→Rat} {i nm many:Nat} (hi:names[i]?=some nm) (ge:rooms≤nm):ptQ names rooms f (i+1) many=(ptQ names rooms f i many).set (nm - rooms) (f nm):=by
 apply List.ext_getElem?
 intro j;unfold ptQ;rw [List.getElem?_set,List.getElem?_map,List.getElem?_map,Av,Ar]
 by_cases hj:j<many
 ·rw [List.getElem?_range hj]
  show some (if rooms+j∈names.take (i+1) then f (rooms+j) else 0)=if _ then _ else some (if rooms+j∈names.take i then f (rooms+j) else 0)
  by_cases e:nm - rooms=j
  ·have e2:rooms+j=nm:=by omega
   have m1:rooms+j∈names.take (i+1):=by rw [yv hi,e2]; exact Ac _ Am
   rw [if_pos m1,if_pos e,if_pos (by omega),e2]
  ·rw [if_neg e,yv hi]
   by_cases c:rooms+j∈names.take i
   ·rw [if_pos c,if_pos (Ah _ c)]
   ·rw [if_neg c,if_neg fun z=>(Aw.mp z).elim c fun y=>by have:=Al.mp y; omega]
 ·rw [Ae (by rw [Ar]; omega)]
  by_cases e:nm - rooms=j
  ·rw [if_pos e,if_neg (by omega)]
   rfl
  ·rw [if_neg e]
   rfl
def wayF (t:Tab) (c:Nat) (sg:Int) (F:Vecs) (m:Nat) (S:Sit) (h:Nat):Nat→Rat:=fun nm => -(gG F m S.Hd S.e (F nm) h)*(sg:Rat)
def spWay (K:Bc) (C CQ:Addr):Sp:=fun vs H Q _=>∃ (x dx sc am:Addr) (many c h:Nat) (sg:Int) (A:TA) (F:Vecs) (m:Nat) (G Gd:Nat→Int) (act:List Nat) (M:Nat) (S:Sit),vs=[.ref x,.int (c:Int)]∧H x=some (.ins CQ dx (questF A.p many sc am))∧TabAt C H A S.t∧Set0 F m G Gd act M (S.t.rooms+many) S∧many≤100∧S.t.heads[c]?=some h∧h<S.t.rooms+many∧sg=(if S.t.goal.getD c 0<0 then 1 else -1)∧∀ l ys H',H l=none→Same H H'→H' l=some (.lst ys)→RL K H' ys (if S.t.rooms≤h then (ptQ S.t.names S.t.rooms (wayF S.t c sg F m S h) S.t.names.length many).set (h - S.t.rooms) (sg:Rat) else ptQ S.t.names S.t.rooms (wayF S.t c sg F m S h) S.t.names.length many)→Q (.ref l) H'
abbrev jw (P w K mg base) (a:Adr) (cdv A outer s H E):=(cxOf CX0 P w K mg base ["self", "column", "tableau", "sign", "way", "name", "line"] "Quest.endless_way" (qQ yk) a.fz9 cdv A outer s H E).nox
theorem okz9 (T:Txt K mg a):FnOk P w K mg base CX0 3 a.fz9 a.dz9 ["self", "column"] (spWay K a.czg a.cz4):=by
 refine T.Fz9.ok jx (fun vs H Q E h=>?_) (fun cdv A outer s H vs Q E hr h=>?_)
 ·obtain ⟨_,_,_,_,_,_,_,_,_,_,_,_,_,_,_,_,rfl,_⟩:=h
  rfl
 obtain ⟨x,dx,sc,am,many,c,h,sg,D,F,m,G,Gd,act,M,S,rfl,hx,tab,set0,m100,hc,hlt,esg,q⟩:=h;have h0:PS (jw P w K mg base a cdv A outer s H E) (bS yk 0) _:=(zq (i:=2) jx.nd rfl (Or.inl rfl) (zk (pv 0) rfl));have h1:PS (jw P w K mg base a cdv A outer s H E) (bS yk 1) _:=(zq (i:=3) jx.nd rfl (Or.inl rfl) (Vx (zj op_lt (pe_ix zK (zk (pv 2) rfl) (pv 1) (fun _ _=>rfl)) qz (zv _)) qz (pe_un wZ qz)));have h2:PS (jw P w K mg base a cdv A outer s H E) (bS yk 2) _:=(zq (i:=4) jx.nd rfl (Or.inl rfl) (pe_op op_rep (w5 (pa_c (YJ (v:=.ref a.gz2) rfl T.mz2 rfl) qk)) (zk (pv 0) rfl)));have h3:PS (jw P w K mg base a cdv A outer s H E) (bS yk 3) _:=(Q4 PassesOwn.never rfl (pi_zip rfl T.m_zip (pa_c (zk (pv 2) rfl) (pa_c (zk (pv 2) rfl) qk))) (vZ rfl (zy (qW (i:=5) jx.nd rfl (Or.inl rfl)) (zy (qW (i:=6) jx.nd rfl (Or.inl rfl)) jy)))
    (qX (ps_if (zj op_ge (pv 5) (zk (pv 2) rfl) (zv _))
    (qX (k7 (qK (okys T) (hr.mono (by decide)) rfl T.mys T.Fys.kp T.bys .nil pass0 (pa_c (pe_op y9 (pe_un wZ (pe_ix zK (pv 6) (pv 1) (fun _ _=>rfl))) (pv 3)) (pa_c (zk (pv 2) rfl) qk))) (JY (pv 4) (pe_op Yk (pv 5) (zk (pv 2) rfl)) Qk)))
    y4)))
 have h4:PS (jw P w K mg base a cdv A outer s H E) (bS yk 4) _:=(ps_if (zj op_ge (pe_ix zK (zk (pv 2) rfl) (pv 1) (fun _ _=>rfl)) (zk (pv 2) rfl) (zv _))
    (qX (k7 (j4 (pa_c (pv 3) (pa_c qz qk))) (JY (pv 4) (pe_op Yk (pe_ix zK (zk (pv 2) rfl) (pv 1) (fun _ _=>rfl)) (zk (pv 2) rfl)) Qk)))
    y4)
 have h5:PS (jw P w K mg base a cdv A outer s H E) (bS yk 5) _:=(zQ (pv 4));refine body6 (by rfl) h0 h1 h2 h3 h4 h5 ?_
 intros
 clear h0 h1 h2 h3 h4 h5;have n0:∀ H:Hp,SqT K H a.gz2 (TQ 0):=T.sz2;have one:sg=1∨sg = -1:=by
  rw [esg]
  by_cases z:S.t.goal.getD c 0<0
  ·rw [if_pos z]; exact .inl rfl
  ·rw [if_neg z]; exact .inr rfl
 have sz:=set0.sz;have I:=set0.I;obtain ⟨gb,egb,gs,_⟩:=tab.goal
 cases egb
 have cl:=(A3.mp hc).1;obtain ⟨gc,hgc⟩:=yz (l:=S.t.goal) (i:=c) (by have:=sz.lg.1; omega);rw [qZ hgc] at esg;refine ⟨_,rfl,x,_,dx,_,_,rfl,hx,T.Cz4,T.nze,rfl,?_⟩;dsimp only;rw [v3];change tSeq _ _ _ [some (.ref x),some (.int (c:Int)),some (.ref D.p),none,none,none,none] H;refine seq_to (σ':=[some (.ref x),some (.int (c:Int)),some (.ref D.p),some (.int sg),none,none,none]) (H':=H) ?_ fun N hN=>?_
 case refine_2 =>
  refine ⟨_,rfl,D.p,_,D.dx,_,_,rfl,tab.ins,T.Czg,T.nzj,rfl,_,rfl,D.ag,_,_,_,rfl,rfl,SqL.of gs,atN (y8 hgc),_,_,rfl,rfl,_,rfl,?_⟩
  by_cases g0:gc<0
  ·rw [if_pos g0] at esg
   refine iteP g0 ?_;rw [esg] at hN;exact hN
  ·rw [if_neg g0] at esg
   refine iteN g0 ?_;rw [esg] at hN;exact ⟨_,rfl,hN⟩
 refine ⟨(show 1≤sizeLine by decide),fun l0 h0=>?_⟩;have g1:=qw h0 (.lst [V.ref a.gz2]);have e1:upd H l0 (.lst [V.ref a.gz2]) l0=some (.lst [V.ref a.gz2]):=qj;generalize upd H l0 (.lst [V.ref a.gz2])=H1 at *;refine ⟨_,rfl,x,_,dx,_,_,rfl,g1 _ _ hx,T.Cz4,T.nzb,rfl,l0,_,_,rfl,rfl,e1,by omega,by omega,?_,fun lp hlp=>?_⟩
 ·show 1*(many:Int).toNat≤sizeLine
  exact Nat.le_of_lt (zw (by omega))
 have er:(List.replicate (many:Int).toNat [V.ref a.gz2]).flatten=List.replicate many (V.ref a.gz2):=by
  rw [Int.toNat_natCast];exact List.flatten_replicate_singleton
 rw [er];have g2:=qw hlp (.lst (List.replicate many (V.ref a.gz2)));have e2:upd H1 lp (.lst (List.replicate many (V.ref a.gz2))) lp=some (.lst (List.replicate many (V.ref a.gz2))):=qj;have nlp:=zW g1 hlp;have g12:=g1.trans g2;have r0:RL K (upd H1 lp (.lst (List.replicate many (V.ref a.gz2)))) (List.replicate many (V.ref a.gz2)) (ptQ S.t.names S.t.rooms (wayF S.t c sg F m S h) 0 many):=by
  rw [ptQ_zero];exact W6 ⟨_,rfl,n0 _⟩
 clear g1 e1 hlp g2;generalize upd H1 lp (.lst (List.replicate many (V.ref a.gz2)))=H2 at *;dsimp only;rw [v3];obtain ⟨vl,hal,pl⟩:=tab.lines;have lvl:=Paired.length pl;have nl:=sz.nl;refine ⟨_,rfl,D.p,_,D.dx,_,_,rfl,g12 _ _ tab.ins,T.Czg,T.nzo,rfl,_,rfl,D.p,_,D.dx,_,_,rfl,g12 _ _ tab.ins,T.Czg,T.nzn,rfl,D.an,D.al,rfl,⟨_,SqL.of (g12 _ _ tab.names)⟩,⟨_,SqL.of (g12 _ _ hal)⟩,Z0 (n:=S.t.names.length) (fun i σ H'=>∃ (ys:List V) (u2 u3:Option V),σ=[some (.ref x),some (.int (c:Int)),some (.ref D.p),some (.int sg),some (.ref lp),u2,u3]∧Same H H'∧H' lp=some (.lst ys)∧RL K H' ys (ptQ S.t.names S.t.rooms (wayF S.t c sg F m S h) i many)) ⟨_,_,_,rfl,g12,e2,r0⟩ ?_ ?_ ?_⟩
 ·rintro σ H' ⟨ys,u2,u3,rfl,g,el,rl⟩
  refine ⟨⟨_,_,SqL.of (g _ _ tab.names),SqL.of (g _ _ hal),.inl (by rw [Av]; exact Nat.le_refl _)⟩,?_⟩;have ti:=g _ _ tab.ins;have ly:=Paired.length rl;rw [ptQ_len] at ly;refine ⟨_,rfl,D.p,_,D.dx,_,_,rfl,ti,T.Czg,T.nzl,rfl,_,rfl,D.ah,_,_,_,rfl,rfl,SqL.of (g _ _ tab.heads),atN (j7 hc),_,rfl,D.p,_,D.dx,_,_,rfl,ti,T.Czg,T.nzq,rfl,_,_,rfl,rfl,_,rfl,?_⟩
  by_cases c0:(S.t.rooms:Int)≤(h:Int)
  ·refine iteP c0 ?_
   have c1:S.t.rooms≤h:=by omega
   have ei:(h:Int) - (S.t.rooms:Int)=((h - S.t.rooms:Nat):Int):=by omega
   refine ⟨_,rfl,jZ,fun pr hpr=>?_⟩;have g4:=qw hpr (.tup (T2 sg 1));have e4:upd H' pr (.tup (T2 sg 1)) pr=some (.tup (T2 sg 1)):=qj;have el4:=g4 _ _ el;have rl4:=RL.mono rl g4;have gg:=g.trans g4;generalize upd H' pr (.tup (T2 sg 1))=H4 at *;refine ⟨_,rfl,_,rfl,D.p,_,D.dx,_,_,rfl,gg _ _ tab.ins,T.Czg,T.nzl,rfl,_,rfl,D.ah,_,_,_,rfl,rfl,SqL.of (gg _ _ tab.heads),atN (j7 hc),_,rfl,D.p,_,D.dx,_,_,rfl,gg _ _ tab.ins,T.Czg,T.nzq,rfl,_,_,rfl,rfl,lp,ys,_,h - S.t.rooms,rfl,congrArg V.int ei,el4,Y4 (by omega),?_⟩;refine ⟨_,rfl,q lp _ _ nlp (fun b o e=>?_) qj ?_⟩
   ·rw [zZ fun z=>by rw [z,nlp] at e; cases e]
    exact gg _ _ e
   ·rw [if_pos c1]
    exact QY _ (Paired.mapP rl4 fun _ _ ⟨p,e1,e2⟩=>⟨p,e1,SqT.upd_lst e2 el4⟩) ⟨pr,rfl,SqT.upd_lst (SqT.of e4) el4⟩
  ·refine iteN c0 ?_
   refine ⟨_,rfl,q lp ys H' nlp g el ?_⟩;rw [if_neg (by omega)];exact rl
 ·rintro i σ H' hi ⟨ys,u2,u3,rfl,g,el,rl⟩
  exact ⟨_,_,_,_,SqL.of (g _ _ tab.names),SqL.of (g _ _ hal),j7 (A7 hi),A7 (by omega)⟩
 ·rintro i σ H' x2 H3 hi ⟨ys,u2,u3,rfl,g,el,rl⟩ ⟨p2,z1,z2,hp2,rfl,rfl,v1,v2⟩
  obtain ⟨nm,hnm,rfl⟩:=Y0 (v1 _ (SqL.of (g _ _ tab.names)));have hv2:=v2 _ (SqL.of (g _ _ hal));obtain ⟨li,hli,bl,rfl,hbl,_⟩:=y7 pl hv2;have g3:=qw hp2 (.tup [V.int (nm:Int),V.ref bl]);have el3:=g3 _ _ el;have rl3:=RL.mono rl g3;have gg:=g.trans g3;have et:upd H' p2 (.tup [V.int (nm:Int),V.ref bl]) p2=some (.tup [V.int (nm:Int),V.ref bl]):=qj;generalize upd H' p2 (.tup [V.int (nm:Int),V.ref bl])=H3 at *;have ti3:=gg _ _ tab.ins;have lb3:=gg _ _ hbl;refine ⟨p2,_,rfl,SqT.of et,rfl,_,_,rfl,_,_,rfl,rfl,_,rfl,_,rfl,D.p,_,D.dx,_,_,rfl,ti3,T.Czg,T.nzq,rfl,_,_,rfl,rfl,_,rfl,?_⟩;have hll:=sz.ll li (Af hli);obtain ⟨z,hz⟩:=yz (l:=li) (i:=c) (by omega)
  by_cases c0:(S.t.rooms:Int)≤(nm:Int)
  ·refine iteP c0 ?_
   refine ⟨_,rfl,_,rfl,bl,_,_,_,rfl,rfl,SqL.of lb3,atN (y8 hz),_,rfl,_,rfl,_,_,rfl,rfl,mulOk (hll.2 z (Af hz)).neg (sg_sm one),_,rfl,D.p,_,D.dx,_,_,rfl,ti3,T.Czg,T.nzh,rfl,-z*sg,S.t.bot,rfl,sz.b0,Sm.mono sz.sb (by decide),fun pr H4 g4 hpr=>?_⟩;have lt:nm<S.t.rooms+many:=set0.kb nm (.inl (Af hnm));have el4:=g4 _ _ el3;have ti4:=g4 _ _ ti3;have rl4:=RL.mono rl3 g4;have ly:=Paired.length rl4;rw [ptQ_len] at ly;have ei:(nm:Int) - (S.t.rooms:Int)=((nm - S.t.rooms:Nat):Int):=by omega
   refine ⟨_,rfl,_,rfl,_,rfl,D.p,_,D.dx,_,_,rfl,ti4,T.Czg,T.nzq,rfl,_,_,rfl,rfl,lp,ys,_,nm - S.t.rooms,rfl,congrArg V.int ei,el4,Y4 (by omega),?_⟩;have vq:wayF S.t c sg F m S h nm=Rat.divInt (-z*sg) S.t.bot:=by
    have la:=Yv I hnm hli hc;rw [qZ hz] at la;unfold wayF;rw [As,Ay,Rat.intCast_neg,la,Bb];have b0:=Rat.ne_of_gt (botR I);grind
   have nr:=n_rat (t := -z*sg) (b:=S.t.bot) sz.b0;refine ⟨_,_,_,rfl,fun b o e=>?_,qj,?_⟩
   ·rw [zZ fun z=>by rw [z,nlp] at e; cases e]
    exact g4 _ _ (gg _ _ e)
   ·rw [ptQ_var hnm (by omega)]
    refine QY _ (Paired.mapP rl4 fun _ _ ⟨p,e1,e2⟩=>⟨p,e1,SqT.upd_lst e2 el4⟩) ⟨pr,rfl,?_⟩;rw [vq];show SqT K _ pr (T2 _ _);rw [← nr.1,← nr.2];exact SqT.upd_lst (SqT.of hpr) el4
  ·refine iteN c0 ?_
   refine ⟨ys,_,_,rfl,gg,el3,?_⟩;rw [ptQ_room hnm (by omega)];exact rl3
def Over1 (ts:List Int) (bot:Int) (qs:List Rat):Prop:=ts.length=qs.length∧∀ (i:Nat) (t:Int) (q:Rat),ts[i]?=some t→qs[i]?=some q→(t:Rat)=q*(bot:Rat)
theorem lcm_dv {b d:Int} {D:Nat} (hb:0<b) (hd:0<d) (h1:b∣(D:Int)) (h2:d∣(D:Int)):b.fdiv ((Int.gcd b d:Nat):Int)*d∣(D:Int):=by
 have gp:0<Int.gcd b d:=Int.gcd_pos_of_ne_zero_left d (by omega);obtain ⟨x,ex⟩:=Int.gcd_dvd_left b d;have gne:((Int.gcd b d:Nat):Int)≠0:=by omega
 have e:b.fdiv ((Int.gcd b d:Nat):Int)=x:=by
  have h:=A6 x gne;rw [← ex] at h;exact h
 rw [e];have k:((Int.gcd b d:Nat):Int)*(x*d)=((Int.gcd b d:Nat):Int)*((Int.lcm b d:Nat):Int):=by
  rw [← Int.mul_assoc,← ex,← Int.natCast_mul,Int.gcd_mul_lcm,Int.natCast_mul,Int.natAbs_of_nonneg (show 0≤b by omega),Int.natAbs_of_nonneg (show 0≤d by omega)]
 rw [Int.eq_of_mul_eq_mul_left gne k];exact Int.natCast_dvd_natCast.mpr (Int.lcm_dvd h1 h2)
theorem dvd_sm {u:Int} {D X:Nat} (h:u∣(D:Int)) (h0:0<D) (hX:D<2^X):Sm X u:=by
 have k:u.natAbs∣D:=by
  have:=Int.natAbs_dvd_natAbs.mpr h
  rwa [Ap] at this
 exact Ao (Nat.le_of_dvd h0 k) hX
def spOob (K:Bc):Sp:=fun vs H Q _=>∃ (l:Addr) (v:List V) (qs:List Rat) (B D X:Nat),vs=[.ref l]∧SqL K H l v∧RL K H v qs∧(∀ q∈qs,SmQ B q∧q.den∣D)∧qs.length≤100∧0<D∧D<2^X∧X≤8000∧B≤8000∧∀ (p H' ls:_) (ts:List Int) (bot:Int),Same H H'→H' p=some (.tup [.ref ls,.int bot])→H' ls=some (.lst (ts.map V.int))→H ls=none→0<bot→bot∣(D:Int)→(∀ t∈ts,Sm 16001 t)→Over1 ts bot qs→Q (.ref p) H'
theorem lcm_step {b d:Int} (hb:0<b) (hd:0<d):0<b.fdiv ((Int.gcd b d:Nat):Int)*d∧b∣b.fdiv ((Int.gcd b d:Nat):Int)*d∧d∣b.fdiv ((Int.gcd b d:Nat):Int)*d:=by
 have gp:0<Int.gcd b d:=Int.gcd_pos_of_ne_zero_left d (by omega);obtain ⟨x,ex⟩:=Int.gcd_dvd_left b d;obtain ⟨y,ey⟩:=Int.gcd_dvd_right b d;have gne:((Int.gcd b d:Nat):Int)≠0:=by omega
 have e:b.fdiv ((Int.gcd b d:Nat):Int)=x:=by
  have h:=A6 x gne;rw [← ex] at h;exact h
 rw [e];have xp:0<x:=by
  rcases Int.lt_trichotomy x 0 with z | z | z
  ·have:=Int.mul_neg_of_pos_of_neg (show 0<((Int.gcd b d:Nat):Int) by omega) z; omega
  ·rw [z] at ex; omega
  ·exact z
 refine ⟨Int.mul_pos xp hd,⟨y,?_⟩,⟨x,Int.mul_comm _ _⟩⟩
 calc x*d=x*(((Int.gcd b d:Nat):Int)*y):=by rw [← ey]
  _=(((Int.gcd b d:Nat):Int)*x)*y:=by ac_rfl
  _=b*y:=by rw [← ex]
abbrev Z2 (P w K mg base) (a:Adr) (cdv A outer s H E):=(cxOf CX0 P w K mg base ["several", "bottom", "one"] "over_one_bottom" (qQ jK) a.fyr cdv A outer s H E).nox
theorem okyr (T:Txt K mg a):FnOk P w K mg base CX0 2 a.fyr a.dyr ["several"] (spOob K):=by
 refine T.Fyr.ok kZ (fun vs H Q E h=>?_) (fun cdv A outer s H vs Q E hr h=>?_)
 ·obtain ⟨_,_,_,_,_,_,rfl,_⟩:=h
  rfl
 obtain ⟨l,v,qs,B,D,X,rfl,hl,r,sq,l100,D0',DX,X8,B8,q⟩:=h;have h0:PS (Z2 P w K mg base a cdv A outer s H E) (bS jK 0) _:=(zq (i:=1) kZ.nd rfl (Or.inr rfl) qz);have h1:PS (Z2 P w K mg base a cdv A outer s H E) (bS jK 1) _:=(Q4 PassesOwn.never rfl (yW (pv 0)) (qW (i:=2) kZ.nd rfl (Or.inl rfl))
    (qX (zq (i:=1) kZ.nd rfl (Or.inr rfl) (pe_op y9 (pe_op jW (pv 1) (qK (Vw T) (hr.mono (by decide)) rfl T.mzw T.Fzw.kp T.bzw .nil pass0 (pa_c (pv 1) (pa_c (pe_ix qY (pv 2) qz (fun _ _=>rfl)) qk)))) (pe_ix qY (pv 2) qz (fun _ _=>rfl))))))
 have h2:PS (Z2 P w K mg base a cdv A outer s H E) (bS jK 2) _:=(zQ (j4 (pa_c (vJ (N:=["one", "bottom"]) (ix:=[none,some 1]) ⟨rfl,rfl,rfl,rfl,⟨rfl,trivial⟩,rfl,⟨⟨rfl,Or.inr (Or.inl rfl),jj rfl,rfl,Or.inl rfl⟩,trivial⟩⟩ rfl (yW (pv 0)) (fun _=>(qW (i:=0) (show (["one", "bottom"]:List Str).Nodup by decide +kernel) rfl (Or.inl rfl))) (fun _ σ=>jQ rfl σ) (fun _=>yy) (fun _=>(pe_op y9 (pe_ix qY (pv 0) qz (fun _ _=>rfl)) (pe_op jW (pv 1) (pe_ix qY (pv 0) qz (fun _ _=>rfl)))))) (pa_c (pv 1) qk))));refine body3 (by rfl) h0 h1 h2 ?_
 intros
 clear h0 h1 h2;have lv:=r.length;refine ⟨_,rfl,l,rfl,⟨_,hl⟩,Z0 (n:=qs.length) (fun i σ H'=>H'=H∧∃ (u:Int) (u2:Option V),σ=[some (.ref l),some (.int u),u2]∧0<u∧u∣(D:Int)∧∀ j x,j<i→qs[j]?=some x→(x.den:Int)∣u)
  ⟨rfl,_,_,rfl,by decide,⟨(D:Int),(Int.one_mul _).symm⟩,fun j x hj _=>absurd hj (Az _)⟩ ?_ ?_ ?_⟩
 case refine_2 =>
  rintro i σ H' hi ⟨rfl,u,u2,rfl,up,us,ds⟩;exact ⟨_,_,hl,A7 (by omega)⟩
 case refine_3 =>
  rintro i σ H' x H2 hi ⟨rfl,u,u2,rfl,up,ud,ds⟩ ⟨rfl,y1⟩;have us:=dvd_sm ud D0' DX;obtain ⟨qa,ea,pa,rfl,ha⟩:=r.get (y1 _ hl);obtain ⟨sa,da⟩:=sq qa (Af ea);have dp:=(Y5 qa).pos;have k:=lcm_step up dp;have gne:((Int.gcd u (qa.den:Int):Nat):Int)≠0:=by
   have:=Int.gcd_pos_of_ne_zero_left (a:=u) (qa.den:Int) (by omega);omega
  have gs:Sm B ((Int.gcd u (qa.den:Int):Nat):Int):=sa.2.gcd_right (Z1 qa);have gd:((Int.gcd u (qa.den:Int):Nat):Int)∣u:=Int.gcd_dvd_left u _;refine ⟨_,rfl,_,rfl,_,rfl,_,_,_,_,rfl,rfl,ha,rfl,_,_,rfl,by omega,by omega,_,_,rfl,rfl,cdivB gne gs (by omega),_,rfl,_,_,_,_,rfl,rfl,ha,rfl,_,_,rfl,rfl,mulOk (us.fdiv gd gne) sa.2 (by omega),?_⟩;refine ⟨rfl,_,_,rfl,k.1,?_,fun j x hj hx=>?_⟩
  ·exact lcm_dv up dp ud (Int.natCast_dvd_natCast.mpr da)
  ·by_cases e:j=i
   ·subst e
    rw [ea] at hx;have e:=B0 hx;subst e;exact k.2.2
   ·exact Int.dvd_trans (ds j x (by omega) hx) k.2.1
 rintro σ H' ⟨rfl,u,u2,rfl,up,ud,ds⟩;have us:=dvd_sm ud D0' DX;refine ⟨⟨_,hl,by omega⟩,?_⟩;refine ⟨_,rfl,l,rfl,⟨_,hl⟩,j3 (n:=qs.length) (fun i ys H2=>H2=H'∧∃ ts:List Int,ts.length=i∧ys=ts.map V.int∧(∀ t∈ts,Sm 16001 t)∧∀ (j:Nat) (t:Int) (x:Rat),ts[j]?=some t→qs[j]?=some x→(t:Rat)=x*(u:Rat))
  ⟨rfl,[],rfl,rfl,fun t ht=>(by cases ht),fun j t x h=>(by simp at h)⟩ (zw (by omega)) ?_ ?_ ?_⟩
 case refine_2 =>
  rintro i ys H2 hi ⟨rfl,_⟩;exact ⟨_,_,hl,A7 (by omega)⟩
 case refine_3 =>
  rintro i m' ys H2 c x H3 hi ⟨rfl,ts,et,rfl,st,hts⟩ ⟨rfl,y1⟩ nx _;obtain ⟨qa,ea,pa,rfl,ha⟩:=r.get (y1 _ hl);have sa:=(sq qa (Af ea)).1;have dd:=ds i qa hi ea;refine Or.inl ⟨rfl,_,rfl,_,_,_,_,rfl,rfl,ha,rfl,_,rfl,_,rfl,_,_,_,_,rfl,rfl,ha,rfl,_,_,rfl,rfl,cdivB (Z1 qa) sa.2 (by omega),_,_,rfl,rfl,mulOk sa.1 (us.fdiv dd (Z1 qa)) (by omega),nx _ _ ⟨rfl,ts++[qa.num*u.fdiv (qa.den:Int)],by rw [Ak,et]; rfl,by rw [Ax]; rfl,fun t ht=>?_,fun j t x hj hx=>?_⟩⟩
  ·rcases Aw.mp ht with z | z
   ·exact st t z
   ·rw [Al.mp z]
    exact (sa.1.mul (us.fdiv dd (Z1 qa))).mono (by omega)
  ·by_cases e:j<i
   ·rw [A4 (by omega)] at hj
    exact hts j t x hj hx
   ·have hj':j<(ts++[qa.num*u.fdiv (qa.den:Int)]).length:=(A3.mp hj).1
    rw [Ak,Ab] at hj';have e2:j=i:=by omega
    subst e2;rw [A2 (by omega),et] at hj;have e3:qa.num*u.fdiv (qa.den:Int)=t:=by simpa using hj
    rw [ea] at hx;have e4:=B0 hx;subst e4;rw [← e3];exact first_rat dd
 rintro ys H2 ⟨rfl,ts,et,rfl,st,hts⟩;refine ⟨⟨_,hl,by omega⟩,fun D hD=>?_⟩;have gD:=qw hD (.lst (ts.map V.int));refine ⟨_,rfl,jZ,fun p hp=>?_⟩;have gp:=qw hp (.tup [.ref D,.int u]);exact q p _ D ts u (gD.trans gp) qj (gp _ _ qj) hD up ud st ⟨et,hts⟩
def RowOk (K:Bc) (H:Hp) (v:V) (row:List Rat×Rat):Prop:=∃ t l b vs,v=.ref t∧SqT K H t [.ref l,.ref b]∧SqL K H l vs∧H l=some (.lst vs)∧RL K H vs row.1∧SqT K H b (TQ row.2)
def RowL (K:Bc) (H:Hp) (vs:List V) (rows:List (List Rat×Rat)):Prop:=Paired (RowOk K H) vs rows
theorem RowOk.mono {K:Bc} {H H':Hp} {v:V} {r:List Rat×Rat} (h:RowOk K H v r) (g:Same H H'):RowOk K H' v r:=by
 obtain ⟨t,l,b,vs,e,h1,h2,h2',h3,h4⟩:=h;exact ⟨t,l,b,vs,e,g.tup h1,g.seq h2,g _ _ h2',h3.mono g,g.tup h4⟩
theorem RowL.mono {K:Bc} {H H':Hp} {vs:List V} {rs:List (List Rat×Rat)} (h:RowL K H vs rs) (g:Same H H'):RowL K H' vs rs:=Paired.mapP h fun _ _ q=>q.mono g
theorem RowL.length {K:Bc} {H:Hp} {vs:List V} {rs:List (List Rat×Rat)} (h:RowL K H vs rs):vs.length=rs.length:=Paired.length h
def mixQ:List (List Rat×Rat)→List Rat→List Rat→List Rat
 | (sh,bd)::rows,p::prices,acc=>mixQ rows prices (List.zipWith (fun t q=>t+p*q) acc (sh++[bd]))
 | _,_,acc=>acc
theorem mixQ_snoc:∀ (rows:List (List Rat×Rat)) (ps acc:List Rat) (r:List Rat×Rat) (p:Rat),rows.length=ps.length→mixQ (rows++[r]) (ps++[p]) acc=List.zipWith (fun t q=>t+p*q) (mixQ rows ps acc) (r.1++[r.2])
 | [],[],acc,r,p,_=>rfl
 | [],_::_,_,_,_,h=>by cases h
 | _::_,[],_,_,_,h=>by cases h
 | (sh,bd)::rows,q::ps,acc,r,p,h=>mixQ_snoc rows ps _ r p (by simpa using h)
theorem mixQ_len:∀ (rows:List (List Rat×Rat)) (ps acc:List Rat) (n:Nat),acc.length=n+1→(∀ r∈rows,r.1.length=n)→(mixQ rows ps acc).length=n+1
 | [],ps,acc,n,h,_=>by cases ps <;> exact h
 | _::_,[],acc,n,h,_=>h
 | (sh,bd)::rows,q::ps,acc,n,h,hr=>by
  refine mixQ_len rows ps _ n ?_ fun r hr'=>hr r (List.mem_cons_of_mem _ hr')
  have:=hr (sh,bd) Am;rw [List.length_zipWith,Ak,Ab,h];show min (n+1) (sh.length+1)=n+1;rw [this]; omega
theorem sumQ_add {f g:Nat→Rat}:∀ n:Nat,sumQ n (fun k=>f k+g k)=sumQ n f+sumQ n g
 | 0=>by show (0:Rat)=0+0; grind
 | n+1=>by
  show sumQ n (fun k=>f k+g k)+(f n+g n)=(sumQ n f+f n)+(sumQ n g+g n);rw [sumQ_add n];grind
theorem V9 {f:Nat→Rat}:∀ n:Nat,(∀ i,i<n→f i=0)→sumQ n f=0
 | 0,_=>rfl
 | n+1,h=>by
  show sumQ n f+f n=0;rw [V9 n fun i hi=>h i (by omega),h n (by omega)];grind
theorem sumQ_le {f g:Nat→Rat}:∀ n:Nat,(∀ i,i<n→f i≤g i)→sumQ n f≤sumQ n g
 | 0,_=>Rat.le_refl
 | n+1,h=>by
  have a:=sumQ_le n fun i hi=>h i (by omega)
  have b:=h n (by omega);show sumQ n f+f n≤sumQ n g+g n;grind
theorem sumQ_one {f g:Nat→Rat} {q:Nat} {v:Rat}:∀ n:Nat,q<n→(∀ i,i<n→i≠q→g i=f i)→g q=f q+v→sumQ n g=sumQ n f+v
 | 0,h,_,_=>absurd h (Az _)
 | n+1,h,k,e=>by
  show sumQ n g+g n=sumQ n f+f n+v
  by_cases c:q=n
  ·subst c
   rw [j8 q fun i hi=>k i (by omega) (by omega),e];grind
  ·rw [sumQ_one n (by omega) (fun i hi=>k i (by omega)) e,k n (by omega) (by omega)]
   grind
theorem sumQ_swap (f:Nat→Nat→Rat) (m:Nat):∀ n:Nat,sumQ n (fun i=>sumQ m fun j=>f i j)=sumQ m fun j=>sumQ n fun i=>f i j
 | 0=>(V9 m fun _ _=>rfl).symm
 | n+1=>by
  show sumQ n _+sumQ m (fun j=>f n j)=sumQ m fun j=>sumQ n (fun i=>f i j)+f n j
  rw [sumQ_swap f m n,← sumQ_add]
def rowG (rows:List (List Rat×Rat)) (x c:Nat):Rat:=((rows.getD x ([],0)).1++[(rows.getD x ([],0)).2]).getD c 0
def dotG (m:Nat) (as bs:List Rat):Rat:=sumQ m fun k=>as.getD k 0*bs.getD k 0
theorem rowG_lt {rows:List (List Rat×Rat)} {x c:Nat} {r:List Rat×Rat} (h:rows[x]?=some r) (hc:c<r.1.length):rowG rows x c=r.1.getD c 0:=by
 unfold rowG;rw [qZ h,A1,A4 hc,A1]
theorem rowG_last {rows:List (List Rat×Rat)} {x:Nat} {r:List Rat×Rat} (h:rows[x]?=some r):rowG rows x r.1.length=r.2:=by
 unfold rowG;rw [qZ h,A1,A2 (Nat.le_refl _),Nat.sub_self];rfl
theorem mixQ_at (c:Nat):∀ (rows:List (List Rat×Rat)) (ps acc:List Rat) (n:Nat),rows.length=ps.length→acc.length=n+1→(∀ r∈rows,r.1.length=n)→c≤n→(mixQ rows ps acc).getD c 0=acc.getD c 0+sumQ rows.length fun x=>ps.getD x 0*rowG rows x c
 | [],[],acc,n,_,_,_,_=>by
  show acc.getD c 0=acc.getD c 0+0;grind
 | [],_::_,_,_,h,_,_,_=>by cases h
 | _::_,[],_,_,h,_,_,_=>by cases h
 | (sh,bd)::rows,p::ps,acc,n,h,la,hr,hc=>by
  have ls:sh.length=n:=hr (sh,bd) Am;have lz:(List.zipWith (fun t q=>t+p*q) acc (sh++[bd])).length=n+1:=by
   rw [List.length_zipWith,Ak,Ab];omega
  show (mixQ rows ps (List.zipWith (fun t q=>t+p*q) acc (sh++[bd]))).getD c 0=_;rw [mixQ_at c rows ps _ n (by simpa using h) lz (fun r k=>hr r (List.mem_cons_of_mem _ k)) hc,List.length_cons,sumQ_first];have e1:(List.zipWith (fun t q=>t+p*q) acc (sh++[bd])).getD c 0=acc.getD c 0+p*(sh++[bd]).getD c 0:=by
   rw [A1,List.getElem?_zipWith,A1,A1,A7 (show c<acc.length by omega),A7 (show c<(sh++[bd]).length by rw [Ak,Ab]; omega)];rfl
  have e2:rowG ((sh,bd)::rows) 0 c=(sh++[bd]).getD c 0:=rfl;have e3:(fun x=>(p::ps).getD (x+1) 0*rowG ((sh,bd)::rows) (x+1) c)=fun x=>ps.getD x 0*rowG rows x c:=by
   funext x
   rfl
  rw [e1,e2,e3];show _=acc.getD c 0+(p*(sh++[bd]).getD c 0+_);grind
structure LineR (m:Nat) (lines:List (List Int)) (sc:List Rat) (rows:List (List Rat×Rat)):Prop where
 lr:rows.length=lines.length
 ls:sc.length=lines.length
 ll:∀ l∈lines,l.length=m+1
 rl:∀ r∈rows,r.1.length=m
 pos:∀ s∈sc,0<s
 eq:∀ x c,x<lines.length→c≤m→(((lines.getD x []).getD c 0:Int):Rat)=rowG rows x c*sc.getD x 0
structure GoalR (m:Nat) (gl:List Int) (am:Rat) (goal:List Rat):Prop where
 lg:gl.length=m+1
 lr:goal.length=m
 pos:0<am
 eq:∀ c,c<m→((gl.getD c 0:Int):Rat) = -(goal.getD c 0)*am
 last:gl.getD m 0=0
theorem prQ_no {heads:List Nat} {ns:List Int} {bot:Int} {scs:List Rat} {am:Rat} {rooms:Nat} {r:Nat}:∀ i,(∀ j,j<i→heads.getD j 0≠r)→(prQ heads ns bot scs am rooms i).getD r 0=0
 | 0,_=>by
  show (List.replicate rooms (0:Rat)).getD r 0=0;rw [A1,List.getElem?_replicate]
  split <;> rfl
 | i+1,h=>by
  have ih:=prQ_no (heads:=heads) (ns:=ns) (bot:=bot) (scs:=scs) (am:=am) (rooms:=rooms) (r:=r) i fun j hj=>h j (by omega)
  unfold prQ
  by_cases c:ns.getD i 0=0
  ·rw [if_pos c]; exact ih
  ·rw [if_neg c,A1,Aj (h i (by omega)),← A1]
   exact ih
theorem xw {l:List Rat} {i:Nat} {v:Rat} (h:i<l.length):(l.set i v).getD i 0=v:=by rw [A1,Aa h]; rfl
theorem Z9 {l:List Rat} {i j:Nat} {v:Rat} (h:i≠j):(l.set i v).getD j 0=l.getD j 0:=by rw [A1,Aj h,← A1]
theorem getD_inj {l:List Nat} (nd:l.Nodup) {i j:Nat} (hi:i<l.length) (hj:j<l.length) (e:l.getD i 0=l.getD j 0):i=j:=by
 rw [qZ (A7 hi),qZ (A7 hj)] at e;exact Vy nd (A7 hi) (by rw [A7 hj,e])
theorem prQ_succ {heads:List Nat} {ns:List Int} {bot:Int} {scs:List Rat} {am:Rat} {rooms i:Nat}:prQ heads ns bot scs am rooms (i+1)=if ns.getD i 0=0 then prQ heads ns bot scs am rooms i else (prQ heads ns bot scs am rooms i).set (heads.getD i 0) (Rat.divInt (ns.getD i 0) bot*(scs.getD (heads.getD i 0) 0/am)):=rfl
theorem prQ_sum {heads:List Nat} {ns:List Int} {bot:Int} {scs:List Rat} {am:Rat} {rooms:Nat} (nd:heads.Nodup) (f:Nat→Rat):∀ i,i≤heads.length→(∀ j,j<i→ns.getD j 0≠0→heads.getD j 0<rooms)→sumQ rooms (fun r=>(prQ heads ns bot scs am rooms i).getD r 0*f r)=sumQ i fun j=>Rat.divInt (ns.getD j 0) bot*(scs.getD (heads.getD j 0) 0/am)*f (heads.getD j 0)
 | 0,_,_=>by
  show _=(0:Rat);refine V9 _ fun r _=>?_
  rw [prQ_no 0 fun j hj=>absurd hj (Az _),Rat.zero_mul]
 | i+1,hi,h=>by
  have ih:=prQ_sum (ns:=ns) (bot:=bot) (scs:=scs) (am:=am) nd f i (by omega) fun j hj=>h j (by omega)
  show _=sumQ i _+_;rw [← ih,prQ_succ]
  by_cases c:ns.getD i 0=0
  ·rw [if_pos c]
   dsimp only;rw [c];have:Rat.divInt 0 bot=0:=by rw [As,Bb]; exact Rat.zero_mul _
   rw [this];grind
  ·have hr:=h i (by omega) c
   rw [if_neg c];refine sumQ_one (q:=heads.getD i 0) _ hr (fun r _ ne=>?_) ?_
   ·rw [Z9 (Ne.symm ne)]
   ·rw [xw (by rw [QX]; exact hr),prQ_no i fun j hj z=>by have:=getD_inj nd (show j<heads.length by omega) (show i<heads.length by omega) z; omega]
    grind
theorem prQ_nn {heads:List Nat} {ns:List Int} {bot:Int} {scs:List Rat} {am:Rat} {rooms:Nat} (hs:∀ j,j<heads.length→ns.getD j 0≠0→0≤Rat.divInt (ns.getD j 0) bot*(scs.getD (heads.getD j 0) 0/am)):∀ i,i≤heads.length→∀ q∈prQ heads ns bot scs am rooms i,0≤q
 | 0,_,q,hq=>by rw [List.eq_of_mem_replicate hq]; exact Rat.le_refl
 | i+1,hi,q,hq=>by
  have ih:=prQ_nn (rooms:=rooms) hs i (by omega);unfold prQ at hq
  by_cases c:ns.getD i 0=0
  ·rw [if_pos c] at hq
   exact ih q hq
  ·rw [if_neg c] at hq
   rcases List.mem_or_eq_of_mem_set hq with z | z
   ·exact ih q z
   ·rw [z]; exact hs i (by omega) c
section
variable {lines:List (List Int)} {gl:List Int} {sc goal:List Rat} {am:Rat} {rows:List (List Rat×Rat)} {m:Nat} {Gd:Nat→Int} {S:Sit}
theorem fam0_at {x c:Nat} (hx:x<lines.length) (hc:c<m):fam0 lines m x c = -((lines.getD x []).getD c 0):=by
 unfold fam0 vecL;rw [if_pos hx,if_pos hc]
theorem fam0_m {x:Nat} (hx:x<lines.length):fam0 lines m x m=(lines.getD x []).getD m 0:=by
 unfold fam0 vecL;rw [if_pos hx,if_neg (Nat.lt_irrefl _),if_pos rfl]
theorem heads_all (I:SitI (fam0 lines m) m (vecL m gl) Gd (List.range m) S):S.t.heads=yj m S.Hd:=by rw [I.heads]; rfl
theorem tell_c (I:SitI (fam0 lines m) m (vecL m gl) Gd (List.range m) S) {z:Nat→Int} (s:SuppG m z) (c:Nat):(z c:Rat)=vG (fam0 lines m) m S.Hd S.e z*(unitV m c:Rat)+sumQ m fun j => -gG (fam0 lines m) m S.Hd S.e z (S.t.heads.getD j 0)*(fam0 lines m (S.t.heads.getD j 0) c:Rat):=by
 have k:=tells_R I.gh s c;rw [k];unfold linR;rw [sumR_idx,x4,heads_all I]
theorem vG_lin (I:SitI (fam0 lines m) m (vecL m gl) Gd (List.range m) S) {z:Nat→Int} (s:SuppG m z):vG (fam0 lines m) m S.Hd S.e z=(z m:Rat)+sumQ m fun k=>(z k:Rat)*vG (fam0 lines m) m S.Hd S.e (unitV k):=by
 have b0:=bot_ne I.gh;have e:=nu_sum (F:=fam0 lines m) (m:=m) (Hd:=S.Hd) (e:=S.e) (k:=m) (by omega) s;have w:nuG (fam0 lines m) m S.Hd S.e (unitV m) m=botG (fam0 lines m) m S.Hd S.e:=by
  rw [← JK (F:=fam0 lines m) (m:=m) (Hd:=S.Hd)];exact nu_self
 have e2:sumTo (m+1) (fun j=>z j*nuG (fam0 lines m) m S.Hd S.e (unitV j) m)=sumTo m (fun j=>z j*nuG (fam0 lines m) m S.Hd S.e (unitV j) m)+z m*botG (fam0 lines m) m S.Hd S.e:=by
  show sumTo m _+z m*nuG (fam0 lines m) m S.Hd S.e (unitV m) m=_;rw [w]
 rw [e2] at e;unfold vG;rw [e,Rat.intCast_add,Vq,Ay,Bb];have e3:(sumQ m fun k=>(z k:Rat)*((nuG (fam0 lines m) m S.Hd S.e (unitV k) m:Rat)/(botG (fam0 lines m) m S.Hd S.e:Rat)))=(botG (fam0 lines m) m S.Hd S.e:Rat)⁻¹*sumQ m fun k=>((z k*nuG (fam0 lines m) m S.Hd S.e (unitV k) m:Int):Rat):=by
  rw [← vV];refine j8 _ fun k _=>?_
  rw [Ay,Bb];grind
 rw [e3];generalize (sumQ m fun k=>((z k*nuG (fam0 lines m) m S.Hd S.e (unitV k) m:Int):Rat))=X;generalize (botG (fam0 lines m) m S.Hd S.e:Rat)=b at *;have i1:b*b⁻¹=1:=Rat.mul_inv_cancel _ b0;grind
theorem gG_lin (I:SitI (fam0 lines m) m (vecL m gl) Gd (List.range m) S) {z:Nat→Int} (s:SuppG m z) {h:Nat} (hh:h∈S.t.heads):gG (fam0 lines m) m S.Hd S.e z h=sumQ m fun k=>(z k:Rat)*gG (fam0 lines m) m S.Hd S.e (unitV k) h:=by
 obtain ⟨q,hq,eh⟩:=yQ.mp (xq I hh);have e:=nu_sum (F:=fam0 lines m) (m:=m) (Hd:=S.Hd) (e:=S.e) (k:=q) (by omega) s;have w:nuG (fam0 lines m) m S.Hd S.e (unitV m) q=0:=by
  rw [← JK (F:=fam0 lines m) (m:=m) (Hd:=S.Hd)];exact nu_other (by omega) (by omega) (by omega)
 have e2:sumTo (m+1) (fun j=>z j*nuG (fam0 lines m) m S.Hd S.e (unitV j) q)=sumTo m (fun j=>z j*nuG (fam0 lines m) m S.Hd S.e (unitV j) q):=by
  show sumTo m _+z m*nuG (fam0 lines m) m S.Hd S.e (unitV m) q=_;rw [w];omega
 rw [e2] at e;rw [← eh,gG_at I.gh hq,e,Vq,Bb];have e3:(sumQ m fun k=>(z k:Rat)*gG (fam0 lines m) m S.Hd S.e (unitV k) (S.Hd q)) = -(botG (fam0 lines m) m S.Hd S.e:Rat)⁻¹*sumQ m fun k=>((z k*nuG (fam0 lines m) m S.Hd S.e (unitV k) q:Int):Rat):=by
  rw [← vV];refine j8 _ fun k _=>?_
  rw [gG_at I.gh hq,Ay,Bb];grind
 rw [e3];grind
theorem room_v (I:SitI (fam0 lines m) m (vecL m gl) Gd (List.range m) S) (L:LineR m lines sc rows) {pt:List Rat} (hp:∀ k,k<m→pt.getD k 0=vG (fam0 lines m) m S.Hd S.e (unitV k)) {x:Nat} {r:List Rat×Rat} (hr:rows[x]?=some r) :
  vG (fam0 lines m) m S.Hd S.e (fam0 lines m x)=(r.2 - dotG m r.1 pt)*sc.getD x 0:=by
 have hx:x<lines.length:=by rw [← L.lr]; exact (A3.mp hr).1
 have lr:=L.rl r (Af hr);rw [vG_lin I (VZ lines m x),fam0_m hx,L.eq x m hx (Nat.le_refl _)];have e1:rowG rows x m=r.2:=by rw [← lr]; exact rowG_last hr
 have e2:(sumQ m fun k=>(fam0 lines m x k:Rat)*vG (fam0 lines m) m S.Hd S.e (unitV k)) = -(sc.getD x 0)*dotG m r.1 pt:=by
  unfold dotG;rw [← vV];refine j8 _ fun k hk=>?_
  rw [fam0_at hx hk,Rat.intCast_neg,L.eq x k hx (by omega),rowG_lt hr (by omega),hp k hk];grind
 rw [e1,e2];grind
theorem goal_v (I:SitI (fam0 lines m) m (vecL m gl) Gd (List.range m) S) (L:GoalR m gl am goal) {pt:List Rat} (hp:∀ k,k<m→pt.getD k 0=vG (fam0 lines m) m S.Hd S.e (unitV k)) :
  vG (fam0 lines m) m S.Hd S.e (vecL m gl)/am=dotG m goal pt:=by
 rw [vG_lin I (ZQ m gl)];have e0:vecL m gl m=0:=by
  unfold vecL;rw [if_neg (Nat.lt_irrefl _),if_pos rfl,L.last]
 have e2:(sumQ m fun k=>(vecL m gl k:Rat)*vG (fam0 lines m) m S.Hd S.e (unitV k))=am*dotG m goal pt:=by
  unfold dotG;rw [← vV];refine j8 _ fun k hk=>?_
  have:vecL m gl k = -(gl.getD k 0):=by unfold vecL; rw [if_pos hk]
  rw [this,Rat.intCast_neg,L.eq k hk,hp k hk];grind
 rw [e0,e2,Bb];have a0:am≠0:=Rat.ne_of_gt L.pos;have i1:am*am⁻¹=1:=Rat.mul_inv_cancel _ a0;show ((0:Rat)+_)*_=_;grind
theorem room_g (I:SitI (fam0 lines m) m (vecL m gl) Gd (List.range m) S) (L:LineR m lines sc rows) {h:Nat} (hh:h∈S.t.heads) {wy:List Rat} {sg:Rat} (hp:∀ k,k<m→wy.getD k 0 = -gG (fam0 lines m) m S.Hd S.e (unitV k) h*sg) {x:Nat} {r:List Rat×Rat} (hr:rows[x]?=some r) :
  dotG m r.1 wy*sc.getD x 0=gG (fam0 lines m) m S.Hd S.e (fam0 lines m x) h*sg:=by
 have hx:x<lines.length:=by rw [← L.lr]; exact (A3.mp hr).1
 have lr:=L.rl r (Af hr);rw [gG_lin I (VZ lines m x) hh];have e2:dotG m r.1 wy*sc.getD x 0=sg*sumQ m fun k=>(fam0 lines m x k:Rat)*gG (fam0 lines m) m S.Hd S.e (unitV k) h:=by
  unfold dotG;rw [Rat.mul_comm,← vV,← vV];refine j8 _ fun k hk=>?_
  rw [fam0_at hx hk,Rat.intCast_neg,L.eq x k hx (by omega),rowG_lt hr (by omega),hp k hk];grind
 rw [e2];grind
theorem goal_g (I:SitI (fam0 lines m) m (vecL m gl) Gd (List.range m) S) (L:GoalR m gl am goal) {h:Nat} (hh:h∈S.t.heads) {wy:List Rat} {sg:Rat} (hp:∀ k,k<m→wy.getD k 0 = -gG (fam0 lines m) m S.Hd S.e (unitV k) h*sg) :
  dotG m goal wy*am = -gG (fam0 lines m) m S.Hd S.e (vecL m gl) h*sg:=by
 rw [gG_lin I (ZQ m gl) hh];have e2:dotG m goal wy*am = -sg*sumQ m fun k=>(vecL m gl k:Rat)*gG (fam0 lines m) m S.Hd S.e (unitV k) h:=by
  unfold dotG;rw [Rat.mul_comm,← vV,← vV];refine j8 _ fun k hk=>?_
  have:vecL m gl k = -(gl.getD k 0):=by unfold vecL; rw [if_pos hk]
  rw [this,Rat.intCast_neg,L.eq k hk,hp k hk];grind
 rw [e2];grind
theorem price_room (I:SitI (fam0 lines m) m (vecL m gl) Gd (List.range m) S) {z:Nat→Int} (un:∀ h∈S.t.heads,lines.length≤h→gG (fam0 lines m) m S.Hd S.e z h=0)
  {ns:List Int} (hn:∀ j h,S.t.heads[j]?=some h→((ns.getD j 0:Int):Rat)=gG (fam0 lines m) m S.Hd S.e z h*(S.t.bot:Rat)) {j h:Nat} (hj:S.t.heads[j]?=some h) (n0:ns.getD j 0≠0):S.t.heads.getD j 0<lines.length:=Classical.byContradiction fun ge=>by
 have e:=un _ (Af hj) (by rw [qZ hj] at ge; omega);refine n0 (Rat.intCast_inj.mp ?_);rw [hn j _ hj,e];show (0:Rat)*_=0;exact Rat.zero_mul _
theorem price_mix (I:SitI (fam0 lines m) m (vecL m gl) Gd (List.range m) S) (L:LineR m lines sc rows) {z:Nat→Int} (s:SuppG m z) (am0:0<am) (un:∀ h∈S.t.heads,lines.length≤h→gG (fam0 lines m) m S.Hd S.e z h=0)
  {ns:List Int} (hn:∀ j h,S.t.heads[j]?=some h→((ns.getD j 0:Int):Rat)=gG (fam0 lines m) m S.Hd S.e z h*(S.t.bot:Rat)) {c:Nat} (hc:c≤m) :
  sumQ lines.length (fun r=>(prQ S.t.heads ns S.t.bot sc am lines.length S.t.heads.length).getD r 0*rowG rows r c)=if c<m then (z c:Rat)/am else (vG (fam0 lines m) m S.Hd S.e z - (z m:Rat))/am:=by
 have b0:=Rat.ne_of_gt (botR I);have hl:S.t.heads.length=m:=by rw [heads_all I,x4]
 have nq:∀ j h,S.t.heads[j]?=some h→Rat.divInt (ns.getD j 0) S.t.bot=gG (fam0 lines m) m S.Hd S.e z h:=fun j h hj=>by
  rw [As,hn j h hj,Bb];have i1:(S.t.bot:Rat)*(S.t.bot:Rat)⁻¹=1:=Rat.mul_inv_cancel _ b0;grind
 rw [prQ_sum (heads_nd I) _ _ (Nat.le_refl _) fun j hj=>price_room I un hn (A7 hj),hl];have k:=tell_c I s c;have i1:am*am⁻¹=1:=Rat.mul_inv_cancel _ (Rat.ne_of_gt am0)
 by_cases c0:c<m
 ·rw [if_pos c0]
  have u0:unitV m c=0:=by unfold unitV; rw [if_neg (by omega)]
  rw [u0] at k;have e:(sumQ m fun j=>Rat.divInt (ns.getD j 0) S.t.bot*(sc.getD (S.t.heads.getD j 0) 0/am)*rowG rows (S.t.heads.getD j 0) c)=am⁻¹*sumQ m fun j => -gG (fam0 lines m) m S.Hd S.e z (S.t.heads.getD j 0)*(fam0 lines m (S.t.heads.getD j 0) c:Rat):=by
   rw [← vV];refine j8 _ fun j hj=>?_
   have kj:S.t.heads[j]?=some S.t.heads[j]:=A7 (by omega);rw [qZ kj,nq j _ kj]
   by_cases hr:S.t.heads[j]<lines.length
   ·have q:=L.eq S.t.heads[j] c hr hc
    rw [fam0_at hr c0,Rat.intCast_neg,q,Bb];grind
   ·rw [un _ (At _) (by omega)]
    grind
  rw [e,k,Bb];show _=(_*(0:Rat)+_)*_;grind
 ·have cm:c=m:=by omega
  subst cm;rw [if_neg c0];have u0:unitV c c=1:=by unfold unitV; rw [if_pos rfl]
  rw [u0] at k;have e:(sumQ c fun j=>Rat.divInt (ns.getD j 0) S.t.bot*(sc.getD (S.t.heads.getD j 0) 0/am)*rowG rows (S.t.heads.getD j 0) c) = -am⁻¹*sumQ c fun j => -gG (fam0 lines c) c S.Hd S.e z (S.t.heads.getD j 0)*(fam0 lines c (S.t.heads.getD j 0) c:Rat):=by
   rw [← vV];refine j8 _ fun j hj=>?_
   have kj:S.t.heads[j]?=some S.t.heads[j]:=A7 (by omega);rw [qZ kj,nq j _ kj]
   by_cases hr:S.t.heads[j]<lines.length
   ·have q:=L.eq S.t.heads[j] c hr hc
    rw [fam0_m hr,q,Bb];grind
   ·rw [un _ (At _) (by omega)]
    grind
  rw [e,k,Bb];show _=(_ - (_*(1:Rat)+_))*_;grind
set_option genInjectivity false in
set_option genSizeOf false in
inductive AnsQ where
 | empty (ps:List Rat)
 | endless (pt wy:List Rat)
 | most (v:Rat) (pt ps:List Rat)
def ZV (m:Nat) (rows:List (List Rat×Rat)) (goal:List Rat):AnsQ→Prop
 | .empty ps=>ps.length=rows.length∧(∀ p∈ps,0≤p)∧∃ b,b<0∧mixQ rows ps (List.replicate (m+1) 0)=List.replicate m 0++[b]
 | .endless pt wy=>pt.length=m∧wy.length=m∧(∀ r∈rows,dotG m r.1 pt≤r.2)∧(∀ r∈rows,dotG m r.1 wy≤0)∧0<dotG m goal wy
 | .most v pt ps=>pt.length=m∧ps.length=rows.length∧(∀ r∈rows,dotG m r.1 pt≤r.2)∧(∀ p∈ps,0≤p)∧dotG m goal pt=v∧mixQ rows ps (List.replicate (m+1) 0)=goal++[v]
theorem pos_le_of {a b:Rat} (hb:0<b) (h:0≤a*b):0≤a:=W2 (c:=b) (by rw [Rat.zero_mul]; exact h) hb
theorem sc_pos (L:LineR m lines sc rows) {x:Nat} (hx:x<lines.length):0<sc.getD x 0:=by
 have hx2:x<sc.length:=by rw [L.ls]; exact hx
 rw [qZ (A7 hx2)];exact L.pos _ (At hx2)
theorem list_at {l:List Rat} {n:Nat} {k:List Rat} (h1:l.length=n) (h2:k.length=n) (h:∀ c,c<n→l.getD c 0=k.getD c 0):l=k:=by
 apply List.ext_getElem?
 intro c
 by_cases hc:c<n
 ·have e:=h c hc
  rw [qZ (A7 (by omega)),qZ (A7 (by omega))] at e;rw [A7 (by omega),A7 (by omega),e]
 ·rw [Ae (by omega),Ae (by omega)]
theorem V7 (n c:Nat):(List.replicate n (0:Rat)).getD c 0=0:=by
 rw [A1,List.getElem?_replicate]
 split <;> rfl
theorem snoc_at {l:List Rat} {v:Rat} {m c:Nat} (h:l.length=m) (hc:c≤m):(l++[v]).getD c 0=if c<m then l.getD c 0 else v:=by
 by_cases k:c<m
 ·rw [if_pos k,A1,A4 (by omega),← A1]
 ·rw [if_neg k,A1,A2 (by omega),show c - l.length=0 by omega]
  rfl
theorem mix_is (L:LineR m lines sc rows) {ps k:List Rat} {v:Rat} (lp:ps.length=rows.length) (lk:k.length=m) (h:∀ c,c≤m→sumQ lines.length (fun r=>ps.getD r 0*rowG rows r c)=if c<m then k.getD c 0 else v):mixQ rows ps (List.replicate (m+1) 0)=k++[v]:=by
 refine list_at (n:=m+1) (mixQ_len rows ps _ m Ad L.rl) (by rw [Ak,lk]; rfl) fun c hc=>?_
 rw [mixQ_at c rows ps _ m lp.symm Ad L.rl (by omega),V7,L.lr,h c (by omega),snoc_at lk (by omega)];grind
theorem keeps_of (I:SitI (fam0 lines m) m (vecL m gl) Gd (List.range m) S) (L:LineR m lines sc rows) (uni:∀ x,x<lines.length+m→x∈S.t.names∨x∈yj m S.Hd) (rm:S.t.rooms=lines.length) (fe:∀ y∈S.t.names,y<S.t.rooms→0≤vG (fam0 lines m) m S.Hd S.e (fam0 lines m y)) {pt:List Rat} (hp:∀ k,k<m→pt.getD k 0=vG (fam0 lines m) m S.Hd S.e (unitV k)):∀ r∈rows,dotG m r.1 pt≤r.2:=fun r hr=>by
 obtain ⟨x,hx⟩:=Ag hr;have xl:x<lines.length:=by rw [← L.lr]; exact (A3.mp hx).1
 have e:=room_v I L hp hx;have nn:0≤vG (fam0 lines m) m S.Hd S.e (fam0 lines m x):=by
  rcases uni x (by omega) with z | z
  ·exact fe x z (by omega)
  ·obtain ⟨k,hk,ek⟩:=yQ.mp z
   rw [← ek,v_head I.gh hk];exact Rat.le_refl
 rw [e] at nn;have:=pos_le_of (sc_pos L xl) nn;grind
theorem right_most (I:SitI (fam0 lines m) m (vecL m gl) Gd (List.range m) S) (L:LineR m lines sc rows) (LG:GoalR m gl am goal) (uni:∀ x,x<lines.length+m→x∈S.t.names∨x∈yj m S.Hd) (rm:S.t.rooms=lines.length)
  (fe:∀ y∈S.t.names,y<S.t.rooms→0≤vG (fam0 lines m) m S.Hd S.e (fam0 lines m y)) (opt:∀ h∈S.t.heads,0≤gG (fam0 lines m) m S.Hd S.e (vecL m gl) h∧(S.t.rooms≤h→gG (fam0 lines m) m S.Hd S.e (vecL m gl) h=0))
  {pt:List Rat} (lp:pt.length=m) (hp:∀ k,k<m→pt.getD k 0=vG (fam0 lines m) m S.Hd S.e (unitV k)) {ns:List Int} (hn:∀ j h,S.t.heads[j]?=some h→((ns.getD j 0:Int):Rat)=gG (fam0 lines m) m S.Hd S.e (vecL m gl) h*(S.t.bot:Rat)) :
  ZV m rows goal (.most (vG (fam0 lines m) m S.Hd S.e (vecL m gl)/am) pt (prQ S.t.heads ns S.t.bot sc am lines.length S.t.heads.length)):=by
 have un:∀ h∈S.t.heads,lines.length≤h→gG (fam0 lines m) m S.Hd S.e (vecL m gl) h=0:=fun h hh ge=>(opt h hh).2 (by omega)
 refine ⟨lp,by rw [QX,L.lr],keeps_of I L uni rm fe hp,prQ_nn (fun j hj n0=>?_) _ (Nat.le_refl _),(goal_v I LG hp).symm,mix_is L (by rw [QX,L.lr]) LG.lr fun c hc=>?_⟩
 ·have kj:=A7 hj
  have hr:=price_room I un hn kj n0;have g:=(opt _ (At hj)).1;have e:Rat.divInt (ns.getD j 0) S.t.bot=gG (fam0 lines m) m S.Hd S.e (vecL m gl) S.t.heads[j]:=by
   have b0:=Rat.ne_of_gt (botR I);rw [As,hn j _ kj,Bb];have i1:(S.t.bot:Rat)*(S.t.bot:Rat)⁻¹=1:=Rat.mul_inv_cancel _ b0;grind
  rw [e];exact Rat.mul_nonneg g (J4 (Rat.le_of_lt (sc_pos L hr)) LG.pos)
 ·rw [price_mix I L (ZQ m gl) LG.pos un hn hc]
  by_cases c0:c<m
  ·rw [if_pos c0,if_pos c0]
   have:vecL m gl c = -(gl.getD c 0):=by unfold vecL; rw [if_pos c0]
   rw [this,Rat.intCast_neg,LG.eq c c0,Bb];have i1:am*am⁻¹=1:=Rat.mul_inv_cancel _ (Rat.ne_of_gt LG.pos);grind
  ·rw [if_neg c0,if_neg c0]
   have e0:vecL m gl m=0:=by
    unfold vecL;rw [if_neg (Nat.lt_irrefl _),if_pos rfl,LG.last]
   rw [e0];show (_ - (0:Rat))/am=_
   congr 1
   grind
theorem right_empty (I:SitI (fam0 lines m) m (vecL m gl) Gd (List.range m) S) (L:LineR m lines sc rows) (rm:S.t.rooms=lines.length) (se:Seat (fam0 lines m) m S) {x:Nat} (hx:x∈S.t.names) (xr:x<S.t.rooms) (neg:vG (fam0 lines m) m S.Hd S.e (fam0 lines m x)<0)
  (nn:∀ h∈S.t.heads,0≤gG (fam0 lines m) m S.Hd S.e (fam0 lines m x) h) {ns:List Int} (hn:∀ j h,S.t.heads[j]?=some h→((ns.getD j 0:Int):Rat)=gG (fam0 lines m) m S.Hd S.e (fam0 lines m x) h*(S.t.bot:Rat)) :
  ZV m rows goal (.empty ((prQ S.t.heads ns S.t.bot sc 1 lines.length S.t.heads.length).set x (sc.getD x 0))):=by
 have xl:x<lines.length:=by omega
 have un:∀ h∈S.t.heads,lines.length≤h→gG (fam0 lines m) m S.Hd S.e (fam0 lines m x) h=0:=fun h hh ge=>se h hh (by omega) x hx xr
 have sp:=sc_pos L xl;have no:(prQ S.t.heads ns S.t.bot sc 1 lines.length S.t.heads.length).getD x 0=0:=prQ_no _ fun j hj z=>by
  rw [qZ (A7 hj)] at z;exact Yj I (xq I (by rw [← z]; exact At hj)) hx
 refine ⟨by rw [List.length_set,QX,L.lr],fun p hp=>?_,vG (fam0 lines m) m S.Hd S.e (fam0 lines m x),neg,mix_is L (by rw [List.length_set,QX,L.lr]) Ad fun c hc=>?_⟩
 ·rcases List.mem_or_eq_of_mem_set hp with z | z
  ·refine prQ_nn (fun j hj n0=>?_) _ (Nat.le_refl _) p z
   have kj:=A7 hj;have hr:=price_room I un hn kj n0;have g:=nn _ (At hj);have e:Rat.divInt (ns.getD j 0) S.t.bot=gG (fam0 lines m) m S.Hd S.e (fam0 lines m x) S.t.heads[j]:=by
    have b0:=Rat.ne_of_gt (botR I);rw [As,hn j _ kj,Bb];have i1:(S.t.bot:Rat)*(S.t.bot:Rat)⁻¹=1:=Rat.mul_inv_cancel _ b0;grind
   rw [e];exact Rat.mul_nonneg g (J4 (Rat.le_of_lt (sc_pos L hr)) (by decide))
  ·rw [z]; exact Rat.le_of_lt sp
 ·rw [sumQ_one (f:=fun r=>(prQ S.t.heads ns S.t.bot sc 1 lines.length S.t.heads.length).getD r 0*rowG rows r c) (q:=x) (v:=sc.getD x 0*rowG rows x c) _ xl (fun r _ ne=>by rw [Z9 (Ne.symm ne)]) (by rw [xw (by rw [QX]; exact xl),no]; grind),price_mix I L (VZ lines m x) (by decide) un hn hc]
  have q:=L.eq x c xl hc
  by_cases c0:c<m
  ·rw [if_pos c0,if_pos c0,V7,fam0_at xl c0,Rat.intCast_neg,q,Bb]
   have i1:(1:Rat)⁻¹=1:=by grind
   rw [i1];grind
  ·have cm:c=m:=by omega
   subst cm;rw [if_neg c0,if_neg c0,fam0_m xl,q,Bb];have i1:(1:Rat)⁻¹=1:=by grind
   rw [i1];grind
theorem right_endless (I:SitI (fam0 lines m) m (vecL m gl) Gd (List.range m) S) (L:LineR m lines sc rows) (LG:GoalR m gl am goal) (uni:∀ x,x<lines.length+m→x∈S.t.names∨x∈yj m S.Hd) (rm:S.t.rooms=lines.length) (se:Seat (fam0 lines m) m S)
  (fe:∀ y∈S.t.names,y<S.t.rooms→0≤vG (fam0 lines m) m S.Hd S.e (fam0 lines m y)) {h:Nat} (hh:h∈S.t.heads) (ri:gG (fam0 lines m) m S.Hd S.e (vecL m gl) h<0∨(gG (fam0 lines m) m S.Hd S.e (vecL m gl) h≠0∧S.t.rooms≤h))
  (le:∀ y∈S.t.names,y<S.t.rooms→gG (fam0 lines m) m S.Hd S.e (fam0 lines m y) h≤0)
  {pt wy:List Rat} (lp:pt.length=m) (lw:wy.length=m) (hp:∀ k,k<m→pt.getD k 0=vG (fam0 lines m) m S.Hd S.e (unitV k)) {sg:Rat} (es:sg=if gG (fam0 lines m) m S.Hd S.e (vecL m gl) h<0 then 1 else -1) (hw:∀ k,k<m→wy.getD k 0 = -gG (fam0 lines m) m S.Hd S.e (unitV k) h*sg) :
  ZV m rows goal (.endless pt wy):=by
 refine ⟨lp,lw,keeps_of I L uni rm fe hp,fun r hr=>?_,?_⟩
 ·obtain ⟨x,hx⟩:=Ag hr
  have xl:x<lines.length:=by rw [← L.lr]; exact (A3.mp hx).1
  have e:=room_g I L hh hw hx;have nn:gG (fam0 lines m) m S.Hd S.e (fam0 lines m x) h*sg≤0:=by
   by_cases g0:gG (fam0 lines m) m S.Hd S.e (vecL m gl) h<0
   ·rw [if_pos g0] at es
    rw [es,Rat.mul_one]
    rcases uni x (by omega) with z | z
    ·exact le x z (by omega)
    ·obtain ⟨k,hk,ek⟩:=yQ.mp z
     obtain ⟨q,hq,eq⟩:=yQ.mp (xq I hh)
     by_cases kq:k=q
     ·rw [← ek,← eq,kq,g_head I.gh hq]
      decide
     ·rw [← ek,← eq,g_other I hk hq (Ne.symm kq)]
      exact Rat.le_refl
   ·have hr2:S.t.rooms≤h:=by
     rcases ri with z | z
     ·exact absurd z g0
     ·exact z.2
    have z0:gG (fam0 lines m) m S.Hd S.e (fam0 lines m x) h=0:=by
     rcases uni x (by omega) with z | z
     ·exact se h hh hr2 x z (by omega)
     ·obtain ⟨k,hk,ek⟩:=yQ.mp z
      obtain ⟨q,hq,eq⟩:=yQ.mp (xq I hh)
      by_cases kq:k=q
      ·exact absurd (show x=h by rw [← ek,← eq,kq]) (by omega)
      ·rw [← ek,← eq,g_other I hk hq (Ne.symm kq)]
    rw [z0,Rat.zero_mul];exact Rat.le_refl
  rw [← e] at nn;have:=pos_le_of (a := -dotG m r.1 wy) (sc_pos L xl) (by grind);grind
 ·have e:=goal_g I LG hh hw
  have p:0 < -gG (fam0 lines m) m S.Hd S.e (vecL m gl) h*sg:=by
   by_cases g0:gG (fam0 lines m) m S.Hd S.e (vecL m gl) h<0
   ·rw [if_pos g0] at es
    rw [es];grind
   ·rw [if_neg g0] at es
    have n0:gG (fam0 lines m) m S.Hd S.e (vecL m gl) h≠0:=by
     rcases ri with z | z
     ·exact absurd z g0
     ·exact z.1
    rw [es];grind
  rw [← e] at p;refine Classical.byContradiction fun n=>?_
  have a:=Rat.mul_le_mul_of_nonneg_right (Rat.not_lt.mp n) (Rat.le_of_lt LG.pos);grind
end
theorem mix_dot {m:Nat} {rows:List (List Rat×Rat)} {ps k pt:List Rat} {v:Rat} (rl:∀ r∈rows,r.1.length=m) (lp:ps.length=rows.length) (lk:k.length=m) (h:mixQ rows ps (List.replicate (m+1) 0)=k++[v]) :
  dotG m k pt=sumQ rows.length (fun x=>ps.getD x 0*dotG m (rows.getD x ([],0)).1 pt)∧v=sumQ rows.length fun x=>ps.getD x 0*(rows.getD x ([],0)).2:=by
 have at_:∀ c,c≤m→(k++[v]).getD c 0=sumQ rows.length fun x=>ps.getD x 0*rowG rows x c:=fun c hc=>by
  rw [← h,mixQ_at c rows ps _ m lp.symm Ad rl hc,V7];grind
 have row:∀ x,x<rows.length→∀ c,rowG rows x c=(rows[x]?.getD ([],0)).1.getD c 0∨m≤c:=fun x hx c=>by
  by_cases hc:c<m
  ·left
   have hr:rows[x]?=some rows[x]:=A7 hx;rw [rowG_lt hr (by rw [rl _ (At hx)]; exact hc),hr];rfl
  ·right; omega
 constructor
 ·unfold dotG
  have e:(fun x=>ps.getD x 0*sumQ m fun c=>(rows.getD x ([],0)).1.getD c 0*pt.getD c 0)=fun x=>sumQ m fun c=>ps.getD x 0*((rows.getD x ([],0)).1.getD c 0*pt.getD c 0):=by
   funext x
   rw [← vV]
  rw [e,sumQ_swap];refine j8 _ fun c hc=>?_
  have a:=at_ c (by omega);rw [snoc_at lk (by omega),if_pos hc] at a;rw [a,Rat.mul_comm,← vV];refine j8 _ fun x hx=>?_
  have hr:rows[x]?=some rows[x]:=A7 hx;rw [rowG_lt hr (by rw [rl _ (At hx)]; exact hc),qZ hr];grind
 ·have a:=at_ m (Nat.le_refl _)
  rw [snoc_at lk (Nat.le_refl _),if_neg (Nat.lt_irrefl _)] at a;rw [a];refine j8 _ fun x hx=>?_
  have hr:rows[x]?=some rows[x]:=A7 hx;have l1:=rl _ (At hx);have e:=rowG_last hr;rw [l1] at e;rw [e,qZ hr]
theorem getD_mem {l:List (List Rat×Rat)} {x:Nat} (h:x<l.length):l.getD x ([],0)∈l:=by
 rw [qZ (A7 h)];exact At h
theorem getD_nn {l:List Rat} (h:∀ p∈l,0≤p) (x:Nat):0≤l.getD x 0:=by
 rw [A1]
 cases e:l[x]? with
 | none=>exact Rat.le_refl
 | some p=>exact h p (Af e)
theorem mix_bound {m:Nat} {rows:List (List Rat×Rat)} {ps k pt:List Rat} {v:Rat} (rl:∀ r∈rows,r.1.length=m) (lp:ps.length=rows.length) (lk:k.length=m) (nn:∀ p∈ps,0≤p) (h:mixQ rows ps (List.replicate (m+1) 0)=k++[v]) (kp:∀ r∈rows,dotG m r.1 pt≤r.2):dotG m k pt≤v:=by
 obtain ⟨a,b⟩:=mix_dot (pt:=pt) rl lp lk h;rw [a,b];exact sumQ_le _ fun x hx=>Rat.mul_le_mul_of_nonneg_left (kp _ (getD_mem hx)) (getD_nn nn x)
theorem mix_way {m:Nat} {rows:List (List Rat×Rat)} {ps k wy:List Rat} {v:Rat} (rl:∀ r∈rows,r.1.length=m) (lp:ps.length=rows.length) (lk:k.length=m) (nn:∀ p∈ps,0≤p) (h:mixQ rows ps (List.replicate (m+1) 0)=k++[v]) (kp:∀ r∈rows,dotG m r.1 wy≤0):dotG m k wy≤0:=by
 obtain ⟨a,_⟩:=mix_dot (pt:=wy) rl lp lk h;rw [a];refine Rat.le_trans (sumQ_le (g:=fun _=>0) _ fun x hx=>?_) (by rw [V9 (f:=fun _=>0) rows.length fun _ _=>rfl]; exact Rat.le_refl);have:=Rat.mul_le_mul_of_nonneg_left (kp _ (getD_mem hx)) (getD_nn nn x);rw [Rat.mul_zero] at this;exact this
theorem dot_zero (m:Nat) (pt:List Rat):dotG m (List.replicate m 0) pt=0:=V9 m fun k _=>by rw [V7,Rat.zero_mul]
theorem not_empty {m:Nat} {rows:List (List Rat×Rat)} {goal ps pt:List Rat} (rl:∀ r∈rows,r.1.length=m) (kp:∀ r∈rows,dotG m r.1 pt≤r.2):¬ ZV m rows goal (.empty ps):=fun ⟨lp,nn,b,b0,h⟩=>by
 have k:=mix_bound (pt:=pt) rl lp Ad nn h kp;rw [dot_zero] at k;grind
theorem not_endless {m:Nat} {rows:List (List Rat×Rat)} {goal ps pt wy:List Rat} {v:Rat} (rl:∀ r∈rows,r.1.length=m) (lg:goal.length=m) (lp:ps.length=rows.length) (nn:∀ p∈ps,0≤p) (h:mixQ rows ps (List.replicate (m+1) 0)=goal++[v]):¬ ZV m rows goal (.endless pt wy):=fun ⟨_,_,_,kp,p⟩=>by
 have k:=mix_way (wy:=wy) rl lp lg nn h kp;grind
theorem most_le {m:Nat} {rows:List (List Rat×Rat)} {goal ps pt x:List Rat} {v:Rat} (rl:∀ r∈rows,r.1.length=m) (lg:goal.length=m) (h:ZV m rows goal (.most v pt ps)) (kp:∀ r∈rows,dotG m r.1 x≤r.2):dotG m goal x≤v:=mix_bound rl h.2.1 lg h.2.2.2.1 h.2.2.2.2.2 kp
def gcdL (ts:List Int):Nat→Int
 | 0=>0
 | i+1=>((Int.gcd ((ts.getD i 0).natAbs:Int) (gcdL ts i):Nat):Int)
theorem gcdL_nn (ts:List Int):∀ i,0≤gcdL ts i
 | 0=>Int.le_refl _
 | _+1=>Int.natCast_nonneg _
theorem gcdL_dvd (ts:List Int):∀ i j,j<i→gcdL ts i∣ts.getD j 0
 | 0,_,h=>absurd h (Az _)
 | i+1,j,h=>by
  show ((Int.gcd ((ts.getD i 0).natAbs:Int) (gcdL ts i):Nat):Int)∣_
  by_cases e:j=i
  ·subst e
   exact Int.dvd_natAbs.mp (Int.gcd_dvd_left _ _)
  ·exact Int.dvd_trans (Int.gcd_dvd_right _ _) (gcdL_dvd ts i j (by omega))
theorem gcdL_zero (ts:List Int):∀ i,(∀ j,j<i→ts.getD j 0=0)→gcdL ts i=0
 | 0,_=>rfl
 | i+1,h=>by
  show ((Int.gcd ((ts.getD i 0).natAbs:Int) (gcdL ts i):Nat):Int)=0;rw [h i (by omega),gcdL_zero ts i fun j hj=>h j (by omega)];rfl
structure WholeR (ts:List Int) (s:Rat) (qs:List Rat):Prop where
 len:ts.length=qs.length
 pos:0<s
 eq:∀ (i:Nat) (t:Int) (q:Rat),ts[i]?=some t→qs[i]?=some q→(t:Rat)=q*s
def spWlin (K:Bc):Sp:=fun vs H Q _=>∃ (l:Addr) (v:List V) (qs:List Rat) (D b X:Nat),vs=[.ref l]∧SqL K H l v∧RL K H v qs∧(∀ q∈qs,Bd D b q)∧qs.length≤100∧0<D∧D<2^X∧b+X≤8000∧∀ (p ls ps:Addr) (H':Hp) (ts:List Int) (s:Rat),Same H H'→H' p=some (.tup [.ref ls,.ref ps])→H' ls=some (.lst (intL ts))→H ls=none→SqT K H' ps (TQ s)→WholeR ts s qs→(∀ t∈ts,t.natAbs≤2^b*D)→s.num.natAbs≤2^b*D→s.den≤2^b*D→Q (.ref p) H'
theorem over_le {ts:List Int} {bot:Int} {qs:List Rat} {D b:Nat} (h:Over1 ts bot qs) (b0:0<bot) (bD:bot∣(D:Int)) (D0:0<D) (hq:∀ q∈qs,Bd D b q):∀ t∈ts,t.natAbs≤2^b*D:=fun t ht=>by
 obtain ⟨i,hi⟩:=Ag ht;have il:=(A3.mp hi).1;have il2:i<qs.length:=by rw [← h.1]; exact il
 have hqi:qs[i]?=some qs[i]:=A7 il2;have e:=h.2 i t _ hi hqi;have bq:=(hq _ (Af hqi)).2;generalize qs[i]=q at *;have bl:bot.natAbs≤D:=by
  have k:bot.natAbs∣D:=by
   have:=Int.natAbs_dvd_natAbs.mpr bD
   rwa [Ap] at this
  exact Nat.le_of_dvd D0 k
 have e2:t*(q.den:Int)=q.num*bot:=by
  have d:=rat_num q;refine Rat.intCast_inj.mp ?_;rw [Ay,Ay,e,d];grind
 have e3:t.natAbs*q.den=q.num.natAbs*bot.natAbs:=by
  have:=congrArg Int.natAbs e2
  rwa [B4,B4,Ap] at this
 refine Nat.le_of_mul_le_mul_right (c:=q.den) ?_ q.den_pos;rw [e3]
 calc q.num.natAbs*bot.natAbs≤(2^b*q.den)*D:=Nat.mul_le_mul bq bl
  _=2^b*D*q.den:=by ac_rfl
abbrev Qy (P w K mg base) (a:Adr) (cdv A outer s H E):=(cxOf CX0 P w K mg base ["several", "tops", "by", "top"] "whole_line" (qQ vQ) a.fyz cdv A outer s H E).nox
theorem okyz (T:Txt K mg a):FnOk P w K mg base CX0 3 a.fyz a.dyz ["several"] (spWlin K):=by
 refine T.Fyz.ok Qv (fun vs H Q E h=>?_) (fun cdv A outer s H vs Q E hr h=>?_)
 ·obtain ⟨_,_,_,_,_,_,rfl,_⟩:=h
  rfl
 obtain ⟨l,v,qs,D,b,X,rfl,hl,rl,bq,l100,D0,DX,bX,q⟩:=h;have h0:PS (Qy P w K mg base a cdv A outer s H E) (bS vQ 0) _:=(zq (i:=1) Qv.nd rfl (Or.inl rfl) (qK (okyr T) (hr.mono (by decide)) rfl T.myr T.Fyr.kp T.byr .nil pass0 (pa_c (pv 0) qk)));have h1:PS (Qy P w K mg base a cdv A outer s H E) (bS vQ 1) _:=(zq (i:=2) Qv.nd rfl (Or.inr rfl) qz);have h2:PS (Qy P w K mg base a cdv A outer s H E) (bS vQ 2) _:=(Q4 PassesOwn.never rfl (yW (pe_ix qY (pv 1) qz (fun _ _=>rfl))) (qW (i:=3) Qv.nd rfl (Or.inl rfl))
    (qX (zq (i:=2) Qv.nd rfl (Or.inr rfl) (qK (Vw T) (hr.mono (by decide)) rfl T.mzw T.Fzw.kp T.bzw .nil pass0 (pa_c (zX (Zy) rfl T.m_abs boot_abs (pa_c (pv 3) qk)) (pa_c (pv 2) qk))))))
 have h3:PS (Qy P w K mg base a cdv A outer s H E) (bS vQ 3) _:=(ps_if (zj op_eq (pv 2) qz (zv _))
    (qX (zQ (j4 (pa_c (pe_ix qY (pv 1) qz (fun _ _=>rfl)) (pa_c (j4 (pa_c (pe_ix qY (pv 1) qz (fun _ _=>rfl)) (pa_c qz qk))) qk)))))
    y4)
 have h4:PS (Qy P w K mg base a cdv A outer s H E) (bS vQ 4) _:=(zQ (j4 (pa_c (vJ (N:=["top", "by"]) (ix:=[none,some 2]) ⟨rfl,rfl,rfl,rfl,⟨rfl,trivial⟩,rfl,⟨⟨rfl,Or.inr (Or.inl rfl),jj rfl,rfl,Or.inl rfl⟩,trivial⟩⟩ rfl (yW (pe_ix qY (pv 1) qz (fun _ _=>rfl))) (fun _=>(qW (i:=0) (show (["top", "by"]:List Str).Nodup by decide +kernel) rfl (Or.inl rfl))) (fun _ σ=>jQ rfl σ) (fun _=>yy) (fun _=>(pe_op op_fdivL (pv 0) (pv 1)))) (pa_c (qK (okys T) (hr.mono (by decide)) rfl T.mys T.Fys.kp T.bys .nil pass0 (pa_c (pe_ix qY (pv 1) qz (fun _ _=>rfl)) (pa_c (pv 2) qk))) qk))));refine body5 (by rfl) h0 h1 h2 h3 h4 ?_
 intros
 clear h0 h1 h2 h3 h4;refine ⟨_,rfl,l,v,qs,b+X,D,X,rfl,hl,rl,fun q hq=>⟨(bq q hq).sm D0 DX,(bq q hq).1⟩,l100,D0,DX,by omega,by omega,fun p H1 ls ts bot g1 ep el nl b0 bD _ ov=>?_⟩;have tl:=over_le ov b0 bD D0 bq;have M1:bot.natAbs≤2^b*D:=by
  have k:bot.natAbs∣D:=by
   have:=Int.natAbs_dvd_natAbs.mpr bD
   rwa [Ap] at this
  exact Ba (Nat.le_of_dvd D0 k) (A9 _ (Nat.two_pow_pos _))
 have MX:2^b*D<2^(b+X):=by
  rw [Nat.pow_add];exact Nat.mul_lt_mul_of_pos_left DX (Nat.two_pow_pos _)
 have lts:=ov.1;refine ⟨_,rfl,_,_,_,_,rfl,rfl,SqT.of ep,rfl,ls,rfl,⟨_,SqL.of el⟩,Z0 (n:=ts.length) (fun i σ H'=>H'=H1∧∃ u:Option V,σ=[some (.ref l),some (.ref p),some (.int (gcdL ts i)),u]) ⟨rfl,_,rfl⟩ ?_ ?_ ?_⟩
 case refine_2 =>
  rintro i σ H' hi ⟨rfl,_⟩;exact ⟨_,_,SqL.of el,y8 (A7 hi)⟩
 case refine_3 =>
  rintro i σ H' x H2 hi ⟨rfl,u,rfl⟩ ⟨rfl,y1⟩;obtain ⟨t,ht,rfl⟩:=wv (y1 _ (SqL.of el));refine ⟨_,rfl,_,rfl,_,rfl,_,_,rfl,abs_nn _,gcdL_nn _ _,?_⟩;have e:gcdL ts (i+1)=((Int.gcd (if t<0 then -t else t) (gcdL ts i):Nat):Int):=by
   show ((Int.gcd ((ts.getD i 0).natAbs:Int) (gcdL ts i):Nat):Int)=_;rw [qZ ht]
   congr 2
   omega
  rw [e];exact ⟨rfl,_,rfl⟩
 rintro σ H' ⟨rfl,u,rfl⟩;refine ⟨⟨_,SqL.of el,by rw [Av]; exact Nat.le_refl _⟩,?_⟩;have dv:∀ i t,ts[i]?=some t→gcdL ts ts.length∣t:=fun i t ht=>by
  have:=gcdL_dvd ts ts.length i (A3.mp ht).1
  rwa [qZ ht] at this
 have gn:=gcdL_nn ts ts.length;have gle:gcdL ts ts.length≠0→(gcdL ts ts.length).natAbs≤2^b*D:=fun n0=>Classical.byContradiction fun gt=>n0 (gcdL_zero ts _ fun j hj=>Classical.byContradiction fun nz=>gt ?_)
 case refine_1 =>
  have k:=A7 hj;have d:=gcdL_dvd ts ts.length j hj;rw [qZ k] at d nz;have k2:=Int.natAbs_dvd_natAbs.mpr d;exact Ba (Nat.le_of_dvd (by omega) k2) (tl _ (Af k))
 generalize gcdL ts ts.length=by_ at *;have sb:Sm (b+X) bot:=Ao M1 MX;refine ⟨_,rfl,rfl,_,rfl,?_⟩
 by_cases z0:by_=0
 ·refine iteP (congrArg V.int z0) ?_
  refine ⟨_,rfl,_,_,_,_,rfl,rfl,SqT.of ep,rfl,_,rfl,_,_,_,_,rfl,rfl,SqT.of ep,rfl,jZ,fun t2 ht2=>?_⟩;have g2:=qw ht2 (.tup (T2 bot 1));have e2:upd H' t2 (.tup (T2 bot 1)) t2=some (.tup (T2 bot 1)):=qj;have el2:=g2 _ _ el;have g12:=g1.trans g2;generalize upd H' t2 (.tup (T2 bot 1))=H2 at *;refine ⟨jZ,fun p2 hp2=>?_⟩;have g3:=qw hp2 (.tup [.ref ls,.ref t2]);have zt:∀ t∈ts,t=0:=fun t ht=>by
   obtain ⟨i,hi⟩:=Ag ht;have:=dv i t hi;rw [z0] at this;exact Int.zero_dvd.mp this
  have eb:TQ (bot:Rat)=T2 bot 1:=rfl;refine q p2 ls t2 _ ts (bot:Rat) (g12.trans g3) qj (g3 _ _ el2) nl (by rw [eb]; exact SqT.of (g3 _ _ e2)) ⟨lts,Rat.intCast_pos.mpr b0,ov.2⟩ tl M1 (Ba (Nat.le_of_lt_succ (Nat.lt_succ_of_le (Nat.mul_pos (Nat.two_pow_pos _) D0))) (Nat.le_refl _))
 ·refine iteN (fun z=>z0 (V.int.inj z)) ?_
  have bp:0<by_:=by omega
  have bR:(by_:Rat)≠0:=fun z=>z0 (Rat.intCast_inj.mp (show (by_:Rat)=((0:Int):Rat) from z))
  refine ⟨_,rfl,_,_,_,_,rfl,rfl,SqT.of ep,rfl,ls,rfl,⟨_,SqL.of el⟩,j3 (n:=ts.length) (fun i ys H2=>H2=H'∧ys=intL ((ts.map fun t=>t.fdiv by_).take i)) ⟨rfl,rfl⟩ (zw (by omega)) ?_ ?_ ?_⟩
  case refine_2 =>
   rintro i ys H2 hi ⟨rfl,_⟩;exact ⟨_,_,SqL.of el,y8 (A7 hi)⟩
  case refine_3 =>
   rintro i m' ys H2 c1 x H3 hi ⟨rfl,rfl⟩ ⟨rfl,y1⟩ nx _;obtain ⟨t,ht,rfl⟩:=wv (y1 _ (SqL.of el));have st:t.natAbs.log2<13500:=by
    have k:=Ao (tl t (Af ht)) (An MX (Ai (by decide) bX))
    by_cases z:t.natAbs=0
    ·rw [z]; decide
    ·exact An ((Nat.log2_lt z).mpr k) (by decide)
   refine Or.inl ⟨rfl,_,rfl,_,rfl,_,_,rfl,rfl,⟨z0,st⟩,nx _ _ ⟨rfl,?_⟩⟩;have hm:(ts.map fun t=>t.fdiv by_)[i]?=some (t.fdiv by_):=by rw [List.getElem?_map,ht]; rfl
   rw [yv hm,intL,intL,Ax];rfl
  rintro ys H2 ⟨rfl,rfl⟩;rw [A8 (by rw [Av]; exact Nat.le_refl _)];refine ⟨⟨_,SqL.of el,by rw [Av]; exact Nat.le_refl _⟩,fun l2 hl2=>?_⟩;have g2:=qw hl2 (.lst (intL (ts.map fun t=>t.fdiv by_)));have e2:upd H2 l2 (.lst (intL (ts.map fun t=>t.fdiv by_))) l2=some (.lst (intL (ts.map fun t=>t.fdiv by_))):=qj;have ep2:=g2 _ _ ep;have nl2:=zW g1 hl2;have g12:=g1.trans g2;generalize upd H2 l2 (.lst (intL (ts.map fun t=>t.fdiv by_)))=H3 at *;have sby:Sm (b+X) by_:=Ao (gle z0) MX;have dn:(Rat.divInt bot by_).num.natAbs≤bot.natAbs∧(Rat.divInt bot by_).den≤by_.natAbs:=by
   have nr:=n_rat (t:=bot) (b:=by_) z0
   constructor
   ·rw [← nr.1]
    exact Int.natAbs_fdiv_le_natAbs ..
   ·have:((Rat.divInt bot by_).den:Int).natAbs≤by_.natAbs:=by
     rw [← nr.2];exact Int.natAbs_fdiv_le_natAbs ..
    rwa [Ap] at this
  refine ⟨_,rfl,_,_,_,_,rfl,rfl,SqT.of ep2,rfl,_,rfl,bot,by_,rfl,z0,sby.mono bX,fun pr H4 g4 hpr=>⟨jZ,fun p2 hp2=>?_⟩⟩;have g5:=qw hp2 (.tup [.ref l2,.ref pr]);have nr:=n_rat (t:=bot) (b:=by_) z0;refine q p2 l2 pr _ (ts.map fun t=>t.fdiv by_) (Rat.divInt bot by_) (g12.trans (g4.trans g5)) qj ((g4.trans g5) _ _ e2) nl2 ?_ ⟨by rw [Av]; exact lts,?_,?_⟩ ?_ ?_ ?_
  ·show SqT K _ pr (T2 _ _)
   rw [← nr.1,← nr.2];exact SqT.of (g5 _ _ hpr)
  ·rw [As,Bb]
   exact Rat.mul_pos (Rat.intCast_pos.mpr b0) (Rat.inv_pos.mpr (Rat.intCast_pos.mpr bp))
  ·intro i t x hi hx
   rw [List.getElem?_map] at hi
   cases e:ts[i]? with
   | none=>rw [e] at hi; cases hi
   | some t0 =>
    rw [e] at hi;have hi:t0.fdiv by_=t:=B0 hi;obtain ⟨k,hk⟩:=dv i t0 e;have o:=ov.2 i t0 x e hx;rw [hk,A6 _ z0] at hi;rw [hk,Ay] at o;rw [← hi,As,Bb];have i1:(by_:Rat)*(by_:Rat)⁻¹=1:=Rat.mul_inv_cancel _ bR;grind
  ·intro t ht
   obtain ⟨t0,h0,rfl⟩:=List.mem_map.mp ht;obtain ⟨i,hi⟩:=Ag h0;obtain ⟨k,hk⟩:=dv i t0 hi;have:=tl t0 h0;rw [hk] at this ⊢;rw [A6 _ z0];rw [B4] at this;exact Ba (A9 _ (by omega)) this
  ·exact Ba dn.1 M1
  ·exact Ba dn.2 (gle z0)
def FeasQ (F:Vecs) (m:Nat) (S:Sit):Prop:=∀ y∈S.t.names,y<S.t.rooms→0≤vG F m S.Hd S.e (F y)
def EndQ (F:Vecs) (m:Nat) (G:Nat→Int) (S:Sit) (scs:List Rat) (am:Rat) (many:Nat):AnsQ→Prop
 | .empty ps=>∃ (i x:Nat) (li:List Int),S.t.names[i]?=some x∧x<S.t.rooms∧S.t.lines[i]?=some li∧vG F m S.Hd S.e (F x)<0∧(∀ h∈S.t.heads,0≤gG F m S.Hd S.e (F x) h)∧ps=(prQ S.t.heads (li.take S.t.heads.length) S.t.bot scs 1 S.t.rooms S.t.heads.length).set x (scs.getD x 0)
 | .endless pt wy=>FeasQ F m S∧pt=k8 F m S S.t.names.length many∧∃ (c h:Nat) (sg:Int),S.t.heads[c]?=some h∧(gG F m S.Hd S.e G h<0∨(gG F m S.Hd S.e G h≠0∧S.t.rooms≤h))∧(∀ y∈S.t.names,y<S.t.rooms→gG F m S.Hd S.e (F y) h≤0)∧sg=(if S.t.goal.getD c 0<0 then 1 else -1)∧wy=if S.t.rooms≤h then (ptQ S.t.names S.t.rooms (wayF S.t c sg F m S h) S.t.names.length many).set (h - S.t.rooms) (sg:Rat) else ptQ S.t.names S.t.rooms (wayF S.t c sg F m S h) S.t.names.length many
 | .most v pt ps=>FeasQ F m S∧(∀ h∈S.t.heads,0≤gG F m S.Hd S.e G h∧(S.t.rooms≤h→gG F m S.Hd S.e G h=0))∧v=vG F m S.Hd S.e G/am∧pt=k8 F m S S.t.names.length many∧ps=prQ S.t.heads (S.t.goal.take S.t.heads.length) S.t.bot scs am S.t.rooms S.t.heads.length
def AnsAt (K:Bc) (N:Addr→Prop) (H:Hp) (v:V):AnsQ→Prop
 | .empty ps=>∃ (p l:Addr) (ys:List V),v=.ref p∧H p=some (.tup [.str "empty",.ref l])∧H l=some (.lst ys)∧N l∧RL K H ys ps
 | .endless pt wy=>∃ (p l1 l2:Addr) (y1 y2:List V),v=.ref p∧H p=some (.tup [.str "endless",.ref l1,.ref l2])∧H l1=some (.lst y1)∧H l2=some (.lst y2)∧N l1∧N l2∧RL K H y1 pt∧RL K H y2 wy
 | .most q pt ps=>∃ (p b l1 l2:Addr) (y1 y2:List V),v=.ref p∧H p=some (.tup [.str "most",.ref b,.ref l1,.ref l2])∧SqT K H b (TQ q)∧H l1=some (.lst y1)∧H l2=some (.lst y2)∧l1≠l2∧N l1∧N l2∧RL K H y1 pt∧RL K H y2 ps
theorem TabAt.nots {C:Addr} {H:Hp} {A:TA} {t:Tab} (tab:TabAt C H A t) {b:Addr} {o:HO} (e:H b=some o) (n1:∀ l,o≠.lst l) (n2:∀ dx fs,o=.ins C dx fs→fs.length≠7):¬ TabS A b:=fun z=>by
 rcases z with z | z | z
 ·rw [z,tab.ins] at e; cases e; exact n2 _ _ rfl rfl
 ·rw [z,tab.names] at e; cases e; exact n1 _ rfl
 ·rw [z,tab.heads] at e; cases e; exact n1 _ rfl
theorem TabAt.tup {C:Addr} {H H':Hp} {A:TA} {t:Tab} (tab:TabAt C H A t) (g:But (TabS A) H H') {p:Addr} {xs:List V} (h:SqT K H p xs):SqT K H' p xs:=by
 rcases h with (h | ⟨o,h⟩) | h
 ·exact .inl (.inl (g _ _ (tab.nots h (fun _ z=>by cases z) fun _ _ z=>by cases z) h))
 ·exact .inl (.inr ⟨o,g _ _ (tab.nots h (fun _ z=>by cases z) fun _ _ z=>by cases z) h⟩)
 ·exact .inr h
theorem TabAt.rl {C:Addr} {H H':Hp} {A:TA} {t:Tab} (tab:TabAt C H A t) (g:But (TabS A) H H') {vs:List V} {qs:List Rat} (h:RL K H vs qs):RL K H' vs qs:=Paired.mapP h fun _ _ ⟨p,e,s⟩=>⟨p,e,tab.tup g s⟩
theorem divInt_sm {n b:Int} {k:Nat} (b0:b≠0) (hn:n.natAbs<2^k) (hb:b.natAbs<2^k):SmQ k (Rat.divInt n b):=by
 have nr:=n_rat (t:=n) (b:=b) b0
 constructor
 ·rw [← nr.1]
  exact Ao (Int.natAbs_fdiv_le_natAbs ..) hn
 ·rw [← nr.2]
  exact Ao (Int.natAbs_fdiv_le_natAbs ..) hb
theorem but_none {C:Addr} {H H':Hp} {A A':TA} {t:Tab} {l:Addr} (tab:TabAt C H' A' t) (sa:SameA A A') (g:But (TabS A) H H') (n:H' l=none):H l=none:=by
 cases e:H l with
 | none=>rfl
 | some o =>
  by_cases z:TabS A l
  ·rcases sa.tabS.mpr z with y | y | y
   ·rw [y,tab.ins] at n; cases n
   ·rw [y,tab.names] at n; cases n
   ·rw [y,tab.heads] at n; cases n
  ·rw [g l o z e] at n; cases n
section
variable {F:Vecs} {m:Nat} {G Gd:Nat→Int} {act:List Nat} {S:Sit} {M Kb k:Nat}
theorem Set0.num_sm (s:Set0 F m G Gd act M Kb S) (sm:facN (m+1)*((m+1)*M)^(m+1)<2^k) {z:Nat→Int} (hz:∀ c,(z c).natAbs≤M):∀ n∈lineG m act (nuG F m S.Hd S.e z),n.natAbs<2^k:=fun n hn=>by
 have le:M≤(m+1)*M:=A9 _ (by omega);have all:∀ j,(nuG F m S.Hd S.e z j).natAbs<2^k:=fun j=>Ao (nu_le s.I.gh.e1 (Ba s.B.one le) (fun j _ c _=>Ba (s.B.f _ c) le) (fun c _=>Ba (hz c) le) j) sm
 unfold lineG at hn
 rcases Aw.mp hn with h | h
 ·obtain ⟨j,_,e⟩:=List.mem_map.mp h
  rw [← e,Int.natAbs_neg];exact all j
 ·rw [Al.mp h]
  exact all m
theorem Set0.bot_sm (s:Set0 F m G Gd act M Kb S) (sm:facN (m+1)*((m+1)*M)^(m+1)<2^k):S.t.bot.natAbs<2^k:=by
 have le:M≤(m+1)*M:=A9 _ (by omega);rw [s.I.bot];exact Ao (bot_le s.I.gh.e1 (Ba s.B.one le) fun j _ c _=>Ba (s.B.f _ c) le) sm
theorem Set0.goal_sm (s:Set0 F m G Gd act M Kb S) (sm:facN (m+1)*((m+1)*M)^(m+1)<2^k):∀ n∈S.t.goal,SmQ k (Rat.divInt n S.t.bot):=fun n hn=>by
 rw [s.I.goal] at hn;exact divInt_sm (bot_ne0 s.I) (s.num_sm sm s.B.g n hn) (s.bot_sm sm)
theorem Set0.line_sm (s:Set0 F m G Gd act M Kb S) (sm:facN (m+1)*((m+1)*M)^(m+1)<2^k):∀ li∈S.t.lines,∀ n∈li,SmQ k (Rat.divInt n S.t.bot):=fun li hl n hn=>by
 rw [s.I.lines] at hl;obtain ⟨x,_,e⟩:=List.mem_map.mp hl;rw [← e] at hn;exact divInt_sm (bot_ne0 s.I) (s.num_sm sm (s.B.f x) n hn) (s.bot_sm sm)
end
def spEnded (K:Bc) (C CQ:Addr):Sp:=fun vs H Q _=>∃ (x dx sc ap:Addr) (many:Nat) (A:TA) (F:Vecs) (m:Nat) (G Gd:Nat→Int) (act:List Nat) (M:Nat) (S:Sit) (vsc:List V) (scs:List Rat) (am:Rat),vs=[.ref x]∧H x=some (.ins CQ dx (questF A.p many sc ap))∧TabAt C H A S.t∧Set0 F m G Gd act M (S.t.rooms+many) S∧many≤100∧S.t.rooms≤400∧SqL K H sc vsc∧¬ TabS A sc∧RL K H vsc scs∧scs.length=S.t.rooms∧SqT K H ap (TQ am)∧0<am∧SmQ 4000 am∧(∀ c∈scs,SmQ 4000 c∧SmQ 4000 (c/am))∧facN (m+1)*((m+1)*M)^(m+1)<2^4000∧∀ v H' A' S' Gd' ans,SameA A A'→But (TabS A) H H'→TabAt C H' A' S'.t→Set0 F m G Gd' act M (S.t.rooms+many) S'→Kin0 m act S S'→EndQ F m G S' scs am many ans→AnsAt K (fun l=>H l=none) H' v ans→Q v H'
abbrev kv (P w K mg base) (a:Adr) (cdv A outer s H E):=(cxOf CX0 P w K mg base ["self", "broken", "column", "worth"] "Quest.ended" (qQ jJ) a.fz8 cdv A outer s H E).nox
theorem okz8 (T:Txt K mg a):FnOk P w K mg base CX0 6 a.fz8 a.dz8 ["self"] (spEnded K a.czg a.cz4):=by
 refine T.Fz8.ok Zj (fun vs H Q E h=>?_) (fun cdv A outer s H vs Q E hr h=>?_)
 ·obtain ⟨_,_,_,_,_,_,_,_,_,_,_,_,_,_,_,_,rfl,_⟩:=h
  rfl
 obtain ⟨x,dx,sc,ap,many,D,F,m,G,Gd,act,M,S,vsc,scs,am,rfl,hx,tab,set0,m100,r400,hsc,nsc,rsc,lsc,hap,am0,sam,ssc,sm,q⟩:=h;have h0:PS (kv P w K mg base a cdv A outer s H E) (bS jJ 0) _:=(zq (i:=1) Zj.nd rfl (Or.inl rfl) (qK (okyo T) (hr.mono (by decide)) rfl T.myo T.Fyo.kp T.byo .nil pass0 (pa_c (zk (pv 0) rfl) qk)));have h1:PS (kv P w K mg base a cdv A outer s H E) (bS jJ 1) _:=(ps_if (zj op_notN (pv 1) kY (zv _))
    (qX (zQ (j4 (pa_c pe_str (pa_c (ZY (pv 0) T.Cz4 T.tz7 (okz7 T) (hr.mono (by decide)) T.bz7 .nil pass0 (pa_c (pv 1) qk) (hst:=qq rfl _ _) (hpl:=qy rfl)) qk)))))
    y4)
 have h2:PS (kv P w K mg base a cdv A outer s H E) (bS jJ 2) _:=(zq (i:=2) Zj.nd rfl (Or.inl rfl) (qK (okzu T) (hr.mono (by decide)) rfl T.mzu T.Fzu.kp T.bzu .nil pass0 (pa_c (zk (pv 0) rfl) qk)));have h3:PS (kv P w K mg base a cdv A outer s H E) (bS jJ 3) _:=(ps_if (zj op_notN (pv 2) kY (zv _))
    (qX (zQ (j4 (pa_c pe_str (pa_c (Vj (pv 0) T.Cz4 T.tz6 (okz6 T) (hr.mono (by decide)) T.bz6 .nil pass0) (pa_c (ZY (pv 0) T.Cz4 T.tz9 (okz9 T) (hr.mono (by decide)) T.bz9 .nil pass0 (pa_c (pv 2) qk) (hst:=qq rfl _ _) (hpl:=qy rfl)) qk))))))
    y4)
 have h4:PS (kv P w K mg base a cdv A outer s H E) (bS jJ 4) _:=(zq (i:=3) Zj.nd rfl (Or.inl rfl) (qK (okyq T) (hr.mono (by decide)) rfl T.myq T.Fyq.kp T.byq .nil pass0 (pa_c (qK (okys T) (hr.mono (by decide)) rfl T.mys T.Fys.kp T.bys .nil pass0 (pa_c (pe_ix zK (zk (zk (pv 0) rfl) rfl) (pe_un wZ qz) (fun _ _=>rfl)) (pa_c (zk (zk (pv 0) rfl) rfl) qk))) (pa_c (zk (pv 0) rfl) qk))));have h5:PS (kv P w K mg base a cdv A outer s H E) (bS jJ 5) _:=(zQ (j4 (pa_c pe_str (pa_c (pv 3) (pa_c (Vj (pv 0) T.Cz4 T.tz6 (okz6 T) (hr.mono (by decide)) T.bz6 .nil pass0) (pa_c (ZY (pv 0) T.Cz4 T.tzc (J7 T) (hr.mono (by decide)) T.bzc .nil pass0 (pa_c (J5 VY (zk (zk (pv 0) rfl) rfl) W5 (W4 (pe_un wZ qz))) (pa_c (zk (pv 0) rfl) qk)) (hst:=qq rfl _ _) (hpl:=qy rfl)) qk))))));refine body6 (by rfl) h0 h1 h2 h3 h4 h5 ?_
 intros
 clear h0 h1 h2 h3 h4 h5;refine ⟨_,rfl,x,_,dx,_,_,rfl,hx,T.Cz4,T.nze,rfl,D,F,m,G,Gd,act,M,_,S,rfl,tab,set0,fun D1 H1 S1 Gd1 v1 sa1 bt1 tb1 st1 ki1 en1=>?_⟩;have nx:∀ {D:TA} {H:Hp} {t:Tab},TabAt a.czg H D t→H x=some (.ins a.cz4 dx (questF D.p many sc ap))→¬ TabS D x:=fun tab hx=>tab.nots hx (fun _ z=>by cases z) fun _ _ z=>by rw [← (HO.ins.inj z).2.2]; exact (show 4≠7 by decide)
 have hx1:=bt1 _ _ (nx tab hx) hx;have hsc1:=bt1.seq nsc hsc;have rsc1:=tab.rl bt1 rsc;have hap1:=tab.tup bt1 hap;rw [← sa1.p] at hx1;refine ⟨_,rfl,rfl,_,rfl,?_⟩
 rcases en1 with ⟨rfl,fe⟩ | ⟨i,y,rfl,hi,yr,neg,nn⟩
 case inr =>
  refine iteNP (fun z=>by cases z) ?_;have hli:=line_is st1.I hi;refine ⟨_,rfl,x,dx,_,rfl,hx1,rfl,_,rfl,x,dx,sc,ap,many,i,y,D1,S1.t,_,vsc,scs,rfl,hx1,tb1,st1.sz,by rw [ki1.rooms]; exact r400,hi,yr,hli,hsc1,rsc1,by rw [ki1.rooms]; exact lsc,fun c hc=>(ssc c hc).1,st1.line_sm sm _ (Af hli),?_,fun l ys H2 nl g2 el rl=>?_⟩
  ·intro j h n hj hn n0
   refine Classical.byContradiction fun ge=>n0 ?_
   have z:=st1.se h (Af hj) (by omega) y (Af hi) yr;have k:=Yv st1.I hi hli hj;rw [qZ hn,z,Rat.zero_mul] at k;exact Rat.intCast_inj.mp k
  refine ⟨jZ,fun p hp=>?_⟩;have g3:=qw hp (.tup [.str "empty",.ref l]);have g23:=g2.trans g3;exact q (.ref p) _ D1 S1 Gd1 (.empty _) sa1 (bt1.trans g23.but) (tb1.mono g23) st1 ki1 ⟨i,y,_,hi,yr,hli,neg,nn,rfl⟩ ⟨p,l,ys,rfl,qj,g3 _ _ el,but_none tb1 sa1 bt1 nl,RL.mono rl g3⟩
 case inl =>
 refine iteNS rfl ?_;refine ⟨_,rfl,x,_,dx,_,_,rfl,hx1,T.Cz4,T.nze,rfl,D1,F,m,G,Gd1,act,M,_,S1,rfl,tb1,st1,fe,fun D2 H2 S2 v2 sa2 bt2 tb2 st2 ki2 fe2 en2=>?_⟩;have hx2:=bt2 _ _ (nx tb1 hx1) hx1;have hsc2:=bt2.seq (fun z=>nsc (sa1.tabS.mp z)) hsc1;have rsc2:=tb1.rl bt2 rsc1;have hap2:=tb1.tup bt2 hap1;rw [← sa2.p] at hx2;have sa12:=sa1.trans sa2;have ki12:=ki1.trans ki2;have bt12:But (TabS D) H H2:=bt1.trans fun b o n e=>bt2 b o (fun z=>n (sa1.tabS.mp z)) e
 have st2':Set0 F m G Gd1 act M (S2.t.rooms+many) S2:=by rw [ki12.rooms]; exact st2
 clear hx1 hsc1 rsc1 hap1 bt2 bt1 tb1 st1 fe;refine ⟨_,rfl,rfl,_,rfl,?_⟩
 rcases en2 with ⟨rfl,opt⟩ | ⟨c,h,rfl,hc,ri,le⟩
 case inr =>
  refine iteNP (fun z=>by cases z) ?_;have hK:h<S2.t.rooms+many:=st2'.kb h (.inr (xq st2.I (Af hc)));refine ⟨_,rfl,x,dx,_,rfl,hx2,rfl,x,dx,sc,ap,many,D2,F,m,G,Gd1,act,M,S2,rfl,hx2,tb2,st2',m100,fun l1 y1 H3 nl1 g3 el1 rl1=>?_⟩;refine ⟨_,rfl,x,dx,_,rfl,g3 _ _ hx2,rfl,_,rfl,x,dx,sc,ap,many,c,h,_,D2,F,m,G,Gd1,act,M,S2,rfl,g3 _ _ hx2,tb2.mono g3,st2',m100,hc,hK,rfl,fun l2 y2 H4 nl2 g4 el2 rl2=>?_⟩;refine ⟨(show 3≤sizeLine by decide),fun p hp=>?_⟩;have g5:=qw hp (.tup [.str "endless",.ref l1,.ref l2]);have g35:=g3.trans (g4.trans g5);exact q (.ref p) _ D2 S2 Gd1 (.endless _ _) sa12 (bt12.trans g35.but) (tb2.mono g35) st2 ki12 ⟨fe2,rfl,c,h,_,hc,ri,le,rfl,rfl⟩ ⟨p,l1,l2,y1,y2,rfl,qj,(g4.trans g5) _ _ el1,g5 _ _ el2,but_none tb2 sa12 bt12 nl1,but_none tb2 sa12 bt12 (zW g3 nl2),RL.mono rl1 (g4.trans g5),RL.mono rl2 g5⟩
 case inl =>
 refine iteNS rfl ?_;obtain ⟨gb,egb,gs,_⟩:=tb2.goal
 cases egb
 have lg:=st2.sz.lg.1;obtain ⟨z,hz⟩:=yz (l:=S2.t.goal) (i:=S2.t.heads.length) (by omega);have b0:=bot_ne0 st2.I;refine ⟨_,rfl,x,_,dx,_,_,rfl,hx2,T.Cz4,T.nze,rfl,D2.p,_,D2.dx,_,_,rfl,tb2.ins,T.Czg,T.nzj,rfl,_,rfl,D2.ag,_,_,_,rfl,rfl,SqL.of gs,atLast (by rw [Av,lg]; exact y8 hz),_,rfl,x,_,dx,_,_,rfl,hx2,T.Cz4,T.nze,rfl,D2.p,_,D2.dx,_,_,rfl,tb2.ins,T.Czg,T.nzh,rfl,z,S2.t.bot,rfl,b0,(st2.sz.sb).mono (by decide),fun pr H3 g3 hpr=>?_⟩;have nr:=n_rat (t:=z) (b:=S2.t.bot) b0;have vq:vG F m S2.Hd S2.e G=Rat.divInt z S2.t.bot:=by
  have la:=goal_last st2.I;rw [qZ hz] at la;rw [As,la,Bb];have b0:=Rat.ne_of_gt (botR st2.I);grind
 have hx3:=g3 _ _ hx2;refine ⟨_,rfl,x,_,dx,_,_,rfl,hx3,T.Cz4,T.nz5,rfl,pr,ap,Rat.divInt z S2.t.bot,am,rfl,?_,g3.tup hap2,am0,st2.goal_sm sm z (Af hz),sam,fun pw H4 g4 hpw=>?_⟩
 ·show SqT K _ pr (T2 _ _)
  rw [← nr.1,← nr.2];exact SqT.of hpr
 rw [← vq] at hpw;have g34:=g3.trans g4;have hx4:=g34 _ _ hx2;dsimp only;rw [v3];refine ⟨_,rfl,_,rfl,x,dx,_,rfl,hx4,rfl,x,dx,sc,ap,many,D2,F,m,G,Gd1,act,M,S2,rfl,hx4,tb2.mono g34,st2',m100,fun l1 y1 H5 nl1 g5 el1 rl1=>?_⟩;have g35:=g34.trans g5;have tb5:=tb2.mono g35;have hx5:=g35 _ _ hx2;have gs5:=g35 _ _ gs;have hcut:cutV (intL S2.t.goal) none (some (-1))=intL (S2.t.goal.take S2.t.heads.length):=by
  rw [cutInit (by rw [Av]; omega),Av,lg];exact (List.map_take ..).symm
 refine ⟨_,rfl,x,dx,_,rfl,hx5,rfl,_,rfl,x,_,dx,_,_,rfl,hx5,T.Cz4,T.nze,rfl,D2.p,_,D2.dx,_,_,rfl,tb5.ins,T.Czg,T.nzj,rfl,_,rfl,_,rfl,_,_,rfl,SqL.of gs5,fun c hc=>?_⟩;rw [hcut];have g6:=qw hc (.lst (intL (S2.t.goal.take S2.t.heads.length)));have ec:upd H5 c (.lst (intL (S2.t.goal.take S2.t.heads.length))) c=some (.lst (intL (S2.t.goal.take S2.t.heads.length))):=qj;generalize upd H5 c (.lst (intL (S2.t.goal.take S2.t.heads.length)))=H6 at *;have g36:=g35.trans g6;have hx6:=g36 _ _ hx2;refine ⟨_,rfl,x,_,dx,_,_,rfl,hx6,T.Cz4,T.nz5,rfl,x,dx,sc,ap,c,ap,many,D2,S2.t,S2.t.goal.take S2.t.heads.length,vsc,scs,am,rfl,hx6,tb2.mono g36,st2.sz,by rw [ki12.rooms]; exact r400,SqL.of ec,by rw [Au]; omega,g36.seq hsc2,RL.mono rsc2 g36,by rw [ki12.rooms]; exact lsc,g36.tup hap2,am0,sam,ssc,fun n hn=>st2.goal_sm sm n (List.mem_of_mem_take hn),?_,fun l2 y2 H7 nl2 g7 el2 rl2=>?_⟩
 ·intro j h n hj hn n0
  refine Classical.byContradiction fun ge=>n0 ?_
  have zz:=(opt h (Af hj)).2 (by omega);have k:=YW st2.I hj;rw [A5 (A3.mp hj).1] at hn;rw [qZ hn,zz,Rat.zero_mul] at k;exact Rat.intCast_inj.mp k
 refine ⟨(show 4≤sizeLine by decide),fun p hp=>?_⟩;have g8:=qw hp (.tup [.str "most",.ref pw,.ref l1,.ref l2]);have g68:=g6.trans (g7.trans g8);have g38:=g36.trans (g7.trans g8);have el1':=(g6.trans g7) _ _ el1;exact q (.ref p) _ D2 S2 Gd1 (.most _ _ _) sa12 (bt12.trans g38.but) (tb2.mono g38) st2 ki12 ⟨fe2,opt,rfl,rfl,rfl⟩ ⟨p,pw,l1,l2,y1,y2,rfl,qj,SqT.of ((g5.trans g68) _ _ hpw),g8 _ _ el1',g8 _ _ el2,qV (g6 _ _ el1) nl2,but_none tb2 sa12 bt12 (zW g34 nl1),but_none tb2 sa12 bt12 (zW g36 nl2),RL.mono rl1 g68,RL.mono rl2 g8⟩
def LineW (K:Bc) (H0 H:Hp) (v:V) (d:List Int×Rat):Prop:=∃ p ls ps,v=.ref p∧H p=some (.tup [.ref ls,.ref ps])∧H ls=some (.lst (intL d.1))∧H0 ls=none∧SqT K H ps (TQ d.2)
theorem LineW.mono {K:Bc} {H0 H H':Hp} {v:V} {d:List Int×Rat} (h:LineW K H0 H v d) (g:Same H H'):LineW K H0 H' v d:=by
 obtain ⟨p,ls,ps,e,h1,h2,h3,h4⟩:=h;exact ⟨p,ls,ps,e,g _ _ h1,g _ _ h2,h3,g.tup h4⟩
structure WholeM (M:Nat) (d:List Int×Rat) (qs:List Rat):Prop where
 wh:WholeR d.1 d.2 qs
 lt:∀ t∈d.1,t.natAbs≤M
 num:d.2.num.natAbs≤M
 den:d.2.den≤M
structure AskSz (m D b X k:Nat) (rows:List (List Rat×Rat)) (goal:List Rat):Prop where
 m99:m≤99
 r400:rows.length≤400
 lr:∀ r∈rows,r.1.length=m∧∀ q∈r.1++[r.2],Bd D b q
 lg:goal.length=m
 bg:∀ q∈goal,Bd D b q
 D0:0<D
 DX:D<2^X
 kX:k+4*(b+X)≤4000
 sm:facN (m+1)*((m+1)*(2^b*D))^(m+1)<2^k
def spBegun (K:Bc) (C CQ tb:Addr):Sp:=fun vs H Q _=>∃ (ra ga:Addr) (vr vg:List V) (rows:List (List Rat×Rat)) (goal:List Rat) (m D b X k:Nat),vs=[.ref ra,.ref ga]∧SqL K H ra vr∧RowL K H vr rows∧SqL K H ga vg∧RL K H vg goal∧AskSz m D b X k rows goal∧LamSt tb Yw lamQ H∧∀ (x dx sc ap:Addr) (A:TA) (H':Hp) (S:Sit) (vsc:List V) (scs:List Rat) (am:Rat) (lines:List (List Int)) (gl:List Int),SameL H H'→LamSt tb Yw lamQ H'→H' x=some (.ins CQ dx (questF A.p m sc ap))→TabAt C H' A S.t→Set0 (fam0 lines m) m (vecL m gl) (vecL m gl) (List.range m) (2^b*D) (lines.length+m) S→Kin0 m (List.range m) (sit0 lines gl) S→SqL K H' sc vsc→¬ TabS A sc→RL K H' vsc scs→SqT K H' ap (TQ am)→LineR m lines scs rows→GoalR m gl am goal→(∀ l∈lines,∀ n∈l,n.natAbs≤2^b*D)→(∀ s∈scs,s.num.natAbs≤2^b*D∧s.den≤2^b*D)→am.num.natAbs≤2^b*D→am.den≤2^b*D→(∀ c o,H c=some o→noT o=true→¬ TabS A c)→Q (.ref x) H'
abbrev cbzs (P w K mg base) (a:Adr) (cdv A outer s H E):=(cxOf CX0 P w K mg base ["rows", "goal", "lines", "aim", "tableau"] "begun" (qQ YZ) a.fzs cdv A outer s H E).nox
theorem okzs (T:Txt K mg a) (B:BMain mg base):FnOk P w K mg base CX0 7 a.fzs a.dzs ["rows", "goal"] (spBegun K a.czg a.cz4 a.tb_lam):=by
 refine T.Fzs.ok sczs (fun vs H Q E h=>?_) (fun cdv A outer s H vs Q E hr h=>?_)
 ·obtain ⟨_,_,_,_,_,_,_,_,_,_,_,rfl,_⟩:=h
  rfl
 obtain ⟨ra,ga,vr,vg,rows,goal,m,D0,b,X,kk,rfl,hR,rR,hG,rG,sz,ls,q⟩:=h;have h0:PS (cbzs P w K mg base a cdv A outer s H E) (bS YZ 0) _:=(wW (i:=2) sczs.nd rfl (Or.inl rfl) (N:=["shares", "bound"]) (ix:=[none,none]) ⟨rfl,rfl,rfl,rfl,trivial,rfl,trivial⟩ rfl (yW (pv 0)) (fun _=>(vZ rfl (zy (qW (i:=0) (show (["shares", "bound"]:List Str).Nodup by decide +kernel) rfl (Or.inl rfl)) (zy (qW (i:=1) (show (["shares", "bound"]:List Str).Nodup by decide +kernel) rfl (Or.inl rfl)) jy)))) (fun _ σ=>go_two rfl rfl (by decide) σ) (fun _=>yy) (fun _=>(qK (okyz T) (hr.mono (by decide)) rfl T.myz T.Fyz.kp T.byz .nil pass0 (pa_c (pe_op op_cat (pv 0) (w5 (pa_c (pv 1) qk))) qk))));have h1:PS (cbzs P w K mg base a cdv A outer s H E) (bS YZ 1) _:=(zq (i:=3) sczs.nd rfl (Or.inl rfl) (qK (okyz T) (hr.mono (by decide)) rfl T.myz T.Fyz.kp T.byz .nil pass0 (pa_c (pe_op op_cat (vJ (N:=["one"]) (ix:=[none]) ⟨rfl,rfl,rfl,rfl,trivial,rfl,trivial⟩ rfl (yW (pv 1)) (fun _=>(qW (i:=0) (show (["one"]:List Str).Nodup by decide +kernel) rfl (Or.inl rfl))) (fun _ σ=>jQ rfl σ) (fun _=>yy) (fun _=>(qK (okyy T) (hr.mono (by decide)) rfl T.myy T.Fyy.kp T.byy .nil pass0 (pa_c (pv 0) (pa_c (YJ (v:=.ref a.gz0) rfl T.mz0 rfl) qk))))) (w5 (pa_c (YJ (v:=.ref a.gz2) rfl T.mz2 rfl) qk))) qk)));have h2:PS (cbzs P w K mg base a cdv A outer s H E) (bS YZ 2) _:=(zq (i:=4) sczs.nd rfl (Or.inl rfl) (pe_make T.Mzg (okzm T) (hr.mono (by decide)) rfl T.mzg T.bzm .nil pass0 (pa_c (vJ (N:=["line"]) (ix:=[none]) ⟨rfl,rfl,rfl,rfl,trivial,rfl,trivial⟩ rfl (yW (pv 2)) (fun _=>(qW (i:=0) (show (["line"]:List Str).Nodup by decide +kernel) rfl (Or.inl rfl))) (fun _ σ=>jQ rfl σ) (fun _=>yy) (fun _=>(pe_ix qY (pv 0) qz (fun _ _=>rfl)))) (pa_c (pe_ix qY (pv 3) qz (fun _ _=>rfl)) qk))))
 have h3:PS (cbzs P w K mg base a cdv A outer s H E) (bS YZ 3) _:=(QJ (qK (JZ T B) (hr.mono (by decide)) rfl T.myv T.Fyv.kp T.byv .nil pass0 (pa_c (pv 4) (pa_c (qK (okyn T B) (hr.mono (by decide)) rfl T.myn T.Fyn.kp T.byn .nil pass0 (pa_c (zk (pv 4) rfl) (pa_c (zk (pv 4) rfl) qk))) qk))));have h4:PS (cbzs P w K mg base a cdv A outer s H E) (bS YZ 4) _:=(zQ (pe_make T.Mz4 (okza T) (hr.mono (by decide)) rfl T.mz4 T.bza .nil pass0 (pa_c (pv 4) (pa_c (zX (yV) rfl T.m_len boot_len (pa_c (pv 1) qk)) (pa_c (vJ (N:=["line"]) (ix:=[none]) ⟨rfl,rfl,rfl,rfl,trivial,rfl,trivial⟩ rfl (yW (pv 2)) (fun _=>(qW (i:=0) (show (["line"]:List Str).Nodup by decide +kernel) rfl (Or.inl rfl))) (fun _ σ=>jQ rfl σ) (fun _=>yy) (fun _=>(pe_ix qY (pv 0) qz (fun _ _=>rfl)))) (pa_c (pe_ix qY (pv 3) qz (fun _ _=>rfl)) qk))))));refine body5 (by rfl) h0 h1 h2 h3 h4 ?_
 intros
 clear h0 h1 h2 h3 h4;have lvr:=rR.length;have lvg:=rG.length;have r400:=sz.r400;have m99:=sz.m99;have lg:=sz.lg;have bX:=sz.kX;refine ⟨_,rfl,ra,rfl,⟨_,hR⟩,j3 (n:=rows.length) (fun i ys H'=>Same H H'∧∃ W:List (List Int×Rat),W.length=i∧Paired (LineW K H H') ys W∧∀ (j:Nat) (d:List Int×Rat) (r:List Rat×Rat),W[j]?=some d→rows[j]?=some r→WholeM (2^b*D0) d (r.1++[r.2]))
  ⟨Same.refl _,[],rfl,.nil,fun j d r h _=>nil_get h⟩ (zw (by omega)) ?_ ?_ ?_⟩
 case refine_2 =>
  rintro i ys H' hi ⟨g,_⟩;exact ⟨_,_,g.seq hR,A7 (by omega)⟩
 case refine_3 =>
  rintro i m' ys H' c x H2 hi ⟨g,W,lW,pW,sW⟩ ⟨rfl,y1⟩ nx _;obtain ⟨row,er,ho⟩:=y7 rR (y1 _ (g.seq hR));obtain ⟨t,l,bd,vs,rfl,h1,h2,h2',h3,h4⟩:=ho.mono g;obtain ⟨s1,s2⟩:=sz.lr row (Af er);have lvs:=h3.length;refine ⟨t,_,rfl,h1,rfl,_,_,rfl,_,_,rfl,rfl,Or.inl ⟨rfl,_,rfl,_,rfl,(show 1≤sizeLine by decide),fun lb hlb=>?_⟩⟩;have g1:=qw hlb (.lst [.ref bd]);refine ⟨l,lb,_,_,rfl,rfl,g1 _ _ h2',qj,?_,fun lc hlc=>?_⟩
  ·rw [Ab]
   exact Nat.le_of_lt (zw (by omega))
  have g2:=qw hlc (.lst (vs++[.ref bd]));have g12:=g1.trans g2;refine ⟨lc,vs++[.ref bd],row.1++[row.2],D0,b,X,rfl,SqL.of qj,(h3.mono g12).snoc ⟨bd,rfl,g12.tup h4⟩,s2,by rw [Ak,s1]; show m+1≤100; omega,sz.D0,sz.DX,by omega,fun p ls ps H3 ts sc g3 e1 e2 nl hs wr w1 w2 w3=>nx _ _ ?_⟩;have g4:=g12.trans g3;refine ⟨g.trans g4,W++[(ts,sc)],by rw [Ak,lW]; rfl,Paired.snoc (Paired.mapP pW fun _ _ k=>k.mono g4) ⟨p,ls,ps,rfl,e1,e2,zW (g.trans g12) nl,hs⟩,fun j d r hj hr'=>?_⟩
  by_cases e:j<i
  ·rw [A4 (by omega)] at hj
   exact sW j d r hj hr'
  ·have hj':j<(W++[(ts,sc)]).length:=(A3.mp hj).1
   rw [Ak,Ab] at hj';have e2:j=i:=by omega
   subst e2;rw [A2 (by omega),lW] at hj;have e3:(ts,sc)=d:=by simpa using hj
   rw [er] at hr';have e4:=B0 hr';subst e3 e4;exact ⟨wr,w1,w2,w3⟩
 rintro yl H1 ⟨g1,W,lW,pW,sW⟩;refine ⟨⟨_,g1.seq hR,by omega⟩,fun la hla=>?_⟩;have gl:=qw hla (.lst yl);have ela:upd H1 la (.lst yl) la=some (.lst yl):=qj;have g2:=g1.trans gl;have pW:=Paired.mapP pW fun _ _ k=>LineW.mono k gl
 have nla:=zW g1 hla;clear g1 gl hla;generalize upd H1 la (.lst yl)=H2 at *;have lyl:=Paired.length pW;have mo:∀ H:Hp,SqT K H a.gz0 (TQ (-1)):=T.sz0;have n0:∀ H:Hp,SqT K H a.gz2 (TQ 0):=T.sz2;have lng:(goal.map fun q=>q * -1).length=m:=by rw [Av]; exact lg
 refine ⟨_,rfl,ga,rfl,⟨_,g2.seq hG⟩,j3 (n:=m) (fun i ys H'=>Same H2 H'∧RL K H' ys ((goal.map fun q=>q * -1).take i)) ⟨Same.refl _,.nil⟩ (zw (by omega)) ?_ ?_ ?_⟩
 case refine_2 =>
  rintro i ys H' hi ⟨g,_⟩;exact ⟨_,_,g.seq (g2.seq hG),A7 (by omega)⟩
 case refine_3 =>
  rintro i m' ys H' c x H3 hi ⟨g,r⟩ ⟨rfl,y1⟩ nx _;obtain ⟨qp,ep,pp,rfl,hpp⟩:=rG.get (y1 _ (g.seq (g2.seq hG)));have sq:=(sz.bg qp (Af ep)).sm sz.D0 sz.DX;refine Or.inl ⟨rfl,_,rfl,pp,a.gz0,qp,-1,rfl,(g2.trans g).tup hpp,mo _,sq.mono (by omega),⟨show (-1:Int).natAbs<2^4000 from Nat.one_lt_two_pow (by decide),show (1:Int).natAbs<2^4000 from Nat.one_lt_two_pow (by decide)⟩,fun p3 H4 g4 e4=>nx _ _ ⟨g.trans g4,?_⟩⟩;have hm:(goal.map fun q=>q * -1)[i]?=some (qp * -1):=by rw [List.getElem?_map,ep]; rfl
  rw [yv hm];exact (r.mono g4).snoc ⟨p3,rfl,SqT.of e4⟩
 rintro yg H3 ⟨g3,rg⟩;rw [A8 (by omega)] at rg;refine ⟨⟨_,g3.seq (g2.seq hG),by omega⟩,fun lq hlq=>⟨(show 1≤sizeLine by decide),fun lz hlz=>?_⟩⟩;have g4:=qw hlq (.lst yg);have e4:upd H3 lq (.lst yg) lq=some (.lst yg):=qj;have g5:=qw hlz (.lst [.ref a.gz2]);have e5:upd (upd H3 lq (.lst yg)) lz (.lst [.ref a.gz2]) lz=some (.lst [.ref a.gz2]):=qj;have e45:=g5 _ _ e4;have rg5:=rg.mono (g4.trans g5);have g25:=g3.trans (g4.trans g5);clear g3 g4 g5 hlq hlz e4 rg;generalize upd (upd H3 lq (.lst yg)) lz (.lst [.ref a.gz2])=H5 at *;have lyg:=rg5.length;refine ⟨lq,lz,_,_,rfl,rfl,e45,e5,Nat.le_of_lt (zw (by rw [Ab]; omega)),fun lc hlc=>?_⟩;have g6:=qw hlc (.lst (yg++[.ref a.gz2]));have rc:RL K (upd H5 lc (.lst (yg++[.ref a.gz2]))) (yg++[.ref a.gz2]) ((goal.map fun q=>q * -1)++[0]):=(rg5.mono g6).snoc ⟨_,rfl,n0 _⟩;refine ⟨lc,yg++[V.ref a.gz2],(goal.map fun q=>q * -1)++[0],D0,b,X,rfl,SqL.of qj,rc,?_,by rw [Ak,lng]; show m+1≤100; omega,sz.D0,sz.DX,by omega,fun pa lga pam H7 gl am g7 e71 e72 nlg e73 wg w1 w2 w3=>?_⟩
 ·intro q' hq'
  rcases Aw.mp hq' with z | z
  ·obtain ⟨q0,h0,rfl⟩:=List.mem_map.mp z
   have:=sz.bg q0 h0;have e:q0 * -1 = -q0:=by grind
   rw [e];exact ⟨this.1,by show (-q0.num).natAbs≤_; rw [Int.natAbs_neg]; exact this.2⟩
  ·rw [Al.mp z]
   exact Bd.zero _ _
 have g27:=g25.trans (g6.trans g7);have nlga:=zW (g2.trans (g25.trans g6)) nlg;have nlg2:=zW (g25.trans g6) nlg;have g07:=g2.trans g27;have pW7:=Paired.mapP pW fun _ _ k=>LineW.mono k g27
 have ela7:=g27 _ _ ela;clear rc g6 g7 g25 rg5 e45 e5 hlc;dsimp only;rw [v3];refine ⟨_,rfl,la,rfl,⟨_,SqL.of ela7⟩,j3 (n:=rows.length) (fun i ys H'=>H'=H7∧Paired (fun v li=>∃ d,v=V.ref d∧H7 d=some (.lst (intL li))∧H d=none) ys ((W.map Prod.fst).take i)) ⟨rfl,.nil⟩ (zw (by omega)) ?_ ?_ ?_⟩
 case refine_2 =>
  rintro i ys H' hi ⟨rfl,_⟩;exact ⟨_,_,SqL.of ela7,A7 (by omega)⟩
 case refine_3 =>
  rintro i m' ys H' c x H3 hi ⟨rfl,r⟩ ⟨rfl,y1⟩ nx _;obtain ⟨d,ed,p,ls',ps,rfl,h1,h2,h3,h4⟩:=y7 pW7 (y1 _ (SqL.of ela7));refine Or.inl ⟨rfl,_,rfl,_,_,_,_,rfl,rfl,SqT.of h1,rfl,nx _ _ ⟨rfl,?_⟩⟩;have hm:(W.map Prod.fst)[i]?=some d.1:=by rw [List.getElem?_map,ed]; rfl
  rw [yv hm];exact Paired.snoc r ⟨ls',rfl,h2,h3⟩
 rintro yt H' ⟨rfl,pt⟩;rw [A8 (by rw [Av]; omega)] at pt;refine ⟨⟨_,SqL.of ela7,by omega⟩,fun lt hlt=>?_⟩;have g8:=qw hlt (.lst yt);have e8:upd H' lt (.lst yt) lt=some (.lst yt):=qj;have nlt:=zW g07 hlt;have pt8:Paired (fun v li=>∃ d,v=V.ref d∧upd H' lt (.lst yt) d=some (.lst (intL li))∧d≠lt) yt (W.map Prod.fst):=Paired.mapP pt fun _ _ ⟨d,e1,e2,_⟩=>⟨d,e1,g8 _ _ e2,qV e2 hlt⟩
 have ngl:lga≠lt:=qV e72 hlt;clear hlt pt;generalize upd H' lt (.lst yt)=H8 at *;have g08:=g07.trans g8;have e81:=g8 _ _ e71;have e82:=g8 _ _ e72;refine ⟨_,rfl,_,_,_,_,rfl,rfl,SqT.of e81,rfl,fun x dx hx hdx ne=>?_⟩;have g9:Same H8 (upd (upd H8 dx (HO.own x)) x (HO.ins a.czg dx [])):=(qw hdx _).trans (qw (by rw [zZ (Ne.symm ne)]; exact hx) _);have ex:upd (upd H8 dx (HO.own x)) x (HO.ins a.czg dx []) x=some (HO.ins a.czg dx []):=qj;have nx8:=hx;clear hx hdx ne;generalize upd (upd H8 dx (HO.own x)) x (HO.ins a.czg dx [])=H9 at *;have lgl:gl.length=m+1:=by rw [wg.len,Ak,lng]; rfl
 have llW:(W.map Prod.fst).length=rows.length:=by rw [Av]; exact lW
 refine ⟨x,dx,lt,lga,yt,W.map Prod.fst,gl,rfl,ex,g9 _ _ e8,Paired.mapP pt8 fun _ _ ⟨d,e1,e2,e3⟩=>⟨d,e1,g9 _ _ e2,e3⟩,g9 _ _ e82,ngl,by omega,by omega,by omega,fun D H10 dp dal dag ddx keep n1 n2 n3 tab=>⟨rfl,?_⟩⟩;have g10:Same H8 H10:=fun b o e=>keep b o (qV e nx8) (g9 _ _ e)
 have nan:=zW g9 n1;have nah:=zW g9 n2;have nS:∀ {b:Addr} {o:HO},H8 b=some o→¬ TabS D b:=fun {b o} e z=>by
  rcases z with z | z | z
  ·exact qV e nx8 (by rw [z,dp])
  ·exact qV e nan z
  ·exact qV e nah z
 have LR:LineR m (W.map Prod.fst) (W.map Prod.snd) rows:=by
  have at_:∀ x,x<(W.map Prod.fst).length→∃ d r,W[x]?=some d∧rows[x]?=some r∧WholeM (2^b*D0) d (r.1++[r.2]):=fun x hx=>by
   have h1:W[x]?=some (W[x]'(by omega)):=A7 (by omega);have h2:rows[x]?=some (rows[x]'(by omega)):=A7 (by omega);exact ⟨_,_,h1,h2,sW x _ _ h1 h2⟩
  refine ⟨llW.symm,by rw [Av,Av],fun l hl=>?_,fun r hr=>(sz.lr r hr).1,fun s hs=>?_,fun x c hx hc=>?_⟩
  ·obtain ⟨x,hx⟩:=Ag hl
   obtain ⟨d,r,h1,h2,w⟩:=at_ x (A3.mp hx).1;rw [List.getElem?_map,h1] at hx;have hx:d.1=l:=B0 hx;rw [← hx,w.wh.len,Ak,(sz.lr r (Af h2)).1];rfl
  ·obtain ⟨x,hx⟩:=Ag hs
   obtain ⟨d,r,h1,h2,w⟩:=at_ x (by have:=(A3.mp hx).1; rw [Av] at this ⊢; exact this);rw [List.getElem?_map,h1] at hx;have hx:d.2=s:=B0 hx;rw [← hx];exact w.wh.pos
  ·obtain ⟨d,r,h1,h2,w⟩:=at_ x hx
   have e1:(W.map Prod.fst).getD x []=d.1:=qZ (by rw [List.getElem?_map,h1]; rfl);have e2:(W.map Prod.snd).getD x 0=d.2:=qZ (by rw [List.getElem?_map,h1]; rfl);have lr:=(sz.lr r (Af h2)).1;have ld:=w.wh.len;rw [Ak,Ab] at ld;have k1:d.1[c]?=some (d.1[c]'(by omega)):=A7 (by omega);have k2:(r.1++[r.2])[c]?=some ((r.1++[r.2])[c]'(by rw [Ak,Ab]; omega)):=A7 (by rw [Ak,Ab]; omega);have e3:rowG rows x c=(r.1++[r.2])[c]'(by rw [Ak,Ab]; omega):=by
    unfold rowG;rw [qZ h2];exact qZ k2
   rw [e1,e2,e3,qZ k1];exact w.wh.eq c _ _ k1 k2
 have GR:GoalR m gl am goal:=by
  refine ⟨lgl,lg,wg.pos,fun c hc=>?_,?_⟩
  ·have k1:gl[c]?=some (gl[c]'(by omega)):=A7 (by omega)
   have k2:goal[c]?=some (goal[c]'(by omega)):=A7 (by omega);have k3:((goal.map fun q=>q * -1)++[0])[c]?=some (goal[c]'(by omega) * -1):=by
    rw [A4 (by omega),List.getElem?_map,k2];rfl
   rw [qZ k1,qZ k2,wg.eq c _ _ k1 k3];grind
  ·have k1:gl[m]?=some (gl[m]'(by omega)):=A7 (by omega)
   have k3:((goal.map fun q=>q * -1)++[0])[m]?=some 0:=by
    rw [A2 (by omega),lng,Nat.sub_self];rfl
   have e:=wg.eq m _ _ k1 k3;rw [Rat.zero_mul] at e;rw [qZ k1];exact Rat.intCast_inj.mp e
 have mem:∀ d∈W,∃ qs,WholeM (2^b*D0) d qs:=fun d hd=>by
  obtain ⟨x,hx⟩:=Ag hd;have xl:=(A3.mp hx).1;exact ⟨_,sW x d _ hx (A7 (by omega))⟩
 have sl:∀ l∈W.map Prod.fst,∀ n∈l,n.natAbs≤2^b*D0:=fun l hl=>by
  obtain ⟨d,hd,rfl⟩:=List.mem_map.mp hl;obtain ⟨qs,w⟩:=mem d hd;exact w.lt
 have ss:∀ s∈W.map Prod.snd,s.num.natAbs≤2^b*D0∧s.den≤2^b*D0:=fun s hs=>by
  obtain ⟨d,hd,rfl⟩:=List.mem_map.mp hs;obtain ⟨qs,w⟩:=mem d hd;exact ⟨w.num,w.den⟩
 have M1:1≤2^b*D0:=Nat.mul_pos (Nat.two_pow_pos _) sz.D0;have sm67:facN (m+1)*((m+1)*(2^b*D0))^(m+1)<2^6700:=An sz.sm (Ai (by decide) (by omega));have set1:=sit0_set (lines:=W.map Prod.fst) (goal:=gl) (m:=m) (M:=2^b*D0) LR.ll lgl M1 sl w1 sm67 (by omega) (by omega);have ls10:=LamSt.mono ls (g08.trans g10);obtain ⟨vl,hal,pl⟩:=tab.lines;obtain ⟨gb,egb,gs,_⟩:=tab.goal
 cases egb
 dsimp only;rw [v3];refine ⟨_,rfl,_,rfl,D.p,_,D.dx,_,_,by rw [dp],tab.ins,T.Czg,T.nzn,rfl,_,rfl,D.p,_,D.dx,_,_,by rw [dp],tab.ins,T.Czg,T.nzj,rfl,D.al,D.ag,vl,W.map Prod.fst,gl,m,2^b*D0,rfl,SqL.of hal,Paired.mapP pl fun _ _ ⟨d,e1,e2,_⟩=>⟨d,e1,SqL.of e2⟩,SqL.of gs,LR.ll,lgl,by omega,by omega,M1,sl,w1,sm67,ls10,fun wa wl H11 sl11 ls11 nwa ewa=>?_⟩;have tab11:=tab.monoL sl11;refine ⟨D,_,m,_,_,_,2^b*D0,_,sit0 (W.map Prod.fst) gl,wa,wl,by rw [dp]; rfl,tab11,set1,ls11,SqL.of ewa,(tab.apart nwa).not,fun D2 H12 S2 sa2 bl2 tb2 st2 ki2 ls12=>?_⟩;have sl12:SameL H8 H12:=fun b o e t=>bl2 b o (nS e) (sl11 b o (g10 _ _ e) t) t
 clear sl11 bl2 tab11 tab hal gs pl ls10 ls11;have e712:=sl12 _ _ e81 rfl;have ela12:=sl12 _ _ (g8 _ _ ela7) rfl;have hG12:=sl12.seq (g08.seq hG);have pW12:Paired (fun v (d:List Int×Rat)=>∃ p ls ps,v=V.ref p∧H12 p=some (.tup [.ref ls,.ref ps])∧SqT K H12 ps (TQ d.2)) yl W:=Paired.mapP pW7 fun _ _ ⟨p,ls,ps,e,h1,h2,h3,h4⟩=>⟨p,ls,ps,e,sl12 _ _ (g8 _ _ h1) rfl,sl12.tup (g8.tup h4)⟩
 have e732:=sl12.tup (g8.tup e73);refine ⟨_,rfl,_,rfl,ga,_,rfl,.inl hG12,_,rfl,la,rfl,⟨_,SqL.of ela12⟩,j3 (n:=rows.length) (fun i ys H'=>H'=H12∧RL K H12 ys ((W.map Prod.snd).take i)) ⟨rfl,.nil⟩ (zw (by omega)) ?_ ?_ ?_⟩
 case refine_2 =>
  rintro i ys H' hi ⟨rfl,_⟩;exact ⟨_,_,SqL.of ela12,A7 (by omega)⟩
 case refine_3 =>
  rintro i m' ys H' c z H3 hi ⟨rfl,r⟩ ⟨rfl,y1⟩ nx _;obtain ⟨d,ed,p,ls',ps,rfl,h1,h2⟩:=y7 pW12 (y1 _ (SqL.of ela12));refine Or.inl ⟨rfl,_,rfl,_,_,_,_,rfl,rfl,SqT.of h1,rfl,nx _ _ ⟨rfl,?_⟩⟩;have hm:(W.map Prod.snd)[i]?=some d.2:=by rw [List.getElem?_map,ed]; rfl
  rw [yv hm];exact Paired.snoc r ⟨ps,rfl,h2⟩
 rintro ys H' ⟨rfl,rs⟩;rw [A8 (by rw [Av]; omega)] at rs;refine ⟨⟨_,SqL.of ela12,by omega⟩,fun lsc hlsc=>?_⟩;have g13:=qw hlsc (.lst ys);have e13:upd H' lsc (.lst ys) lsc=some (.lst ys):=qj;have nsc:=(tb2.apart hlsc).not;have tb13:=tb2.mono g13;have rs13:=RL.mono rs g13;have e713:=g13 _ _ e712;have e733:=g13.tup e732;have ls13:=LamSt.mono ls12 g13;have sl13:=sl12.trans g13.toL;clear hlsc rs e712 e732 hG12 pW12 ela12;generalize upd H' lsc (.lst ys)=H13 at *;refine ⟨_,rfl,_,_,_,_,rfl,rfl,SqT.of e713,rfl,fun x2 dx2 hx2 hdx2 ne2=>?_⟩;have g14:Same H13 (upd (upd H13 dx2 (HO.own x2)) x2 (HO.ins a.cz4 dx2 [])):=(qw hdx2 _).trans (qw (by rw [zZ (Ne.symm ne2)]; exact hx2) _);have ex2:upd (upd H13 dx2 (HO.own x2)) x2 (HO.ins a.cz4 dx2 []) x2=some (HO.ins a.cz4 dx2 []):=qj;have nx2:=hx2;clear hx2 hdx2 ne2;generalize upd (upd H13 dx2 (HO.own x2)) x2 (HO.ins a.cz4 dx2 [])=H14 at *;have evm:((vg.length:Nat):Int)=((m:Nat):Int):=by omega
 refine ⟨x2,dx2,x,lsc,pam,m,by rw [evm]; rfl,ex2,fun H15 keep hq=>⟨rfl,?_⟩⟩;have g15:Same H13 H15:=fun b o e=>keep b o (qV e nx2) (g14 _ _ e)
 have ep:D2.p=x:=sa2.p.trans dp;refine q x2 dx2 lsc pam D2 H15 S2 ys (W.map Prod.snd) am (W.map Prod.fst) gl (g08.toL.trans (sl13.trans g15.toL)) (LamSt.mono ls13 g15) (by rw [ep]; exact hq) (tb13.mono g15) st2 ki2 (SqL.of (g15 _ _ e13)) nsc (RL.mono rs13 g15) (g15.tup e733) LR GR sl ss w2 w3 fun c o e t=>?_
 exact fun z=>nS (g08 _ _ e) (sa2.tabS.mp z)
def NewL (H:Hp) (l:Addr):Prop:=∀ o,H l=some o→noT o=false
def OneD (k:Nat) (f:Nat→Rat):Prop:=∃ D,0<D∧D<2^k∧∀ x,Bd D k (f x)
def AnsSz (k m:Nat) (rows:List (List Rat×Rat)):AnsQ→Prop
 | .empty ps=>(∀ p∈ps,SmQ (2*k) p)∧OneD k fun i=>if i/(m+1)<rows.length then ps.getD (i/(m+1)) 0*rowG rows (i/(m+1)) (i%(m+1)) else 0
 | .endless pt wy=>OneD k (fun i=>pt.getD i 0)∧OneD k fun i=>wy.getD i 0
 | .most v pt ps=>SmQ (2*k) v∧OneD k (fun i=>pt.getD i 0)∧(∀ p∈ps,SmQ (2*k) p)∧OneD k fun i=>if i/(m+1)<rows.length then ps.getD (i/(m+1)) 0*rowG rows (i/(m+1)) (i%(m+1)) else 0
theorem OneD.row {k m:Nat} {rows:List (List Rat×Rat)} {ps:List Rat} {D:Nat} (h:∀ i,Bd D k (if i/(m+1)<rows.length then ps.getD (i/(m+1)) 0*rowG rows (i/(m+1)) (i%(m+1)) else 0)) {x c:Nat} (hx:x<rows.length) (hc:c≤m):Bd D k (ps.getD x 0*rowG rows x c):=by
 have e:=h (x*(m+1)+c);have e1:(x*(m+1)+c)/(m+1)=x:=by rw [Nat.add_comm,Nat.add_mul_div_right _ _ (by omega),Nat.div_eq_of_lt (by omega)]; omega
 have e2:(x*(m+1)+c)%(m+1)=c:=by rw [Nat.add_comm,Nat.add_mul_mod_self_right,Nat.mod_eq_of_lt (by omega)]
 rw [e1,e2,if_pos hx] at e;exact e
theorem bd_div {t b:Int} {k:Nat} (b0:0<b) (h:t.natAbs<2^k):Bd b.natAbs k (Rat.divInt t b):=by
 have e:b=(b.natAbs:Int):=by omega
 have:=Bd.of (D:=b.natAbs) (b:=k) (t:=t) (m:=b.natAbs) (by omega) (Nat.dvd_refl _) (Ba (Nat.le_of_lt h) (Nat.le_mul_of_pos_right _ (by omega)))
 rwa [← e] at this
theorem Bd.neg {D b:Nat} {q:Rat} (h:Bd D b q):Bd D b (-q):=⟨h.1,by show (-q.num).natAbs≤_; rw [Int.natAbs_neg]; exact h.2⟩
theorem bd_int (z:Int) {D k:Nat} (h:z.natAbs<2^k):Bd D k (z:Rat):=⟨Nat.one_dvd _,by show z.natAbs≤_*1; omega⟩
theorem smQ_inv {k:Nat} {y:Rat} (h:0<y) (s:SmQ k y):SmQ k y⁻¹:=by
 have e:=inv_TQ h;exact ⟨by rw [e.1]; exact s.2,by rw [e.2]; exact s.1⟩
theorem smQ_of {k M:Nat} {q:Rat} (hM:M<2^k) (h1:q.num.natAbs≤M) (h2:q.den≤M):SmQ k q:=⟨Ao h1 hM,by show ((q.den:Int)).natAbs<_; rw [Ap]; exact Ao h2 hM⟩
theorem bd_inv {k:Nat} {y:Rat} (h:0<y) (s:SmQ k y):Bd y.num.natAbs k y⁻¹:=by
 have e:=inv_TQ h;have e2:y⁻¹.den=y.num.natAbs:=by have:=e.2; omega
 refine ⟨by rw [e2]; exact Nat.dvd_refl _,?_⟩;rw [e.1];exact Ba (Nat.le_of_lt s.2) (Nat.le_mul_of_pos_right _ y⁻¹.den_pos)
theorem prQ_form {heads:List Nat} {ns:List Int} {bot:Int} {scs:List Rat} {am:Rat} {rooms:Nat} (x:Nat):∀ i,i≤heads.length→(prQ heads ns bot scs am rooms i).getD x 0=0∨∃ j,j<heads.length∧heads.getD j 0=x∧ns.getD j 0≠0∧(prQ heads ns bot scs am rooms i).getD x 0=Rat.divInt (ns.getD j 0) bot*(scs.getD x 0/am)
 | 0,_=>.inl (V7 _ _)
 | i+1,hi=>by
  have ih:=prQ_form (heads:=heads) (ns:=ns) (bot:=bot) (scs:=scs) (am:=am) (rooms:=rooms) x i (by omega);rw [prQ_succ]
  by_cases c:ns.getD i 0=0
  ·rw [if_pos c]; exact ih
  ·rw [if_neg c]
   by_cases e:heads.getD i 0=x
   ·by_cases l:heads.getD i 0<(prQ heads ns bot scs am rooms i).length
    ·refine .inr ⟨i,by omega,e,c,?_⟩
     rw [← e,xw l]
    ·rw [List.set_eq_of_length_le (Nat.le_of_not_lt l)]
     exact ih
   ·rw [Z9 e]
    exact ih
section
variable {lines:List (List Int)} {gl:List Int} {sc goal:List Rat} {am:Rat} {rows:List (List Rat×Rat)} {m M Kb k y:Nat} {Gd:Nat→Int} {S:Sit}
theorem Set0.vG_bd {F:Vecs} {G:Nat→Int} {act:List Nat} (s:Set0 F m G Gd act M Kb S) (sm:facN (m+1)*((m+1)*M)^(m+1)<2^k) {z:Nat→Int} (hz:∀ c,(z c).natAbs≤M):Bd S.t.bot.natAbs k (vG F m S.Hd S.e z):=by
 have le:M≤(m+1)*M:=A9 _ (by omega);have e:vG F m S.Hd S.e z=Rat.divInt (nuG F m S.Hd S.e z m) S.t.bot:=by rw [As,s.I.bot]; rfl
 rw [e];exact bd_div (VX s.I) (Ao (nu_le s.I.gh.e1 (Ba s.B.one le) (fun j _ c _=>Ba (s.B.f _ c) le) (fun c _=>Ba (hz c) le) m) sm)
theorem Set0.gG_bd {F:Vecs} {G:Nat→Int} {act:List Nat} (s:Set0 F m G Gd act M Kb S) (sm:facN (m+1)*((m+1)*M)^(m+1)<2^k) {z:Nat→Int} (hz:∀ c,(z c).natAbs≤M) (h:Nat):Bd S.t.bot.natAbs k (gG F m S.Hd S.e z h):=by
 have le:M≤(m+1)*M:=A9 _ (by omega);have e:gG F m S.Hd S.e z h = -Rat.divInt (nuG F m S.Hd S.e z (posG m S.Hd h)) S.t.bot:=by
  rw [As,s.I.bot];unfold gG;rw [Bb,Bb];grind
 rw [e];exact (bd_div (VX s.I) (Ao (nu_le s.I.gh.e1 (Ba s.B.one le) (fun j _ c _=>Ba (s.B.f _ c) le) (fun c _=>Ba (hz c) le) _) sm)).neg
theorem price_sz (s:Set0 (fam0 lines m) m (vecL m gl) Gd (List.range m) M Kb S) (sm:facN (m+1)*((m+1)*M)^(m+1)<2^k) (L:LineR m lines sc rows) (am0:0<am) (My:M<2^y) (sl:∀ l∈lines,∀ n∈l,n.natAbs≤M) (ss:∀ s∈sc,s.num.natAbs≤M∧s.den≤M) (sa:SmQ y am)
  {z:Nat→Int} (hz:∀ c,(z c).natAbs≤M) {ns:List Int} (hn:∀ j h,S.t.heads[j]?=some h→((ns.getD j 0:Int):Rat)=gG (fam0 lines m) m S.Hd S.e z h*(S.t.bot:Rat)) (x:Nat) :
  SmQ (2*k+2*y) ((prQ S.t.heads ns S.t.bot sc am lines.length S.t.heads.length).getD x 0)∧∀ c,c≤m→x<lines.length→Bd (S.t.bot.natAbs*am.num.natAbs) (k+2*y) ((prQ S.t.heads ns S.t.bot sc am lines.length S.t.heads.length).getD x 0*rowG rows x c):=by
 rcases prQ_form (heads:=S.t.heads) (ns:=ns) (bot:=S.t.bot) (scs:=sc) (am:=am) (rooms:=lines.length) x S.t.heads.length (Nat.le_refl _) with e | ⟨j,hj,hx,n0,e⟩
 ·rw [e]
  refine ⟨⟨show (0:Int).natAbs<_ from Nat.two_pow_pos _,?_⟩,fun c _ _=>by rw [Rat.zero_mul]; exact Bd.zero _ _⟩;show (1:Int).natAbs<2^(2*k+2*y);have:M≠0:=by have:=s.B.one; omega
  refine Nat.one_lt_two_pow ?_;intro w;have:y=0:=by omega
  rw [this] at My;omega
 ·have kj:=A7 hj
  have b0:=Rat.ne_of_gt (botR s.I);have eg:Rat.divInt (ns.getD j 0) S.t.bot=gG (fam0 lines m) m S.Hd S.e z S.t.heads[j]:=by
   rw [As,hn j _ kj,Bb];have i1:(S.t.bot:Rat)*(S.t.bot:Rat)⁻¹=1:=Rat.mul_inv_cancel _ b0;grind
  have bg:=s.gG_bd sm hz S.t.heads[j];have bb:=s.bot_sm sm;have bp:=VX s.I;have sg:SmQ (k+k) (gG (fam0 lines m) m S.Hd S.e z S.t.heads[j]):=bg.sm (by omega) bb;have scx:SmQ y (sc.getD x 0):=by
   rw [A1]
   cases e:sc[x]? with
   | none =>
    have:=s.B.one;refine smQ_of (M:=1) (by omega) (Nat.zero_le _) (Nat.le_refl _)
   | some q=>exact smQ_of My (ss q (Af e)).1 (ss q (Af e)).2
  rw [e,eg];refine ⟨?_,fun c hc xl=>?_⟩
  ·rw [Bb]
   exact (sg.mul (scx.mul (smQ_inv am0 sa))).mono (by omega)
  ·have q:=L.eq x c xl hc
   have e2:gG (fam0 lines m) m S.Hd S.e z S.t.heads[j]*(sc.getD x 0/am)*rowG rows x c=gG (fam0 lines m) m S.Hd S.e z S.t.heads[j]*am⁻¹*(((lines.getD x []).getD c 0:Int):Rat):=by
    rw [q,Bb];grind
   have bi:Bd 1 y (((lines.getD x []).getD c 0:Int):Rat):=by
    refine bd_int _ (Ao ?_ My);rw [qZ (A7 xl),A1]
    cases e:(lines[x])[c]? with
    | none=>exact Nat.zero_le _
    | some n=>exact sl _ (At xl) n (Af e)
   rw [e2];exact ((bg.mul (bd_inv am0 sa)).mul bi).mono (by rw [Nat.mul_one]; exact Nat.dvd_refl _) (by omega)
theorem point_at (I:SitI (fam0 lines m) m (vecL m gl) Gd (List.range m) S) (uni:∀ x,x<lines.length+m→x∈S.t.names∨x∈yj m S.Hd) (rm:S.t.rooms=lines.length):(k8 (fam0 lines m) m S S.t.names.length m).length=m∧∀ c,c<m→(k8 (fam0 lines m) m S S.t.names.length m).getD c 0=vG (fam0 lines m) m S.Hd S.e (unitV c):=by
 refine ⟨by unfold k8; rw [Av,Ar],fun c hc=>?_⟩;unfold k8;rw [qZ (x:=cornQ (fam0 lines m) m S S.t.names.length c) (by rw [List.getElem?_map,List.getElem?_range hc]; rfl)];unfold cornQ;rw [List.take_length,rm,Zv lines m c hc]
 by_cases h:lines.length+c∈S.t.names
 ·rw [if_pos h]
 ·rw [if_neg h]
  obtain ⟨q,hq,e⟩:=yQ.mp ((uni (lines.length+c) (by omega)).resolve_left h);have w:=v_head I.gh hq;rw [e,Zv lines m c hc] at w;exact w.symm
theorem way_at (I:SitI (fam0 lines m) m (vecL m gl) Gd (List.range m) S) (uni:∀ x,x<lines.length+m→x∈S.t.names∨x∈yj m S.Hd) (rm:S.t.rooms=lines.length) {c h:Nat} (hh:S.t.heads[c]?=some h) (hK:h<lines.length+m) (sg:Int) :
  let wy:=if S.t.rooms≤h then (ptQ S.t.names S.t.rooms (wayF S.t c sg (fam0 lines m) m S h) S.t.names.length m).set (h - S.t.rooms) (sg:Rat) else ptQ S.t.names S.t.rooms (wayF S.t c sg (fam0 lines m) m S h) S.t.names.length m
  wy.length=m∧∀ j,j<m→wy.getD j 0 = -gG (fam0 lines m) m S.Hd S.e (unitV j) h*(sg:Rat):=by
 intro wy;obtain ⟨q,hq,eq⟩:=yQ.mp (xq I (Af hh));have lw:(ptQ S.t.names S.t.rooms (wayF S.t c sg (fam0 lines m) m S h) S.t.names.length m).length=m:=ptQ_len;have base:∀ j,j<m→(h<S.t.rooms∨j≠h - S.t.rooms)→(ptQ S.t.names S.t.rooms (wayF S.t c sg (fam0 lines m) m S h) S.t.names.length m).getD j 0 = -gG (fam0 lines m) m S.Hd S.e (unitV j) h*(sg:Rat):=fun j hj ne=>by
  unfold ptQ;rw [qZ (x:=if S.t.rooms+j∈S.t.names.take S.t.names.length then wayF S.t c sg (fam0 lines m) m S h (S.t.rooms+j) else 0) (by rw [List.getElem?_map,List.getElem?_range hj]; rfl),List.take_length]
  by_cases hn:S.t.rooms+j∈S.t.names
  ·rw [if_pos hn]
   unfold wayF;rw [rm,Zv lines m j hj]
  ·rw [if_neg hn]
   rw [rm] at hn;obtain ⟨p,hp,e⟩:=yQ.mp ((uni (lines.length+j) (by omega)).resolve_left hn);have np:q≠p:=fun z=>by
    have:lines.length+j=h:=by rw [← e,← eq,z]
    omega
   have w:=g_other I hp hq np;rw [e,eq,Zv lines m j hj] at w;rw [w];grind
 by_cases hr:S.t.rooms≤h
 ·have ew:wy=(ptQ S.t.names S.t.rooms (wayF S.t c sg (fam0 lines m) m S h) S.t.names.length m).set (h - S.t.rooms) (sg:Rat):=if_pos hr
  rw [ew];refine ⟨by rw [List.length_set]; exact lw,fun j hj=>?_⟩
  by_cases e:h - S.t.rooms=j
  ·rw [e,xw (by omega)]
   have w:=g_head I.gh hq;have e2:h=lines.length+j:=by omega
   rw [eq] at w;have w2:gG (fam0 lines m) m S.Hd S.e (unitV j) h = -1:=by
    rw [← Zv lines m j hj,← e2];exact w
   rw [w2];grind
  ·rw [Z9 e]
   exact base j hj (.inr (Ne.symm e))
 ·have ew:wy=ptQ S.t.names S.t.rooms (wayF S.t c sg (fam0 lines m) m S h) S.t.names.length m:=if_neg hr
  rw [ew];exact ⟨lw,fun j hj=>base j hj (.inl (by omega))⟩
theorem getD_bd {D b:Nat} {l:List Rat} {m:Nat} (lm:l.length=m) (h:∀ i,i<m→Bd D b (l.getD i 0)) (i:Nat):Bd D b (l.getD i 0):=by
 by_cases c:i<m
 ·exact h i c
 ·rw [A1,Ae (by omega)]
  exact Bd.zero _ _
theorem unit_le (M1:1≤M) (j c:Nat):(unitV j c).natAbs≤M:=by
 unfold unitV
 by_cases h:c=j
 ·rw [if_pos h]; exact M1
 ·rw [if_neg h]; exact Nat.zero_le _
theorem mem_sm {l:List Rat} {k:Nat} (h:∀ x,SmQ k (l.getD x 0)):∀ p∈l,SmQ k p:=fun p hp=>by
 obtain ⟨x,hx⟩:=Ag hp;have:=h x
 rwa [qZ hx] at this
theorem pow_y (M1:1≤M) (My:M<2^y):1≤y:=by
 cases y with
 | zero=>have:M<1:=My; omega
 | succ n=>omega
theorem one_sm1 {k:Nat} (h:1≤k):SmQ k 1:=⟨show (1:Int).natAbs<2^k from Nat.one_lt_two_pow (by omega),show (1:Int).natAbs<2^k from Nat.one_lt_two_pow (by omega)⟩
theorem told_right (s:Set0 (fam0 lines m) m (vecL m gl) Gd (List.range m) M (lines.length+m) S) (ki:Kin0 m (List.range m) (sit0 lines gl) S) (sm:facN (m+1)*((m+1)*M)^(m+1)<2^k) (L:LineR m lines sc rows) (LG:GoalR m gl am goal) (My:M<2^y) (sl:∀ l∈lines,∀ n∈l,n.natAbs≤M) (ss:∀ s∈sc,s.num.natAbs≤M∧s.den≤M) (sa:am.num.natAbs≤M) (sb:am.den≤M)
  {ans:AnsQ} (e:EndQ (fam0 lines m) m (vecL m gl) S sc am m ans):ZV m rows goal ans∧AnsSz (k+2*y) m rows ans:=by
 have rm:S.t.rooms=lines.length:=ki.rooms;have uni:∀ x,x<lines.length+m→x∈S.t.names∨x∈yj m S.Hd:=fun x hx=>(ki.kin.uni x).mp (by
  by_cases c:x<lines.length
  ·exact .inl (List.mem_range.mpr c)
  ·exact .inr (yQ.mpr ⟨x - lines.length,by omega,by show lines.length+(x - lines.length)=x; omega⟩))
 have I:=s.I;have y1:=pow_y s.B.one My;have hl:S.t.heads.length=m:=by rw [heads_all I,x4]
 have sam:SmQ y am:=smQ_of My sa sb;have bb:=s.bot_sm sm;have bp:=VX I;have k1:1≤2*k+2*y:=by omega
 have anum:am.num.natAbs<2^y:=sam.1;have a0:0<am.num:=num_pos0 LG.pos;have DD:S.t.bot.natAbs*am.num.natAbs<2^(k+2*y):=by
  refine An (Nat.mul_lt_mul'' bb anum) ?_;rw [← Nat.pow_add];exact Ai (by decide) (by omega)
 have DP:0<S.t.bot.natAbs*am.num.natAbs:=Nat.mul_pos (by omega) (by omega);have one:∀ {f:Nat→Rat},(∀ x,Bd S.t.bot.natAbs k (f x))→OneD (k+2*y) f:=fun {f} h=>⟨S.t.bot.natAbs,by omega,An bb (Ai (by decide) (by omega)),fun x=>(h x).mono (Nat.dvd_refl _) (by omega)⟩
 have pa:=point_at I uni rm;have pb:OneD (k+2*y) fun i=>(k8 (fam0 lines m) m S S.t.names.length m).getD i 0:=one fun i=>getD_bd pa.1 (fun i hi=>by rw [pa.2 i hi]; exact s.vG_bd sm (unit_le s.B.one i)) i
 cases ans with
 | empty ps =>
  obtain ⟨i,x,li,hi,xr,hli,neg,nn,rfl⟩:=e;rw [rm];have hn:∀ j h,S.t.heads[j]?=some h→(((li.take S.t.heads.length).getD j 0:Int):Rat)=gG (fam0 lines m) m S.Hd S.e (fam0 lines m x) h*(S.t.bot:Rat):=fun j h hj=>by
   have:=Yv I hi hli hj;rw [A1,A5 (A3.mp hj).1,← A1];exact this
  have ps1:=price_sz s sm L (show (0:Rat)<1 by decide) My sl ss (one_sm1 y1) (s.B.f x) hn;have xl:x<lines.length:=by omega
  have scx:SmQ y (sc.getD x 0):=by
   have hx2:x<sc.length:=by rw [L.ls]; exact xl
   rw [qZ (A7 hx2)];have:=ss _ (At hx2);exact smQ_of My this.1 this.2
  refine ⟨right_empty I L rm s.se (Af hi) xr neg nn hn,mem_sm fun r=>?_,S.t.bot.natAbs,by omega,An bb (Ai (by decide) (by omega)),fun j=>?_⟩
  ·by_cases c:x=r
   ·rw [← c,xw (by rw [QX]; exact xl)]
    exact scx.mono (by omega)
   ·rw [Z9 c]
    exact (ps1 r).1.mono (by omega)
  ·dsimp only
   by_cases c0:j/(m+1)<rows.length
   ·rw [if_pos c0]
    have xr2:j/(m+1)<lines.length:=by rw [← L.lr]; exact c0
    have cm:j%(m+1)≤m:=by have:=Nat.mod_lt j (show 0<m+1 by omega); omega
    by_cases c:x=j/(m+1)
    ·rw [← c,xw (by rw [QX]; exact xl),Rat.mul_comm,← L.eq x _ xl cm]
     refine bd_int _ (Ao ?_ (An My (Ai (by decide) (by omega))));rw [qZ (A7 xl),A1]
     cases e:(lines[x])[j%(m+1)]? with
     | none=>exact Nat.zero_le _
     | some n=>exact sl _ (At xl) n (Af e)
    ·rw [Z9 c]
     exact ((ps1 _).2 _ cm xr2).mono (by show S.t.bot.natAbs*1∣_; rw [Nat.mul_one]; exact Nat.dvd_refl _) (by omega)
   ·rw [if_neg c0]; exact Bd.zero _ _
 | endless pt wy =>
  obtain ⟨fe,rfl,c,h,sg,hc,ri,le,esg,rfl⟩:=e;have hh:=Af hc;have hK:h<lines.length+m:=s.kb h (.inr (xq I hh));have wa:=way_at I uni rm hc hK sg;have eg:(sg:Rat)=if gG (fam0 lines m) m S.Hd S.e (vecL m gl) h<0 then 1 else -1:=by
   have k:=wz (botR I) (YW I hc);rw [esg]
   by_cases z:S.t.goal.getD c 0<0
   ·rw [if_pos z,if_pos (k.mp z)]; rfl
   ·rw [if_neg z,if_neg fun w=>z (k.mpr w)]; rfl
  have s1:sg=1∨sg = -1:=by
   rw [esg]
   by_cases z:S.t.goal.getD c 0<0
   ·rw [if_pos z]; exact .inl rfl
   ·rw [if_neg z]; exact .inr rfl
  refine ⟨right_endless I L LG uni rm s.se fe hh ri le pa.1 wa.1 pa.2 eg wa.2,pb,one fun i=>getD_bd wa.1 (fun i hi=>?_) i⟩;rw [wa.2 i hi];have g:=s.gG_bd sm (unit_le s.B.one i) h
  rcases s1 with z | z
  ·rw [z]
   have : -gG (fam0 lines m) m S.Hd S.e (unitV i) h*((1:Int):Rat) = -gG (fam0 lines m) m S.Hd S.e (unitV i) h:=by
    show _*(1:Rat)=_;grind
   rw [this];exact g.neg
  ·rw [z]
   have : -gG (fam0 lines m) m S.Hd S.e (unitV i) h*((-1:Int):Rat)=gG (fam0 lines m) m S.Hd S.e (unitV i) h:=by
    show _*(-1:Rat)=_;grind
   rw [this];exact g
 | most v pt ps =>
  obtain ⟨fe,opt,rfl,rfl,rfl⟩:=e;rw [rm];have hn:∀ j h,S.t.heads[j]?=some h→(((S.t.goal.take S.t.heads.length).getD j 0:Int):Rat)=gG (fam0 lines m) m S.Hd S.e (vecL m gl) h*(S.t.bot:Rat):=fun j h hj=>by
   have:=YW I hj;rw [A1,A5 (A3.mp hj).1,← A1];exact this
  have ps1:=price_sz s sm L LG.pos My sl ss sam s.B.g hn;refine ⟨right_most I L LG uni rm fe opt pa.1 pa.2 hn,?_,pb,mem_sm fun r=>(ps1 r).1.mono (by omega),S.t.bot.natAbs*am.num.natAbs,DP,DD,fun j=>?_⟩
  ·rw [Bb]
   exact (((s.vG_bd sm s.B.g).sm (by omega) bb).mul (smQ_inv LG.pos sam)).mono (by omega)
  ·dsimp only
   by_cases c0:j/(m+1)<rows.length
   ·rw [if_pos c0]
    have xr2:j/(m+1)<lines.length:=by rw [← L.lr]; exact c0
    have cm:j%(m+1)≤m:=by have:=Nat.mod_lt j (show 0<m+1 by omega); omega
    exact ((ps1 _).2 _ cm xr2).mono (Nat.dvd_refl _) (by omega)
   ·rw [if_neg c0]; exact Bd.zero _ _
end
theorem newL_of {H H':Hp} {l:Addr} (g:SameL H H') (n:H' l=none):NewL H l:=fun o e=>by
 cases t:noT o with
 | false=>rfl
 | true=>rw [g l o e t] at n; cases n
def spHighest (K:Bc) (tb:Addr):Sp:=fun vs H Q _=>∃ (ra ga:Addr) (vr vg:List V) (rows:List (List Rat×Rat)) (goal:List Rat) (m D b X k:Nat),vs=[.ref ra,.ref ga]∧SqL K H ra vr∧RowL K H vr rows∧SqL K H ga vg∧RL K H vg goal∧AskSz m D b X k rows goal∧LamSt tb Yw lamQ H∧∀ v H' ans,SameL H H'→LamSt tb Yw lamQ H'→AnsAt K (NewL H) H' v ans→ZV m rows goal ans→AnsSz (k+2*(b+X)) m rows ans→Q v H'
theorem okzz (T:Txt K mg a) (B:BMain mg base):FnOk P w K mg base CX0 8 a.fzz a.dzz ["rows", "goal"] (spHighest K a.tb_lam):=by
 refine T.Fzz.ok sczz (fun vs H Q E h=>?_) (fun cdv A outer s H vs Q E hr h=>?_)
 ·obtain ⟨_,_,_,_,_,_,_,_,_,_,_,rfl,_⟩:=h
  rfl
 obtain ⟨ra,ga,vr,vg,rows,goal,m,D0,b,X,kk,rfl,hR,rR,hG,rG,sz,ls,q⟩:=h;refine ⟨_,(qX (zQ (Vj (qK (okzs T B) (hr.mono (by decide)) rfl T.mzs T.Fzs.kp T.bzs .nil pass0 (pa_c (pv 0) (pa_c (pv 1) qk))) T.Cz4 T.tz8 (okz8 T) (hr.mono (by decide)) T.bz8 .nil pass0))),?_⟩;refine ⟨_,rfl,_,rfl,ra,ga,vr,vg,rows,goal,m,D0,b,X,kk,rfl,hR,rR,hG,rG,sz,ls,fun x dx sc ap D H1 S vsc scs am lines gl g1 ls1 hx tab st ki hsc nsc rsc hap LR GR sl ss sa sb nS=>?_⟩;have kX:=sz.kX;have rm:S.t.rooms=lines.length:=ki.rooms;have My:2^b*D0<2^(b+X):=by
  rw [Nat.pow_add];exact Nat.mul_lt_mul_of_pos_left sz.DX (Nat.two_pow_pos _)
 have sam:SmQ (b+X) am:=smQ_of My sa sb;have ssc:∀ c∈scs,SmQ (b+X) c:=fun c hc=>smQ_of My (ss c hc).1 (ss c hc).2
 have l400:lines.length≤400:=by rw [← LR.lr]; exact sz.r400
 have m99:=sz.m99;refine ⟨x,dx,_,rfl,hx,rfl,x,dx,sc,ap,m,D,_,m,_,_,_,2^b*D0,S,vsc,scs,am,rfl,hx,tab,by rw [rm]; exact st,by omega,by omega,hsc,nsc,rsc,by rw [LR.ls,rm],hap,GR.pos,sam.mono (by omega),fun c hc=>⟨(ssc c hc).mono (by omega),?_⟩,An sz.sm (Ai (by decide) (by omega)),fun v H2 D2 S2 Gd2 ans sa2 bt2 tb2 st2 ki2 en an=>?_⟩
 ·rw [Bb]
  exact ((ssc c hc).mul (smQ_inv GR.pos sam)).mono (by omega)
 ·rw [rm] at st2
  have tr:=told_right st2 (ki.trans ki2) sz.sm LR GR My sl ss sa sb en;have g2:SameL H H2:=fun c o e t=>bt2 c o (nS c o e t) (g1 c o e t)
  refine q v H2 ans g2 (LamSt.but ls1 tab bt2) ?_ tr.1 tr.2
  cases ans with
  | empty ps =>
   obtain ⟨p,l,ys,h1,h2,h3,h4,h5⟩:=an;exact ⟨p,l,ys,h1,h2,h3,newL_of g1 h4,h5⟩
  | endless pt wy =>
   obtain ⟨p,l1,l2,y1,y2,h1,h2,h3,h4,h5,h6,h7,h8⟩:=an;exact ⟨p,l1,l2,y1,y2,h1,h2,h3,h4,newL_of g1 h5,newL_of g1 h6,h7,h8⟩
  | most v' pt ps =>
   obtain ⟨p,b',l1,l2,y1,y2,h1,h2,h3,h4,h5,h6,h7,h8,h9,h10⟩:=an;exact ⟨p,b',l1,l2,y1,y2,h1,h2,h3,h4,h5,h6,newL_of g1 h7,newL_of g1 h8,h9,h10⟩
theorem okyk (T:Txt K mg a):FnOk P w K mg base CX0 1 a.fyk a.dyk ["_law_found"] spWhole:=by
 refine T.Fyk.ok scyk (fun vs H Q E h=>?_) (fun cdv A outer s H vs Q E hr h=>?_)
 ·obtain ⟨i,rfl,_⟩:=h
  rfl
 obtain ⟨i,rfl,q⟩:=h;refine ⟨_,(qX (zQ (pe_and (zX (Yq) rfl T.m_isinstance boot_isinstance (pa_c (pv 0) (pa_c (JQ (v:=.ty "int") rfl T.m_int boot_int rfl) qk))) (pe_one (pe_not (zX (Yq) rfl T.m_isinstance boot_isinstance (pa_c (pv 0) (pa_c (JQ (v:=.ty "bool") rfl T.m_bool boot_bool rfl) qk)))))))),?_⟩;refine ⟨_,rfl,_,_,_,rfl,IsI.intInt i,_,rfl,iteT ?_⟩;exact ⟨_,rfl,_,_,_,rfl,IsI.intBool i,_,rfl,q⟩
def spMixed:Sp:=fun vs H Q _=>∃ c k:Int,vs=[.int c,.int k]∧∀ m:Int,0≤m→m<429496716→Q (.int m) H
theorem YX (T:Txt K mg a):FnOk P w K mg base CX0 1 a.fy9 a.dy9 ["_law_cell", "_law_k"] spMixed:=by
 refine T.Fy9.ok W0 (fun vs H Q E h=>?_) (fun cdv A outer s H vs Q E hr h=>?_)
 ·obtain ⟨_,_,rfl,_⟩:=h
  rfl
 obtain ⟨c,k,rfl,q⟩:=h;refine ⟨_,(qJ (zq (i:=2) W0.nd rfl (Or.inl rfl) (pe_op k9 (pe_op Qz (pe_op Qz (pe_op k9 (pv 0) qz) (pe_op y9 qz (pv 1))) qz) qz))
   (qJ (zq (i:=2) W0.nd rfl (Or.inl rfl) (pe_op k9 (pe_op y9 (pe_op Qz (pv 2) qz) (pe_op Qz (pe_op Qz (pv 2) qz) (pv 1))) qz))
   (qX (zQ (pe_op jW (pe_op k9 (pe_op y9 (pv 2) (pe_op Qz (pv 2) qz)) qz) qz))))),?_⟩
 have pos:∀ {m:Int},(0:Int)<m→∀ x:Int,0≤x%m∧x%m<m:=fun {m} h x=>⟨Int.emod_nonneg x (by omega),Int.emod_lt_of_pos x h⟩
 refine ⟨_,rfl,_,_,rfl,rfl,(by show (0:Int)<2147483647; decide),_,rfl,_,_,rfl,rfl,IntMulOk.of_left (by decide +kernel),_,_,rfl,rfl,_,_,rfl,rfl,_,_,rfl,rfl,(by show (0:Int)<2147483629; decide),?_⟩;dsimp only;have b1:=pos (show (0:Int)<2147483629 by decide) (c%2147483647+16807*k+7);generalize (c%2147483647+16807*k+7)%2147483629=n1 at b1 ⊢;refine ⟨_,rfl,_,_,rfl,rfl,_,rfl,_,_,rfl,rfl,_,rfl,_,_,rfl,rfl,_,_,rfl,rfl,IntMulOk.of_left (intBits_le_64 (by omega) (by omega)),_,_,rfl,rfl,(by show (0:Int)<2147483587; decide),?_⟩;dsimp only;have b2:=pos (show (0:Int)<2147483587 by decide) ((n1+48271)*(n1+69621+k));generalize ((n1+48271)*(n1+69621+k))%2147483587=n2 at b2 ⊢;refine ⟨_,rfl,_,rfl,_,_,rfl,rfl,_,_,rfl,rfl,IntMulOk.of_left (intBits_le_64 (by omega) (by omega)),_,_,rfl,rfl,(by show (0:Int)<2147483579; decide),_,_,rfl,rfl,⟨by decide,by decide +kernel⟩,?_⟩;dsimp only;have b3:=pos (show (0:Int)<2147483579 by decide) (n2*(n2+40692));generalize (n2*(n2+40692))%2147483579=n3 at b3 ⊢;have e:n3.fdiv 5=n3/5:=Int.fdiv_eq_ediv_of_nonneg _ (by decide);rw [e];exact q _ (by omega) (by omega)
theorem cut_ints (ns:List Int) (lo hi:Option Int):∃ ms:List Int,cutV (ns.map V.int) lo hi=ms.map V.int∧ms.length≤ns.length:=by
 unfold cutV;rw [← List.map_drop,← List.map_take];refine ⟨_,rfl,?_⟩;rw [Au,List.length_drop];omega
theorem at_in {ms:List Int} {i:Int} (h : -(ms.length:Int)≤i) (h':i<ms.length):∃ c:Int,atI (ms.map V.int) i=some (.int c):=by
 have key:∀ j:Nat,j<ms.length→(ms.map V.int)[j]?=some (.int (ms.getD j 0)):=fun j hj=>by
  rw [List.getElem?_map,A7 hj]
  simp [List.getD,hj]
 unfold atI ixN;rw [Av]
 by_cases h0:0≤i
 ·rw [if_pos h0,if_pos h']
  exact ⟨_,key i.toNat (by omega)⟩
 ·rw [if_neg h0,if_pos h]
  exact ⟨_,key (i+ms.length).toNat (by omega)⟩
def spPart:Sp:=fun vs H Q _=>∃ t b:Int,vs=[.int t,.int b]∧0<b∧Sm 8000 b∧RetT H Q (T2 (nt t b) (nb t b))
abbrev JV (P w K mg base) (a:Adr) (cdv A outer s H E):=(cxOf CX0 P w K mg base ["_law_top", "_law_bottom", "_law_rest", "_law_by"] "_law_part" (qQ xW) a.fya cdv A outer s H E).nox
theorem Y9 (T:Txt K mg a):FnOk P w K mg base CX0 1 a.fya a.dya ["_law_top", "_law_bottom"] spPart:=by
 refine T.Fya.ok Jw (fun vs H Q E h=>?_) (fun cdv A outer s H vs Q E hr h=>?_)
 ·obtain ⟨_,_,rfl,_⟩:=h
  rfl
 obtain ⟨t,b,rfl,hb,hs,q⟩:=h;have h0:PS (JV P w K mg base a cdv A outer s H E) (bS xW 0) _:=(zq (i:=2) Jw.nd rfl (Or.inl rfl) (zX (Zy) rfl T.m_abs boot_abs (pa_c (pv 0) qk)));have h1:PS (JV P w K mg base a cdv A outer s H E) (bS xW 1) _:=(zq (i:=3) Jw.nd rfl (Or.inl rfl) (pv 1));have h2:PS (JV P w K mg base a cdv A outer s H E) (bS xW 2) _:=(ps_while PassesOwn.never (zj op_gt (pv 2) qz (zv _))
    (qX (ps_par (i:=2) (j:=3) rfl Jw.nd rfl rfl (by decide) rfl rfl (pa_c (pe_op k9 (pv 3) (pv 2)) (pa_c (pv 2) qk)) rfl)))
 have h3:PS (JV P w K mg base a cdv A outer s H E) (bS xW 3) _:=(zQ (j4 (pa_c (pe_op jW (pv 0) (pv 3)) (pa_c (pe_op jW (pv 1) (pv 3)) qk))));refine body4 (by rfl) h0 h1 h2 h3 ?_
 intros
 clear h0 h1 h2 h3;have d1:=divB (t:=t) (show b≠0 by omega) hs;have e:((Int.gcd b (if t<0 then -t else t):Nat):Int)=sg t b:=by
  unfold sg;rw [if_neg (show ¬ b<0 by omega),Int.gcd_comm]
  split <;> simp [Int.neg_gcd]
 refine ⟨_,rfl,_,rfl,_,rfl,?_⟩;refine while_by (fun σ H'=>H'=H∧∃ (x y:Int),σ=[some (.int t),some (.int b),some (.int x),some (.int y)]∧0≤x∧0≤y∧Int.gcd y x=Int.gcd b (if t<0 then -t else t))
  (fun σ _=>match σ with | [_,_,some (.int x),_]=>x.toNat | _=>0) ⟨rfl,_,b,rfl,abs_nn _,by omega,rfl⟩ ?_ ?_
 ·rintro σ H' ⟨rfl,x,y,rfl,hx,hy,hg⟩
  refine ⟨_,rfl,_,_,rfl,rfl,_,rfl,iteD (fun c=>?_) (fun c=>?_)⟩
  ·refine ⟨_,rfl,_,rfl,_,_,rfl,rfl,c,_,rfl,_,_,rfl,?_⟩
   refine ⟨⟨rfl,y%x,x,rfl,Int.emod_nonneg _ (by omega),hx,gcd_step.trans hg⟩,?_⟩;have:=Int.emod_lt_of_pos y c;have:=Int.emod_nonneg y (show x≠0 by omega);show (y%x).toNat<x.toNat;omega
  ·have e0:x=0:=by omega
   subst e0;have ey:y=sg t b:=by rw [← e,← hg,gcd_end hy]
   subst ey;exact ⟨_,rfl,_,rfl,_,_,rfl,rfl,d1,_,rfl,_,rfl,_,_,rfl,rfl,d1,jZ,fun p hp=>q.new hp⟩
 ·rintro σ H' Q1 Q2 hq ⟨v,e,i,j,e1,e2,k,ek,q1⟩
  exact ⟨v,e,i,j,e1,e2,k,ek,hq _ _ q1⟩
theorem okyi (T:Txt K mg a):FnOk P w K mg base CX0 2 a.fyi a.dyi ["_law_one", "_law_other"] (spBinQ K (·+·)):=by
 refine T.Fyi.ok scyi (fun vs H Q E h=>?_) (fun cdv A outer s H vs Q E hr h=>?_)
 ·obtain ⟨_,_,_,_,rfl,_⟩:=h
  rfl
 obtain ⟨p,r,x,y,rfl,hp,hq,sx,sy,q⟩:=h;refine ⟨_,(qJ (zq (i:=2) scyi.nd rfl (Or.inl rfl) (pe_op Qz (pe_op y9 (pe_ix qY (pv 0) qz (fun _ _=>rfl)) (pe_ix qY (pv 1) qz (fun _ _=>rfl))) (pe_op y9 (pe_ix qY (pv 1) qz (fun _ _=>rfl)) (pe_ix qY (pv 0) qz (fun _ _=>rfl)))))
   (qX (zQ (qK (Y9 T) (hr.mono (by decide)) rfl T.mya T.Fya.kp T.bya .nil pass0 (pa_c (pv 2) (pa_c (pe_op y9 (pe_ix qY (pv 0) qz (fun _ _=>rfl)) (pe_ix qY (pv 1) qz (fun _ _=>rfl))) qk)))))),?_⟩
 refine ⟨_,rfl,_,_,_,_,rfl,rfl,hp,rfl,_,rfl,_,_,_,_,rfl,rfl,hq,rfl,_,_,rfl,rfl,mulOk sx.1 sy.2,_,rfl,_,_,_,_,rfl,rfl,hq,rfl,_,rfl,_,_,_,_,rfl,rfl,hp,rfl,_,_,rfl,rfl,mulOk sy.1 sx.2,_,_,rfl,rfl,?_⟩;refine ⟨_,rfl,_,rfl,_,_,_,_,rfl,rfl,hp,rfl,_,rfl,_,_,_,_,rfl,rfl,hq,rfl,_,_,rfl,rfl,mulOk sx.2 sy.2,_,_,rfl,Int.mul_pos (Y5 x).pos (Y5 y).pos,sx.2.mul sy.2,?_⟩;rw [(q_plus x y).1,(q_plus x y).2];exact q
theorem oky7 (T:Txt K mg a):FnOk P w K mg base CX0 2 a.fy7 a.dy7 ["_law_one", "_law_other"] (spBinQ K (·*·)):=by
 refine T.Fy7.ok scy7 (fun vs H Q E h=>?_) (fun cdv A outer s H vs Q E hr h=>?_)
 ·obtain ⟨_,_,_,_,rfl,_⟩:=h
  rfl
 obtain ⟨p,r,x,y,rfl,hp,hq,sx,sy,q⟩:=h;refine ⟨_,(qX (zQ (qK (Y9 T) (hr.mono (by decide)) rfl T.mya T.Fya.kp T.bya .nil pass0 (pa_c (pe_op y9 (pe_ix qY (pv 0) qz (fun _ _=>rfl)) (pe_ix qY (pv 1) qz (fun _ _=>rfl))) (pa_c (pe_op y9 (pe_ix qY (pv 0) qz (fun _ _=>rfl)) (pe_ix qY (pv 1) qz (fun _ _=>rfl))) qk))))),?_⟩;refine ⟨_,rfl,_,_,_,_,rfl,rfl,hp,rfl,_,rfl,_,_,_,_,rfl,rfl,hq,rfl,_,_,rfl,rfl,mulOk sx.1 sy.1,?_⟩;refine ⟨_,rfl,_,_,_,_,rfl,rfl,hp,rfl,_,rfl,_,_,_,_,rfl,rfl,hq,rfl,_,_,rfl,rfl,mulOk sx.2 sy.2,_,_,rfl,Int.mul_pos (Y5 x).pos (Y5 y).pos,sx.2.mul sy.2,?_⟩;rw [(q_times x y).1,(q_times x y).2];exact q
def spCell (K:Bc):Sp:=fun vs H Q _=>∃ (sa:Addr) (ns:List Int) (k:Nat),vs=[.ref sa,.int k]∧SqL K H sa (ns.map V.int)∧∀ c,Q (.int c) H
theorem Q6 (T:Txt K mg a):FnOk P w K mg base CX0 1 a.fy3 a.dy3 ["_law_script", "_law_k"] (spCell K):=by
 refine T.Fy3.ok scy3 (fun vs H Q E h=>?_) (fun cdv A outer s H vs Q E hr h=>?_)
 ·obtain ⟨_,_,_,rfl,_⟩:=h
  rfl
 obtain ⟨sa,ns,k,rfl,hS,q⟩:=h;refine ⟨_,(qJ (ps_if (zj op_lt (pv 1) (zX (yV) rfl T.m_len boot_len (pa_c (pv 0) qk)) (zv _))
    (qX (zQ (pe_ix zK (pv 0) (pv 1) (fun _ _=>rfl))))
    y4)
   (qX (zQ qz))),?_⟩
 refine ⟨_,rfl,_,rfl,_,_,rfl,.inl hS,_,_,rfl,rfl,_,rfl,iteD (fun c=>?_) (fun c=>q 0)⟩;rw [Av] at c;obtain ⟨z,hz⟩:=at_in (ms:=ns) (i:=(k:Int)) (by omega) (by omega);exact ⟨_,rfl,_,rfl,_,_,_,_,rfl,rfl,hS,hz,q z⟩
theorem tq_alike {K:Bc} {H:Hp} (q:Rat):Alike K H (TQ q) (TQ q):=by
 refine ⟨rfl,fun j x y e1 e2=>?_⟩;rw [e1] at e2;have e:x=y:=B0 e2;subst e
 match j,e1 with
 | 0,e1=>have e:V.int q.num=x:=B0 e1; subst e; exact .flat rfl
 | 1,e1=>have e:V.int (q.den:Int)=x:=B0 e1; subst e; exact .flat rfl
 | j+2,e1=>exact absurd e1 (by simp)
def spRatios (K:Bc):Sp:=fun vs H Q _=>∃ (l:Addr) (v:List V) (qs:List Rat) (n:Int),vs=[.ref l,.int n]∧SqL K H l v∧RL K H v qs∧(qs.length:Int)=n∧(∀ q∈qs,SmQ 4000 q)∧∀ H',Same H H'→Q (.bl true) H'
abbrev V4 (P w K mg base) (a:Adr) (cdv A outer s H E):=(cxOf CX0 P w K mg base ["_law_found", "_law_many_here", "_law_one"] "_law_ratios" (qQ kW) a.fyd cdv A outer s H E).nox
theorem Qw (T:Txt K mg a):FnOk P w K mg base CX0 2 a.fyd a.dyd ["_law_found", "_law_many_here"] (spRatios K):=by
 refine T.Fyd.ok scyd (fun vs H Q E h=>?_) (fun cdv A outer s H vs Q E hr h=>?_)
 ·obtain ⟨_,_,_,_,rfl,_⟩:=h
  rfl
 obtain ⟨l,v,qs,n,rfl,hl,r,hn,sq,q⟩:=h;have h0:PS (V4 P w K mg base a cdv A outer s H E) (bS kW 0) _:=(ps_if (PW.pt (pw_or (QW (wV (zX (Yq) rfl T.m_isinstance boot_isinstance (pa_c (pv 0) (pa_c (JQ (v:=.ty "list") rfl T.m_list boot_list rfl) qk))))) (QV (zj op_ne (zX (yV) rfl T.m_len boot_len (pa_c (pv 0) qk)) (pv 1) (zv _)))))
    (qX (zQ pe_bl))
    y4)
 have h1:PS (V4 P w K mg base a cdv A outer s H E) (bS kW 1) _:=(Q4 PassesOwn.never rfl (yW (pv 0)) (qW (i:=2) scyd.nd rfl (Or.inl rfl))
    (qJ (ps_if (PW.pt (pw_or (QW (wV (zX (Yq) rfl T.m_isinstance boot_isinstance (pa_c (pv 2) (pa_c (JQ (v:=.ty "tuple") rfl T.m_tuple boot_tuple rfl) qk))))) (pw_or (zj op_ne (zX (yV) rfl T.m_len boot_len (pa_c (pv 2) qk)) qz (zv _)) (pw_or (QW (wV (qK (okyk T) (hr.mono (by decide)) rfl T.myk T.Fyk.kp T.byk .nil pass0 (pa_c (pe_ix qY (pv 2) qz (fun _ _=>rfl)) qk)))) (QV (QW (wV (qK (okyk T) (hr.mono (by decide)) rfl T.myk T.Fyk.kp T.byk .nil pass0 (pa_c (pe_ix qY (pv 2) qz (fun _ _=>rfl)) qk)))))))))
    (qX (zQ pe_bl))
    y4)
   (qX (ps_if (PW.pt (pw_or (zj op_lt (pe_ix qY (pv 2) qz (fun _ _=>rfl)) qz (zv _)) (QV (zj (op_neD hr.units) (qK (Y9 T) (hr.mono (by decide)) rfl T.mya T.Fya.kp T.bya .nil pass0 (pa_c (pe_ix qY (pv 2) qz (fun _ _=>rfl)) (pa_c (pe_ix qY (pv 2) qz (fun _ _=>rfl)) qk))) (pv 2) (zv _)))))
    (qX (zQ pe_bl))
    y4))))
 have h2:PS (V4 P w K mg base a cdv A outer s H E) (bS kW 2) _:=(zQ pe_bl);refine body3 (by rfl) h0 h1 h2 ?_
 intros
 clear h0 h1 h2;have lv:=r.length;refine ⟨_,rfl,_,_,_,rfl,IsI.lstList hl,_,rfl,iteF ⟨_,rfl,_,_,rfl,.inl hl,_,rfl,rfl,_,rfl,iteNS (congrArg V.int (by omega)) ?_⟩⟩;refine ⟨_,rfl,l,rfl,⟨_,hl⟩,Z0 (n:=v.length) (fun i σ H'=>Same H H'∧∃ u2,σ=[some (.ref l),some (.int n),u2]) ⟨Same.refl _,_,rfl⟩ ?_ ?_ ?_⟩
 ·rintro σ H' ⟨g,u2,rfl⟩
  exact ⟨⟨_,g.seq hl,Nat.le_refl _⟩,q _ g⟩
 ·rintro i σ H' hi ⟨g,u2,rfl⟩
  exact ⟨_,_,g.seq hl,A7 hi⟩
 ·rintro i σ H' x H2 hi ⟨g,u2,rfl⟩ ⟨rfl,y1⟩
  obtain ⟨qa,ea,pa,rfl,ha⟩:=r.get (y1 _ (g.seq hl));have hp:=g.tup ha;have sa:=sq qa (Af ea);have dp:=(Y5 qa).pos;refine ⟨_,rfl,_,_,_,rfl,IsI.tupTup hp,_,rfl,iteF ⟨_,rfl,_,_,rfl,.inr hp,rfl,_,rfl,iteF ?_⟩⟩;refine ⟨_,rfl,_,_,_,_,rfl,rfl,hp,rfl,_,rfl,_,rfl,iteF ⟨_,rfl,_,_,_,_,rfl,rfl,hp,rfl,_,rfl,_,rfl,iteF ?_⟩⟩;refine ⟨_,rfl,_,_,_,_,rfl,rfl,hp,rfl,_,_,rfl,rfl,_,rfl,iteN (by omega) ?_⟩;refine ⟨_,rfl,_,_,_,_,rfl,rfl,hp,rfl,_,rfl,_,_,_,_,rfl,rfl,hp,rfl,_,_,rfl,dp,sa.2.mono (by decide),fun p3 H3 g3 e3=>?_⟩;have k:=n_rat (t:=qa.num) (b:=(qa.den:Int)) (Z1 qa);rw [Aq] at k;rw [k.1,k.2] at e3;refine ⟨_,rfl,p3,pa,_,_,rfl,rfl,.inr ⟨SqT.of e3,g3.tup hp⟩,tq_alike qa,_,rfl,iteF ?_⟩;exact ⟨g.trans g3,_,rfl⟩
theorem zipWith_snoc {f:Rat→Rat→Rat}:∀ {as bs:List Rat} {x y:Rat},as.length=bs.length→List.zipWith f (as++[x]) (bs++[y])=List.zipWith f as bs++[f x y]
 | [],[],_,_,_=>rfl
 | [],_::_,_,_,h=>by cases h
 | _::_,[],_,_,h=>by cases h
 | a::as,b::bs,x,y,h=>by
  have ih:=zipWith_snoc (f:=f) (as:=as) (bs:=bs) (x:=x) (y:=y) (by simpa using h);show f a b::List.zipWith f (as++[x]) (bs++[y])=f a b::(List.zipWith f as bs++[f x y]);rw [ih]
theorem flat_rep (n:Nat) (x:V):(List.replicate n [x]).flatten=List.replicate n x:=by
 induction n with
 | zero=>rfl
 | succ n ih=>rw [List.replicate_succ,List.flatten_cons,ih,List.replicate_succ]; rfl
theorem RL.rep {K:Bc} {H:Hp} {v:V} {q:Rat} (h:IsQ K H v q):∀ n,RL K H (List.replicate n v) (List.replicate n q)
 | 0=>.nil
 | n+1=>by
  rw [List.replicate_succ,List.replicate_succ];exact .cons h (RL.rep h n)
theorem zeros_snoc (n:Nat):List.replicate n (0:Rat)++[0]=List.replicate (n+1) 0:=by rw [List.replicate_succ']
theorem RL.laid {K:Bc} {H:Hp} {t:Addr} {vs ys:List V} {qs:List Rat} {o:HO} (h:RL K H vs qs) (e:H t=some (.lst ys)):RL K (upd H t o) vs qs:=Paired.mapP h fun _ _ ⟨p,e1,s⟩=>⟨p,e1,SqT.upd_lst s e⟩
theorem sumQ_bd {f:Nat→Rat} {D b:Nat} (D0:0<D) (h:∀ i,Bd D b (f i)):∀ n,Bd D (b+n) (sumQ n f)
 | 0=>Bd.zero _ _
 | n+1=>by
  show Bd D (b+(n+1)) (sumQ n f+f n);exact (Bd.add D0 (sumQ_bd D0 h n) ((h n).mono (Nat.dvd_refl _) (by omega))).mono (Nat.dvd_refl _) (by omega)
structure DotSz (D b X n:Nat) (as bs:List Rat):Prop where
 la:as.length=n
 lb:bs.length=n
 n40:n≤40
 sa:∀ q∈as,SmQ 4000 q
 sb:∀ q∈bs,SmQ 4000 q
 D0:0<D
 DX:D<2^X
 bX:b+n+X≤4000
 bd:∀ i,Bd D b (as.getD i 0*bs.getD i 0)
theorem DotSz.sm {D b X n:Nat} {as bs:List Rat} (h:DotSz D b X n as bs) {i:Nat} (hi:i≤n):SmQ 4000 (dotG i as bs):=by
 have:=h.bX;exact ((sumQ_bd h.D0 h.bd i).sm h.D0 h.DX).mono (by omega)
def spDot (K:Bc):Sp:=fun vs H Q _=>∃ (la lb:Addr) (va vb:List V) (as bs:List Rat) (D b X n:Nat),vs=[.ref la,.ref lb]∧SqL K H la va∧SqL K H lb vb∧RL K H va as∧RL K H vb bs∧DotSz D b X n as bs∧∀ p H',Same H H'→SqT K H' p (TQ (dotG n as bs))→Q (.ref p) H'
abbrev cby5 (P w K mg base) (a:Adr) (cdv A outer s H E):=(cxOf CX0 P w K mg base ["_law_ones", "_law_others", "_law_total", "_law_one", "_law_other"] "_law_dot" (qQ ZJ) a.fy5 cdv A outer s H E).nox
theorem W7 (T:Txt K mg a):FnOk P w K mg base CX0 3 a.fy5 a.dy5 ["_law_ones", "_law_others"] (spDot K):=by
 refine T.Fy5.ok J3 (fun vs H Q E h=>?_) (fun cdv A outer s H vs Q E hr h=>?_)
 ·obtain ⟨_,_,_,_,_,_,_,_,_,_,rfl,_⟩:=h
  rfl
 obtain ⟨la,lb,va,vb,as,bs,D,b,X,n,rfl,hA,hB,rA,rB,sz,q⟩:=h;have h0:PS (cby5 P w K mg base a cdv A outer s H E) (bS ZJ 0) _:=(zq (i:=2) J3.nd rfl (Or.inl rfl) (j4 (pa_c qz (pa_c qz qk))));have h1:PS (cby5 P w K mg base a cdv A outer s H E) (bS ZJ 1) _:=(Q4 PassesOwn.never rfl (pi_zip rfl T.m_zip (pa_c (pv 0) (pa_c (pv 1) qk))) (vZ rfl (zy (qW (i:=3) J3.nd rfl (Or.inl rfl)) (zy (qW (i:=4) J3.nd rfl (Or.inl rfl)) jy)))
    (qX (zq (i:=2) J3.nd rfl (Or.inl rfl) (qK (okyi T) (hr.mono (by decide)) rfl T.myi T.Fyi.kp T.byi .nil pass0 (pa_c (pv 2) (pa_c (qK (oky7 T) (hr.mono (by decide)) rfl T.my7 T.Fy7.kp T.by7 .nil pass0 (pa_c (pv 3) (pa_c (pv 4) qk))) qk))))))
 have h2:PS (cby5 P w K mg base a cdv A outer s H E) (bS ZJ 2) _:=(zQ (pv 2));refine body3 (by rfl) h0 h1 h2 ?_
 intros
 clear h0 h1 h2;have l1:=rA.length;have l2:=rB.length;have l3:=sz.la;have l4:=sz.lb;have n40:=sz.n40;refine ⟨jZ,fun t0 ht0=>?_⟩;have g1:=qw ht0 (.tup (T2 0 1));have z0:SqT K (upd H t0 (.tup (T2 0 1))) t0 (TQ 0):=SqT.of qj;generalize upd H t0 (.tup (T2 0 1))=H1 at *;refine ⟨_,rfl,_,rfl,la,lb,rfl,⟨_,g1.seq hA⟩,⟨_,g1.seq hB⟩,Z0 (n:=n) (fun i σ H'=>Same H H'∧∃ (t:Addr) (u3 u4:Option V),σ=[some (.ref la),some (.ref lb),some (.ref t),u3,u4]∧SqT K H' t (TQ (dotG i as bs))) ⟨g1,t0,_,_,rfl,z0⟩ ?_ ?_ ?_⟩
 ·rintro σ H' ⟨g,t,u3,u4,rfl,ht⟩
  exact ⟨⟨_,_,g.seq hA,g.seq hB,.inl (by omega)⟩,_,rfl,q t H' g ht⟩
 ·rintro i σ H' hi ⟨g,_⟩
  exact ⟨_,_,_,_,g.seq hA,g.seq hB,A7 (by omega),A7 (by omega)⟩
 ·rintro i σ H' x H2 hi ⟨g,t,u3,u4,rfl,ht⟩ ⟨p,x1,x2,hp,rfl,rfl,y1,y2⟩
  obtain ⟨qa,ea,pa,rfl,ha⟩:=rA.get (y1 _ (g.seq hA));obtain ⟨qb,eb,pb,rfl,hb⟩:=rB.get (y2 _ (g.seq hB));have g5:=qw hp (.tup [.ref pa,.ref pb]);have gg:=g.trans g5;have etp:upd H' p (.tup [.ref pa,.ref pb]) p=some (.tup [.ref pa,.ref pb]):=qj;have ht5:=g5.tup ht;generalize upd H' p (.tup [.ref pa,.ref pb])=H3 at *;have bi:=sz.bd i;rw [qZ ea,qZ eb] at bi;have sp:SmQ 4000 (qa*qb):=(bi.sm sz.D0 sz.DX).mono (by have:=sz.bX; omega);refine ⟨p,_,rfl,SqT.of etp,rfl,_,_,rfl,_,_,rfl,rfl,_,rfl,_,rfl,_,rfl,pa,pb,qa,qb,rfl,gg.tup ha,gg.tup hb,sz.sa qa (Af ea),sz.sb qb (Af eb),fun p3 H4 g6 e6=>?_⟩;refine ⟨t,p3,dotG i as bs,qa*qb,rfl,g6.tup ht5,SqT.of e6,sz.sm (by omega),sp,fun p4 H5 g7 e7=>?_⟩;refine ⟨gg.trans (g6.trans g7),p4,_,_,rfl,?_⟩;have:dotG (i+1) as bs=dotG i as bs+qa*qb:=by
   show sumQ i _+as.getD i 0*bs.getD i 0=_;rw [qZ ea,qZ eb];rfl
  rw [this];exact SqT.of e7
def spBelow (K:Bc):Sp:=fun vs H Q _=>∃ (p r:Addr) (x y:Rat),vs=[.ref p,.ref r]∧SqT K H p (TQ x)∧SqT K H r (TQ y)∧SmQ 4000 x∧SmQ 4000 y∧Q (.bl (decide (x<y))) H
theorem oky2 (T:Txt K mg a):FnOk P w K mg base CX0 1 a.fy2 a.dy2 ["_law_one", "_law_other"] (spBelow K):=by
 refine T.Fy2.ok scy2 (fun vs H Q E h=>?_) (fun cdv A outer s H vs Q E hr h=>?_)
 ·obtain ⟨_,_,_,_,rfl,_⟩:=h
  rfl
 obtain ⟨p,r,x,y,rfl,hp,hq,sx,sy,q⟩:=h;refine ⟨_,(qX (zQ (Qq op_lt (pe_op y9 (pe_ix qY (pv 0) qz (fun _ _=>rfl)) (pe_ix qY (pv 1) qz (fun _ _=>rfl))) (pe_op y9 (pe_ix qY (pv 1) qz (fun _ _=>rfl)) (pe_ix qY (pv 0) qz (fun _ _=>rfl))) (zv _)))),?_⟩;refine ⟨_,rfl,_,_,_,_,rfl,rfl,hp,rfl,_,rfl,_,_,_,_,rfl,rfl,hq,rfl,_,_,rfl,rfl,mulOk sx.1 sy.2,_,rfl,_,_,_,_,rfl,rfl,hq,rfl,_,rfl,_,_,_,_,rfl,rfl,hp,rfl,_,_,rfl,rfl,mulOk sy.1 sx.2,_,_,rfl,rfl,?_⟩;dsimp only;rw [q_less];exact q
structure MixSz (D b X n:Nat) (rows:List (List Rat×Rat)) (ps:List Rat):Prop where
 n40:n≤40
 r40:rows.length≤40
 lp:rows.length=ps.length
 lr:∀ r∈rows,r.1.length=n
 sr:∀ r∈rows,∀ q∈r.1++[r.2],SmQ 4000 q
 sp:∀ q∈ps,SmQ 4000 q
 D0:0<D
 DX:D<2^X
 bX:b+40+X≤4000
 bd:∀ x c,x<rows.length→c≤n→Bd D b (ps.getD x 0*rowG rows x c)
theorem rowG_take {rows:List (List Rat×Rat)} {i x c:Nat} (h:x<i):rowG (rows.take i) x c=rowG rows x c:=by
 unfold rowG;have e:(rows.take i).getD x ([],0)=rows.getD x ([],0):=by rw [A1,A5 h,← A1]
 rw [e]
theorem MixSz.acc {D b X n:Nat} {rows:List (List Rat×Rat)} {ps:List Rat} (h:MixSz D b X n rows ps) {i:Nat} (hi:i≤rows.length) {c:Nat} (hc:c≤n):SmQ 4000 ((mixQ (rows.take i) (ps.take i) (List.replicate (n+1) 0)).getD c 0):=by
 have lp:=h.lp;have r40:=h.r40;have bX:=h.bX;rw [mixQ_at c _ _ _ n (by rw [Au,Au]; omega) Ad (fun r hr=>h.lr r (List.mem_of_mem_take hr)) hc,V7,Au,Nat.min_eq_left hi];have e:(0:Rat)+sumQ i (fun x=>(ps.take i).getD x 0*rowG (rows.take i) x c)=sumQ i fun x=>if x<rows.length then ps.getD x 0*rowG rows x c else 0:=by
  have:(0:Rat)+sumQ i (fun x=>(ps.take i).getD x 0*rowG (rows.take i) x c)=sumQ i (fun x=>(ps.take i).getD x 0*rowG (rows.take i) x c):=by grind
  rw [this];refine j8 _ fun x hx=>?_
  rw [if_pos (by omega),rowG_take hx,A1,A5 hx,← A1]
 rw [e];refine ((sumQ_bd (D:=D) (b:=b) h.D0 (fun x=>?_) i).sm h.D0 h.DX).mono (by omega)
 by_cases k:x<rows.length
 ·rw [if_pos k]; exact h.bd x c k hc
 ·rw [if_neg k]; exact Bd.zero _ _
def spMixR (K:Bc):Sp:=fun vs H Q _=>∃ (ra pa:Addr) (n:Nat) (vr vp:List V) (rows:List (List Rat×Rat)) (ps:List Rat) (D b X:Nat),vs=[.ref ra,.ref pa,.int n]∧SqL K H ra vr∧SqL K H pa vp∧RowL K H vr rows∧RL K H vp ps∧MixSz D b X n rows ps∧∀ (p H' l b:_) (ys:List V) (shs:List Rat) (bd:Rat),Same H H'→H' p=some (.tup [.ref l,.ref b])→H' l=some (.lst ys)→H l=none→RL K H' ys shs→SqT K H' b (TQ bd)→shs.length=n→shs++[bd]=mixQ rows ps (List.replicate (n+1) 0)→Q (.ref p) H'
abbrev Wq (P w K mg base) (a:Adr) (cdv A outer s H E):=(cxOf CX0 P w K mg base ["_law_rows", "_law_prices", "_law_many_here", "_law_shares_here", "_law_bound", "_law_row_here", "_law_price"] "_law_mix" (qQ Z7) a.fy8 cdv A outer s H E).nox
set_option maxHeartbeats 0 in
theorem oky8 (T:Txt K mg a):FnOk P w K mg base CX0 3 a.fy8 a.dy8 ["_law_rows", "_law_prices", "_law_many_here"] (spMixR K):=by
 refine T.Fy8.ok QK (fun vs H Q E h=>?_) (fun cdv A outer s H vs Q E hr h=>?_)
 ·obtain ⟨_,_,_,_,_,_,_,_,_,_,rfl,_⟩:=h
  rfl
 obtain ⟨ra,pa,n,vr,vp,rows,ps,D,b,X,rfl,hR,hP,rR,rP,sz,q⟩:=h;have h0:PS (Wq P w K mg base a cdv A outer s H E) (bS Z7 0) _:=(zq (i:=3) QK.nd rfl (Or.inl rfl) (pe_op op_rep (w5 (pa_c (j4 (pa_c qz (pa_c qz qk))) qk)) (pv 2)));have h1:PS (Wq P w K mg base a cdv A outer s H E) (bS Z7 1) _:=(zq (i:=4) QK.nd rfl (Or.inl rfl) (j4 (pa_c qz (pa_c qz qk))));have h2:PS (Wq P w K mg base a cdv A outer s H E) (bS Z7 2) _:=(Q4 PassesOwn.never rfl (pi_zip rfl T.m_zip (pa_c (pv 0) (pa_c (pv 1) qk))) (vZ rfl (zy (qW (i:=5) QK.nd rfl (Or.inl rfl)) (zy (qW (i:=6) QK.nd rfl (Or.inr rfl)) jy)))
    (qJ (wW (i:=3) QK.nd rfl (Or.inl rfl) (N:=["_law_one", "_law_share", "_law_price"]) (ix:=[none,none,some 6]) ⟨rfl,rfl,rfl,rfl,⟨rfl,trivial⟩,rfl,⟨⟨rfl,Or.inr (Or.inl rfl),jj rfl,rfl,Or.inl rfl⟩,trivial⟩⟩ rfl (pi_zip rfl T.m_zip (pa_c (pv 3) (pa_c (pe_ix qY (pv 5) qz (fun _ _=>rfl)) qk))) (fun _=>(vZ rfl (zy (qW (i:=0) (show (["_law_one", "_law_share", "_law_price"]:List Str).Nodup by decide +kernel) rfl (Or.inl rfl)) (zy (qW (i:=1) (show (["_law_one", "_law_share", "_law_price"]:List Str).Nodup by decide +kernel) rfl (Or.inl rfl)) jy)))) (fun _ σ=>go_two rfl rfl (by decide) σ) (fun _=>yy) (fun _=>(qK (okyi T) (hr.mono (by decide)) rfl T.myi T.Fyi.kp T.byi .nil pass0 (pa_c (pv 0) (pa_c (qK (oky7 T) (hr.mono (by decide)) rfl T.my7 T.Fy7.kp T.by7 .nil pass0 (pa_c (pv 2) (pa_c (pv 1) qk))) qk)))))
   (qX (zq (i:=4) QK.nd rfl (Or.inl rfl) (qK (okyi T) (hr.mono (by decide)) rfl T.myi T.Fyi.kp T.byi .nil pass0 (pa_c (pv 4) (pa_c (qK (oky7 T) (hr.mono (by decide)) rfl T.my7 T.Fy7.kp T.by7 .nil pass0 (pa_c (pv 6) (pa_c (pe_ix qY (pv 5) qz (fun _ _=>rfl)) qk))) qk)))))))
 have h3:PS (Wq P w K mg base a cdv A outer s H E) (bS Z7 3) _:=(zQ (j4 (pa_c (pv 3) (pa_c (pv 4) qk))));refine body4 (by rfl) h0 h1 h2 h3 ?_
 intros
 clear h0 h1 h2 h3;have lr:=rR.length;have lp:=rP.length;have n40:=sz.n40;have r40:=sz.r40;have lrp:=sz.lp;refine ⟨jZ,fun t0 ht0=>⟨(show 1≤sizeLine by decide),fun l0 hl0=>?_⟩⟩;have g1:=qw ht0 (.tup (T2 0 1));have g2:=qw hl0 (.lst [.ref t0]);refine ⟨_,rfl,l0,_,_,rfl,rfl,qj,by omega,by omega,?_,fun ls hls=>?_⟩
 ·rw [Ab]
  exact Nat.le_of_lt (zw (by omega))
 rw [Int.toNat_natCast,flat_rep];have g3:=qw hls (.lst (List.replicate n (.ref t0)));have z0:SqT K (upd (upd (upd H t0 (.tup (T2 0 1))) l0 (.lst [.ref t0])) ls (.lst (List.replicate n (.ref t0)))) t0 (TQ 0):=SqT.of ((g2.trans g3) _ _ qj);have els:upd (upd (upd H t0 (.tup (T2 0 1))) l0 (.lst [.ref t0])) ls (.lst (List.replicate n (.ref t0))) ls=some (.lst (List.replicate n (.ref t0))):=qj;have g03:=g1.trans (g2.trans g3);have nls:H ls=none:=zW (g1.trans g2) hls;generalize upd (upd (upd H t0 (.tup (T2 0 1))) l0 (.lst [.ref t0])) ls (.lst (List.replicate n (.ref t0)))=H1 at *;refine ⟨jZ,fun tb htb=>?_⟩;have g4:=qw htb (.tup (T2 0 1));have etb:SqT K (upd H1 tb (.tup (T2 0 1))) tb (TQ 0):=SqT.of qj;have g04:=g03.trans g4;have els:=g4 _ _ els;have z0:=g4.tup z0;generalize upd H1 tb (.tup (T2 0 1))=H2 at *;refine ⟨_,rfl,_,rfl,ra,pa,rfl,⟨_,g04.seq hR⟩,⟨_,g04.seq hP⟩,Z0 (n:=rows.length) (fun i σ H'=>Same H H'∧∃ (ls lb:Addr) (v:List V) (shs:List Rat) (bd:Rat) (u5 u6:Option V),σ=[some (.ref ra),some (.ref pa),some (.int n),some (.ref ls),some (.ref lb),u5,u6]∧H ls=none∧H' ls=some (.lst v)∧RL K H' v shs∧SqT K H' lb (TQ bd)∧shs.length=n∧shs++[bd]=mixQ (rows.take i) (ps.take i) (List.replicate (n+1) 0))
  ⟨g04,ls,tb,_,List.replicate n 0,0,_,_,rfl,nls,els,RL.rep ⟨t0,rfl,z0⟩ n,etb,Ad,by rw [zeros_snoc]; rfl⟩ ?_ ?_ ?_⟩
 ·rintro σ H' ⟨g,ls,lb,v,shs,bd,u5,u6,rfl,nl,el,rl,hb,ln,em⟩
  refine ⟨⟨_,_,g.seq hR,g.seq hP,.inl (by omega)⟩,?_⟩;rw [A8 (by omega),A8 (by omega)] at em;refine ⟨_,rfl,_,rfl,jZ,fun pr hpr=>?_⟩;have gr:=qw hpr (.tup [.ref ls,.ref lb]);exact q pr _ ls lb v shs bd (g.trans gr) qj (gr _ _ el) nl (rl.mono gr) (gr.tup hb) ln em
 ·rintro i σ H' hi ⟨g,_⟩
  exact ⟨_,_,_,_,g.seq hR,g.seq hP,A7 (by omega),A7 (by omega)⟩
 ·rintro i σ H' x H3 hi ⟨g,ls,lb,v,shs,bd,u5,u6,rfl,nl,el,rl,hb,ln,em⟩ ⟨p,x1,x2,hp,rfl,rfl,y1,y2⟩
  obtain ⟨row,er,ho⟩:=y7 rR (y1 _ (g.seq hR));obtain ⟨qp,ep,pp,rfl,hpp⟩:=rP.get (y2 _ (g.seq hP));obtain ⟨t,l,b',vs,rfl,h1,h2,h2',h3,h4⟩:=ho.mono g;have mr:=Af er;have s1:=sz.lr row mr;have sR:=sz.sr row mr;have sp:=sz.sp qp (Af ep);have lvs:=h3.length;have lv:=rl.length;have g5:=qw hp (.tup [.ref t,.ref pp]);have gg:=g.trans g5;have hpp:=gg.tup hpp;have h1:=g5.tup h1;have h2:=g5.seq h2;have h3:=h3.mono g5;have h4:=g5.tup h4;have el:=g5 _ _ el;have rl:=rl.mono g5;have hb:=g5.tup hb;have acc:∀ c,c≤n→SmQ 4000 ((shs++[bd]).getD c 0):=fun c hc=>by
   rw [em];exact sz.acc (by omega) hc
  have pro:∀ (c:Nat) (y:Rat),(row.1++[row.2])[c]?=some y→SmQ 4000 (qp*y):=fun c y hy=>by
   have hc:c≤n:=by
    have:=(A3.mp hy).1;rw [Ak,s1,Ab] at this;omega
   have k:=sz.bd i c hi hc;have e:rowG rows i c=y:=by unfold rowG; rw [qZ er]; exact qZ hy
   rw [qZ ep,e] at k;exact (k.sm sz.D0 sz.DX).mono (by have:=sz.bX; omega)
  have snoc:mixQ (rows.take (i+1)) (ps.take (i+1)) (List.replicate (n+1) 0)=List.zipWith (fun t q=>t+qp*q) shs row.1++[bd+qp*row.2]:=by
   rw [yv er,yv ep,mixQ_snoc _ _ _ _ _ (by rw [Au,Au]; omega),← em,zipWith_snoc (by omega)]
  have etp:upd H' p (.tup [.ref t,.ref pp]) p=some (.tup [.ref t,.ref pp]):=qj;have zl:(List.zipWith (fun t q=>t+qp*q) shs row.1).length=n:=by rw [List.length_zipWith]; omega
  refine ⟨p,_,rfl,SqT.of etp,rfl,_,_,rfl,_,_,rfl,rfl,?_⟩;generalize upd H' p (.tup [.ref t,.ref pp])=H4 at *;refine ⟨_,rfl,_,rfl,_,_,_,_,rfl,rfl,h1,rfl,ls,l,rfl,⟨_,SqL.of el⟩,⟨_,h2⟩,j3 (n:=n) (fun j ys H5=>Same H4 H5∧RL K H5 ys ((List.zipWith (fun t q=>t+qp*q) shs row.1).take j)) ⟨Same.refl _,.nil⟩ (zw (by omega)) ?_ ?_ ?_⟩
  case refine_2 =>
   rintro j ys H5 hj ⟨g6,_⟩;exact ⟨_,_,_,_,SqL.of (g6 _ _ el),g6.seq h2,A7 (by omega),A7 (by omega)⟩
  case refine_3 =>
   rintro j m' ys H5 c x H6 hj ⟨g6,r6⟩ ⟨p2,z1,z2,hp2,rfl,rfl,v1,v2⟩ nx _;obtain ⟨qa,ea,pa',rfl,ha⟩:=rl.get (v1 _ (SqL.of (g6 _ _ el)));obtain ⟨qb,eb,pb',rfl,hb'⟩:=h3.get (v2 _ (g6.seq h2));have g7:=qw hp2 (.tup [.ref pa',.ref pb']);have g67:=g6.trans g7;have ez:(List.zipWith (fun t q=>t+qp*q) shs row.1)[j]?=some (qa+qp*qb):=by rw [List.getElem?_zipWith,ea,eb]
   have eb2:(row.1++[row.2])[j]?=some qb:=by rw [A4 (by omega)]; exact eb
   have sqb:=sR qb (Af eb2);have sqa:SmQ 4000 qa:=by
    have:=acc j (by omega)
    rwa [qZ (x:=qa) (by rw [A4 (by omega)]; exact ea)] at this
   refine ⟨p2,_,rfl,SqT.of qj,rfl,_,_,rfl,_,_,rfl,rfl,Or.inl ⟨rfl,_,rfl,_,rfl,_,rfl,pp,pb',qp,qb,rfl,g67.tup hpp,g67.tup hb',sp,sqb,fun p3 H7 g8 e8=>?_⟩⟩;refine ⟨pa',p3,qa,_,rfl,(g67.trans g8).tup ha,SqT.of e8,sqa,pro j qb eb2,fun p4 H8 g9 e9=>nx _ _ ⟨g67.trans (g8.trans g9),?_⟩⟩;rw [yv ez];exact (r6.mono (g7.trans (g8.trans g9))).snoc ⟨p4,rfl,SqT.of e9⟩
  rintro ys H5 ⟨g6,r6⟩;refine ⟨⟨_,_,SqL.of (g6 _ _ el),g6.seq h2,.inl (by omega)⟩,fun lq hlq=>?_⟩;rw [A8 (by omega)] at r6;have g7:=qw hlq (.lst ys);have g67:=g6.trans g7;have nlq:H lq=none:=zW (gg.trans g6) hlq;have elq:upd H5 lq (.lst ys) lq=some (.lst ys):=qj;have r6:=r6.mono g7;generalize upd H5 lq (.lst ys)=H6 at *;have er2:(row.1++[row.2])[n]?=some row.2:=by rw [A2 (by omega),s1,Nat.sub_self]; rfl
  have sbd:SmQ 4000 bd:=by
   have:=acc n (Nat.le_refl _)
   rwa [qZ (x:=bd) (by rw [A2 (by omega),ln,Nat.sub_self]; rfl)] at this
  refine ⟨_,rfl,_,rfl,_,rfl,_,_,_,_,rfl,rfl,g67.tup h1,rfl,pp,b',qp,row.2,rfl,g67.tup hpp,g67.tup h4,sp,sR _ (Af er2),fun p5 H8 g8 e8=>?_⟩;refine ⟨lb,p5,bd,_,rfl,(g67.trans g8).tup hb,SqT.of e8,sbd,pro n _ er2,fun p6 H9 g9 e9=>?_⟩;exact ⟨gg.trans (g67.trans (g8.trans g9)),lq,p6,ys,_,_,_,_,rfl,nlq,(g8.trans g9) _ _ elq,r6.mono (g8.trans g9),SqT.of e9,zl,snoc.symm⟩
theorem all_nn {qs:List Rat} (h:∀ q∈qs,0≤q):(qs.map fun q=>decide (q.num≥0)).all id=true:=by
 rw [List.all_eq_true];intro b hb;obtain ⟨q,hq,rfl⟩:=List.mem_map.mp hb;exact decide_eq_true ((Rat.num_nonneg (q:=q)).mpr (h q hq))
def spGoodP (K:Bc):Sp:=fun vs H Q _=>∃ (ra pa:Addr) (vr vp:List V) (ps:List Rat),vs=[.ref ra,.ref pa]∧SqL K H ra vr∧SqL K H pa vp∧RL K H vp ps∧ps.length=vr.length∧ps.length≤40∧(∀ q∈ps,SmQ 4000 q)∧(∀ q∈ps,0≤q)∧∀ H',Same H H'→Q (.bl true) H'
theorem J6 (T:Txt K mg a):FnOk P w K mg base CX0 3 a.fyc a.dyc ["_law_rows", "_law_prices"] (spGoodP K):=by
 refine T.Fyc.ok scyc (fun vs H Q E h=>?_) (fun cdv A outer s H vs Q E hr h=>?_)
 ·obtain ⟨_,_,_,_,_,rfl,_⟩:=h
  rfl
 obtain ⟨ra,pa,vr,vp,ps,rfl,hR,hP,rP,lp,p40,sp,nn,q⟩:=h;refine ⟨_,(qX (zQ (pe_and (qK (Qw T) (hr.mono (by decide)) rfl T.myd T.Fyd.kp T.byd .nil pass0 (pa_c (pv 1) (pa_c (zX (yV) rfl T.m_len boot_len (pa_c (pv 0) qk)) qk))) (pe_one (zX (call_all rfl) rfl T.m_all boot_all (pa_c (vJ (N:=["_law_price"]) (ix:=[none]) ⟨rfl,rfl,rfl,rfl,trivial,rfl,trivial⟩ rfl (yW (pv 1)) (fun _=>(qW (i:=0) (show (["_law_price"]:List Str).Nodup by decide +kernel) rfl (Or.inl rfl))) (fun _ σ=>jQ rfl σ) (fun _=>yy) (fun _=>(Qq op_ge (pe_ix qY (pv 0) qz (fun _ _=>rfl)) qz (zv _)))) qk)))))),?_⟩;have lvp:=rP.length;refine ⟨_,rfl,_,rfl,_,_,rfl,.inl hR,pa,vp,ps,_,rfl,hP,rP,by rw [lp],sp,fun H1 g1=>⟨_,rfl,iteT ?_⟩⟩;have hP1:=g1.seq hP;refine ⟨_,rfl,pa,rfl,⟨_,hP1⟩,j3 (n:=ps.length) (fun i ys H'=>H'=H1∧ys=((ps.map fun q=>decide (q.num≥0)).take i).map V.bl) ⟨rfl,rfl⟩ (zw (by omega)) ?_ ?_ ?_⟩
 case refine_2 =>
  rintro i ys H' hi ⟨rfl,_⟩;exact ⟨_,_,hP1,A7 (by omega)⟩
 case refine_3 =>
  rintro i m' ys H' c x H2 hi ⟨rfl,rfl⟩ ⟨rfl,y1⟩ nx _;obtain ⟨qa,ea,pp,rfl,ha⟩:=rP.get (y1 _ hP1);refine Or.inl ⟨rfl,_,rfl,_,_,_,_,rfl,rfl,g1.tup ha,rfl,_,_,rfl,rfl,nx _ _ ⟨rfl,?_⟩⟩;rw [yv (x:=decide (qa.num≥0)) (by rw [List.getElem?_map,ea]; rfl),Ax];rfl
 rintro ys H' ⟨rfl,rfl⟩;rw [A8 (by rw [Av]; exact Nat.le_refl _)];refine ⟨⟨_,hP1,by omega⟩,fun lb hlb=>?_⟩;refine ⟨lb,_,rfl,SqL.of qj,?_⟩;rw [all_nn nn];exact q _ (g1.trans (qw hlb _))
structure KeepSz (D b X n:Nat) (rows:List (List Rat×Rat)) (pt:List Rat):Prop where
 r40:rows.length≤40
 dot:∀ r∈rows,DotSz D b X n r.1 pt
 sr:∀ r∈rows,SmQ 4000 r.2
theorem any_no {l:List (List Rat×Rat)} {f:List Rat×Rat→Bool} (h:∀ r∈l,f r=false):(l.map f).any id=false:=by
 rw [List.any_eq_false];intro b hb;obtain ⟨r,hr,rfl⟩:=List.mem_map.mp hb;rw [h r hr]
 decide
def spKeepsL (K:Bc):Sp:=fun vs H Q _=>∃ (ra pa:Addr) (vr vp:List V) (rows:List (List Rat×Rat)) (pt:List Rat) (D b X n:Nat),vs=[.ref ra,.ref pa]∧SqL K H ra vr∧SqL K H pa vp∧RowL K H vr rows∧RL K H vp pt∧KeepSz D b X n rows pt∧(∀ r∈rows,dotG n r.1 pt≤r.2)∧∀ H',Same H H'→Q (.bl true) H'
theorem oky6 (T:Txt K mg a):FnOk P w K mg base CX0 4 a.fy6 a.dy6 ["_law_rows", "_law_point"] (spKeepsL K):=by
 refine T.Fy6.ok scy6 (fun vs H Q E h=>?_) (fun cdv A outer s H vs Q E hr h=>?_)
 ·obtain ⟨_,_,_,_,_,_,_,_,_,_,rfl,_⟩:=h
  rfl
 obtain ⟨ra,pa,vr,vp,rows,pt,D,b,X,n,rfl,hR,hP,rR,rP,sz,kp,q⟩:=h;refine ⟨_,(qX (zQ (pe_not (zX (call_any rfl) rfl T.m_any boot_any (pa_c (vJ (N:=["_law_row_here", "_law_point"]) (ix:=[none,some 1]) ⟨rfl,rfl,rfl,rfl,⟨rfl,trivial⟩,rfl,⟨⟨rfl,Or.inr (Or.inl rfl),jj rfl,rfl,Or.inl rfl⟩,trivial⟩⟩ rfl (yW (pv 0)) (fun _=>(qW (i:=0) (show (["_law_row_here", "_law_point"]:List Str).Nodup by decide +kernel) rfl (Or.inl rfl))) (fun _ σ=>jQ rfl σ) (fun _=>yy) (fun _=>(qK (oky2 T) (hr.mono (by decide)) rfl T.my2 T.Fy2.kp T.by2 .nil pass0 (pa_c (pe_ix qY (pv 0) qz (fun _ _=>rfl)) (pa_c (qK (W7 T) (hr.mono (by decide)) rfl T.my5 T.Fy5.kp T.by5 .nil pass0 (pa_c (pe_ix qY (pv 0) qz (fun _ _=>rfl)) (pa_c (pv 1) qk))) qk))))) qk))))),?_⟩;have lr:=rR.length;have r40:=sz.r40;refine ⟨_,rfl,ra,rfl,⟨_,hR⟩,j3 (n:=rows.length) (fun i ys H'=>Same H H'∧ys=((rows.map fun r=>decide (r.2<dotG n r.1 pt)).take i).map V.bl) ⟨Same.refl _,rfl⟩ (zw (by omega)) ?_ ?_ ?_⟩
 case refine_2 =>
  rintro i ys H' hi ⟨g,_⟩;exact ⟨_,_,g.seq hR,A7 (by omega)⟩
 case refine_3 =>
  rintro i m' ys H' c x H2 hi ⟨g,rfl⟩ ⟨rfl,y1⟩ nx _;obtain ⟨row,er,ho⟩:=y7 rR (y1 _ (g.seq hR));obtain ⟨t,l,b',vs,rfl,h1,h2,h2',h3,h4⟩:=ho.mono g;have mr:=Af er;have ds:=sz.dot row mr;refine Or.inl ⟨rfl,_,rfl,_,_,_,_,rfl,rfl,h1,rfl,_,rfl,_,_,_,_,rfl,rfl,h1,rfl,_,rfl,l,pa,vs,vp,row.1,pt,D,b,X,n,rfl,h2,g.seq hP,h3,RL.mono rP g,ds,fun p H3 g3 hp=>?_⟩;refine ⟨b',p,row.2,_,rfl,g3.tup h4,hp,sz.sr row mr,ds.sm (Nat.le_refl _),nx _ _ ⟨g.trans g3,?_⟩⟩;rw [yv (x:=decide (row.2<dotG n row.1 pt)) (by rw [List.getElem?_map,er]; rfl),Ax];rfl
 rintro ys H' ⟨g,rfl⟩;rw [A8 (by rw [Av]; exact Nat.le_refl _)];refine ⟨⟨_,g.seq hR,by omega⟩,fun lb hlb=>?_⟩;refine ⟨lb,_,rfl,SqL.of qj,?_⟩;rw [any_no fun r hr=>decide_eq_false (Rat.not_lt.mpr (kp r hr))];exact ⟨_,rfl,q _ (g.trans (qw hlb _))⟩
def spCopy (K:Bc):Sp:=fun vs H Q _=>∃ (ra:Addr) (vr:List V) (rows:List (List Rat×Rat)),vs=[.ref ra]∧SqL K H ra vr∧RowL K H vr rows∧rows.length≤40∧(∀ r∈rows,r.1.length≤40)∧∀ (l:Addr) (ys:List V) (H':Hp),Same H H'→H l=none→H' l=some (.lst ys)→RowL K H' ys rows→Q (.ref l) H'
theorem oky4 (T:Txt K mg a):FnOk P w K mg base CX0 1 a.fy4 a.dy4 ["_law_rows"] (spCopy K):=by
 refine T.Fy4.ok scy4 (fun vs H Q E h=>?_) (fun cdv A outer s H vs Q E hr h=>?_)
 ·obtain ⟨_,_,_,rfl,_⟩:=h
  rfl
 obtain ⟨ra,vr,rows,rfl,hR,rR,r40,n40,q⟩:=h;refine ⟨_,(qX (zQ (vJ (N:=["_law_row_here"]) (ix:=[none]) ⟨rfl,rfl,rfl,rfl,trivial,rfl,trivial⟩ rfl (yW (pv 0)) (fun _=>(qW (i:=0) (show (["_law_row_here"]:List Str).Nodup by decide +kernel) rfl (Or.inl rfl))) (fun _ σ=>jQ rfl σ) (fun _=>yy) (fun _=>(j4 (pa_c (xv (xj) rfl T.m_list boot_list (pa_c (pe_ix qY (pv 0) qz (fun _ _=>rfl)) qk)) (pa_c (pe_ix qY (pv 0) qz (fun _ _=>rfl)) qk))))))),?_⟩;have lr:=rR.length;refine ⟨_,rfl,ra,rfl,⟨_,hR⟩,j3 (n:=rows.length) (fun i ys H'=>Same H H'∧RowL K H' ys (rows.take i)) ⟨Same.refl _,.nil⟩ (zw (by omega)) ?_ ?_ ?_⟩
 case refine_2 =>
  rintro i ys H' hi ⟨g,_⟩;exact ⟨_,_,g.seq hR,A7 (by omega)⟩
 case refine_3 =>
  rintro i m' ys H' c x H2 hi ⟨g,r⟩ ⟨rfl,y1⟩ nx _;obtain ⟨row,er,ho⟩:=y7 rR (y1 _ (g.seq hR));obtain ⟨t,l,b',vs,rfl,h1,h2,h2',h3,h4⟩:=ho.mono g;refine Or.inl ⟨rfl,_,rfl,_,_,_,_,rfl,rfl,h1,rfl,l,vs,rfl,.inl h2,fun l' hl'=>?_⟩;have g8:=qw hl' (.lst vs);refine ⟨_,rfl,_,_,_,_,rfl,rfl,g8.tup h1,rfl,jZ,fun t' ht'=>nx _ _ ?_⟩;have g9:=qw ht' (.tup [.ref l',.ref b']);have g89:=g8.trans g9;refine ⟨g.trans g89,?_⟩;rw [yv er];exact Paired.snoc (RowL.mono r g89) ⟨t',l',b',vs,rfl,SqT.of qj,SqL.of (g9 _ _ qj),g9 _ _ qj,h3.mono g89,g89.tup h4⟩
 rintro ys H' ⟨g,r⟩;rw [A8 (Nat.le_refl _)] at r;refine ⟨⟨_,g.seq hR,by omega⟩,fun lb hlb=>?_⟩;have g2:=qw hlb (.lst ys);exact q lb ys _ (g.trans g2) (zW g hlb) qj (RowL.mono r g2)
theorem bd_row {m D b X k:Nat} {rows:List (List Rat×Rat)} {goal:List Rat} (sz:AskSz m D b X k rows goal) {r:List Rat×Rat} (hr:r∈rows):(∀ i,Bd D b (r.1.getD i 0))∧∀ q∈r.1++[r.2],SmQ (b+X) q:=by
 obtain ⟨_,h⟩:=sz.lr r hr;refine ⟨fun i=>?_,fun q hq=>(h q hq).sm sz.D0 sz.DX⟩;rw [A1]
 cases e:r.1[i]? with
 | none=>exact Bd.zero _ _
 | some q=>exact h q (Ah _ (Af e))
theorem one_mem {k:Nat} {l:List Rat} (h:OneD k fun i=>l.getD i 0):∀ q∈l,SmQ (k+k) q:=fun q hq=>by
 obtain ⟨D,D0,DX,bd⟩:=h;obtain ⟨i,hi⟩:=Ag hq;have k:Bd D k (l.getD i 0):=bd i;rw [qZ hi] at k;exact k.sm D0 DX
theorem num_npos {y:Rat} (h:y≤0):¬ y.num>0:=fun z=>by
 have z:0<y.num:=z;have a:=(Rat.num_nonneg (q:=y)).mp (by omega);have e:y=0:=Rat.le_antisymm h a;rw [e] at z;exact absurd z (by decide)
theorem dot_sz {m D b X kk:Nat} {as pt:List Rat} (la:as.length=m) (lp:pt.length=m) (m40:m≤40) (D0:0<D) (DX:D<2^X) (hk:2*kk+(b+X)+40≤4000) (ha:∀ i,Bd D b (as.getD i 0)) (sa:∀ q∈as,SmQ (b+X) q) (h:OneD kk fun i=>pt.getD i 0):∃ E c Y,DotSz E c Y m as pt:=by
 obtain ⟨E,E0,EX,bd⟩:=h;have DE:D*E<2^(X+kk):=by
  rw [Nat.pow_add];exact Nat.mul_lt_mul'' DX EX
 refine ⟨D*E,b+kk,X+kk,la,lp,m40,fun q hq=>(sa q hq).mono (by omega),fun q hq=>(one_mem ⟨E,E0,EX,bd⟩ q hq).mono (by omega),Nat.mul_pos D0 E0,DE,by omega,fun i=>(ha i).mul (bd i)⟩
theorem rl_deep {K:Bc} {H:Hp} {n:Nat} {l l':Addr} {vs ws:List V} {qs:List Rat} (h1:SqL K H l vs) (h2:SqL K H l' ws) (r1:RL K H vs qs) (r2:RL K H ws qs):DEq K H (n+2) (.ref l) (.ref l'):=by
 have al:=r1.alike r2;exact .lst h1 h2 al.1 fun j x y e1 e2=>by
  obtain ⟨q1,f1,i1⟩:=r1.get e1;obtain ⟨q2,f2,i2⟩:=r2.get e2;rw [f1] at f2;have e:=B0 f2;subst e;exact two_alike (n:=n) i1 i2
def spRight (K:Bc):Sp:=fun vs H Q _=>∃ (ra ga:Addr) (v:V) (vr vg:List V) (rows:List (List Rat×Rat)) (goal:List Rat) (m D b X k:Nat) (N:Addr→Prop) (ans:AnsQ),vs=[.ref ra,.ref ga,v]∧SqL K H ra vr∧RowL K H vr rows∧SqL K H ga vg∧RL K H vg goal∧AskSz m D b X k rows goal∧m≤40∧rows.length≤40∧2*(k+2*(b+X))+(b+X)+40≤4000∧AnsAt K N H v ans∧ZV m rows goal ans∧AnsSz (k+2*(b+X)) m rows ans∧∀ H',Same H H'→Q (.bl true) H'
abbrev xz (P w K mg base) (a:Adr) (cdv A outer s H E):=(cxOf CX0 P w K mg base ["_law_rows", "_law_goal", "_law_found", "_law_many_here", "_law_shares_here", "_law_bound"] "_law_right" (qQ v8) a.fye cdv A outer s H E).nox
set_option maxHeartbeats 0 in
theorem okye (T:Txt K mg a):FnOk P w K mg base CX0 5 a.fye a.dye ["_law_rows", "_law_goal", "_law_found"] (spRight K):=by
 refine T.Fye.ok YQ (fun vs H Q E h=>?_) (fun cdv A outer s H vs Q E hr h=>?_)
 ·obtain ⟨_,_,_,_,_,_,_,_,_,_,_,_,_,_,rfl,_⟩:=h
  rfl
 obtain ⟨ra,ga,v,vr,vg,rows,goal,m,D,b,X,k,N,ans,rfl,hR,rR,hG,rG,sz,m40,r40,kk,at_,ri,as,q⟩:=h;have h0:PS (xz P w K mg base a cdv A outer s H E) (bS v8 0) _:=(zq (i:=3) YQ.nd rfl (Or.inl rfl) (zX (yV) rfl T.m_len boot_len (pa_c (pv 1) qk)));have h1:PS (xz P w K mg base a cdv A outer s H E) (bS v8 1) _:=(ps_if (PW.pt (pw_or (QW (wV (zX (Yq) rfl T.m_isinstance boot_isinstance (pa_c (pv 2) (pa_c (JQ (v:=.ty "tuple") rfl T.m_tuple boot_tuple rfl) qk))))) (pw_or (zj (op_eqTE (hu_of hr)) (pv 2) (j4 qk) (zv _)) (QV (QW (wV (zX (Yq) rfl T.m_isinstance boot_isinstance (pa_c (pe_ix qY (pv 2) qz (fun _ _=>rfl)) (pa_c (JQ (v:=.ty "str") rfl T.m_str boot_str rfl) qk)))))))))
    (qX (zQ pe_bl))
    y4)
 have h2:PS (xz P w K mg base a cdv A outer s H E) (bS v8 2) _:=(ps_if (PW.pt (W3 (zj op_eq (pe_ix qY (pv 2) qz (fun _ _=>rfl)) pe_str (zv _)) (W3 (zj op_eq (zX (yV) rfl T.m_len boot_len (pa_c (pv 2) qk)) qz (zv _)) (pw_and1 (wV (qK (J6 T) (hr.mono (by decide)) rfl T.myc T.Fyc.kp T.byc .nil pass0 (pa_c (pv 0) (pa_c (pe_ix qY (pv 2) qz (fun _ _=>rfl)) qk))))))))
    (qJ (k7 (qK (oky8 T) (hr.mono (by decide)) rfl T.my8 T.Fy8.kp T.by8 .nil pass0 (pa_c (pv 0) (pa_c (pe_ix qY (pv 2) qz (fun _ _=>rfl)) (pa_c (pv 3) qk)))) (vZ rfl (zy (qW (i:=4) YQ.nd rfl (Or.inl rfl)) (zy (qW (i:=5) YQ.nd rfl (Or.inl rfl)) jy))))
   (qX (zQ (pe_and (Qq (op_eqD hr.units) (pv 4) (pe_op op_rep (w5 (pa_c (j4 (pa_c qz (pa_c qz qk))) qk)) (pv 3)) (zv _)) (pe_one (Qq op_lt (pe_ix qY (pv 5) qz (fun _ _=>rfl)) qz (zv _)))))))
    y4)
 have h3:PS (xz P w K mg base a cdv A outer s H E) (bS v8 3) _:=(ps_if (PW.pt (W3 (zj op_eq (pe_ix qY (pv 2) qz (fun _ _=>rfl)) pe_str (zv _)) (W3 (zj op_eq (zX (yV) rfl T.m_len boot_len (pa_c (pv 2) qk)) qz (zv _)) (W3 (wV (qK (Qw T) (hr.mono (by decide)) rfl T.myd T.Fyd.kp T.byd .nil pass0 (pa_c (pe_ix qY (pv 2) qz (fun _ _=>rfl)) (pa_c (pv 3) qk)))) (pw_and1 (wV (qK (Qw T) (hr.mono (by decide)) rfl T.myd T.Fyd.kp T.byd .nil pass0 (pa_c (pe_ix qY (pv 2) qz (fun _ _=>rfl)) (pa_c (pv 3) qk)))))))))
    (qJ (ps_if (PW.pt (pw_or (QW (wV (qK (oky6 T) (hr.mono (by decide)) rfl T.my6 T.Fy6.kp T.by6 .nil pass0 (pa_c (pv 0) (pa_c (pe_ix qY (pv 2) qz (fun _ _=>rfl)) qk))))) (QV (wV (zX (call_any rfl) rfl T.m_any boot_any (pa_c (vJ (N:=["_law_row_here", "_law_found"]) (ix:=[none,some 2]) ⟨rfl,rfl,rfl,rfl,⟨rfl,trivial⟩,rfl,⟨⟨rfl,Or.inr (Or.inl rfl),jj rfl,rfl,Or.inl rfl⟩,trivial⟩⟩ rfl (yW (pv 0)) (fun _=>(qW (i:=0) (show (["_law_row_here", "_law_found"]:List Str).Nodup by decide +kernel) rfl (Or.inl rfl))) (fun _ σ=>jQ rfl σ) (fun _=>yy) (fun _=>(Qq op_gt (pe_ix qY (qK (W7 T) (hr.mono (by decide)) rfl T.my5 T.Fy5.kp T.by5 .nil pass0 (pa_c (pe_ix qY (pv 0) qz (fun _ _=>rfl)) (pa_c (pe_ix qY (pv 1) qz (fun _ _=>rfl)) qk))) qz (fun _ _=>rfl)) qz (zv _)))) qk))))))
    (qX (zQ pe_bl))
    y4)
   (qX (zQ (Qq op_gt (pe_ix qY (qK (W7 T) (hr.mono (by decide)) rfl T.my5 T.Fy5.kp T.by5 .nil pass0 (pa_c (pv 1) (pa_c (pe_ix qY (pv 2) qz (fun _ _=>rfl)) qk))) qz (fun _ _=>rfl)) qz (zv _)))))
    y4)
 have h4:PS (xz P w K mg base a cdv A outer s H E) (bS v8 4) _:=(ps_if (PW.pt (pw_or (zj op_ne (pe_ix qY (pv 2) qz (fun _ _=>rfl)) pe_str (zv _)) (pw_or (zj op_ne (zX (yV) rfl T.m_len boot_len (pa_c (pv 2) qk)) qz (zv _)) (pw_or (QW (wV (qK (Qw T) (hr.mono (by decide)) rfl T.myd T.Fyd.kp T.byd .nil pass0 (pa_c (w5 (pa_c (pe_ix qY (pv 2) qz (fun _ _=>rfl)) qk)) (pa_c qz qk))))) (QV (QW (wV (qK (Qw T) (hr.mono (by decide)) rfl T.myd T.Fyd.kp T.byd .nil pass0 (pa_c (pe_ix qY (pv 2) qz (fun _ _=>rfl)) (pa_c (pv 3) qk))))))))))
    (qX (zQ pe_bl))
    y4)
 have h5:PS (xz P w K mg base a cdv A outer s H E) (bS v8 5) _:=(ps_if (PW.pt (pw_or (QW (wV (qK (J6 T) (hr.mono (by decide)) rfl T.myc T.Fyc.kp T.byc .nil pass0 (pa_c (pv 0) (pa_c (pe_ix qY (pv 2) qz (fun _ _=>rfl)) qk))))) (QV (QW (wV (qK (oky6 T) (hr.mono (by decide)) rfl T.my6 T.Fy6.kp T.by6 .nil pass0 (pa_c (pv 0) (pa_c (pe_ix qY (pv 2) qz (fun _ _=>rfl)) qk))))))))
    (qX (zQ pe_bl))
    y4)
 have h6:PS (xz P w K mg base a cdv A outer s H E) (bS v8 6) _:=(zQ (pe_and (Qq (op_eqT (hu_of hr)) (qK (W7 T) (hr.mono (by decide)) rfl T.my5 T.Fy5.kp T.by5 .nil pass0 (pa_c (pv 1) (pa_c (pe_ix qY (pv 2) qz (fun _ _=>rfl)) qk))) (pe_ix qY (pv 2) qz (fun _ _=>rfl)) (zv _)) (pe_one (Qq (op_eqD hr.units) (qK (oky8 T) (hr.mono (by decide)) rfl T.my8 T.Fy8.kp T.by8 .nil pass0 (pa_c (pv 0) (pa_c (pe_ix qY (pv 2) qz (fun _ _=>rfl)) (pa_c (pv 3) qk)))) (j4 (pa_c (pv 1) (pa_c (pe_ix qY (pv 2) qz (fun _ _=>rfl)) qk))) (zv _)))));refine body7 (by rfl) h0 h1 h2 h3 h4 h5 h6 ?_
 intros
 clear h0 h1 h2 h3 h4 h5 h6;have lvg:=rG.length;have lvr:=rR.length;have lg:=sz.lg;have evm:((vg.length:Nat):Int)=((m:Nat):Int):=by omega
 refine ⟨_,rfl,ga,_,rfl,.inl hG,?_⟩;dsimp only;rw [evm];have mixSz:∀ {ps:List Rat},ps.length=rows.length→(∀ p∈ps,SmQ (2*(k+2*(b+X))) p)→(OneD (k+2*(b+X)) fun i=>if i/(m+1)<rows.length then ps.getD (i/(m+1)) 0*rowG rows (i/(m+1)) (i%(m+1)) else 0)→∃ E,MixSz E (k+2*(b+X)) (k+2*(b+X)) m rows ps:=fun {ps} lp sp ⟨E,E0,EX,bd⟩ =>
  ⟨E,m40,r40,lp.symm,fun r hr=>(sz.lr r hr).1,fun r hr q hq=>((bd_row sz hr).2 q hq).mono (by omega),fun p hp=>(sp p hp).mono (by omega),E0,EX,by omega,fun x c hx hc=>OneD.row bd hx hc⟩
 cases ans with
 | empty ps =>
  obtain ⟨p,l,ys,rfl,hp,hl,_,rl⟩:=at_;obtain ⟨lp,nn,bb,b0,mx⟩:=ri;obtain ⟨sp,od⟩:=as;obtain ⟨E,ms⟩:=mixSz lp sp od;have sP:=SqT.of (K:=K) hp;refine ⟨_,rfl,_,_,_,rfl,IsI.tupTup sP,_,rfl,iteF ⟨_,rfl,(show 0≤sizeLine by decide),fun t0 ht0=>?_⟩⟩;have g1:=qw ht0 (.tup []);refine ⟨p,t0,_,rfl,rfl,g1.tup sP,SqT.of qj,_,rfl,iteF ?_⟩;have g1p:=g1 _ _ hp;refine ⟨_,rfl,_,_,_,_,rfl,rfl,SqT.of g1p,rfl,_,_,_,rfl,IsI.strStr _,_,rfl,iteF ?_⟩;have e1:=g1 _ _ hl;have rl1:=RL.mono rl g1;have rR1:=RowL.mono rR g1;have hR1:=g1.seq hR;generalize upd H t0 (.tup [])=H1 at *;refine ⟨_,rfl,_,_,_,_,rfl,rfl,SqT.of g1p,rfl,rfl,_,rfl,iteT ⟨_,rfl,_,_,rfl,.inr (SqT.of g1p),rfl,_,rfl,iteT ?_⟩⟩;refine ⟨_,rfl,_,rfl,_,_,_,_,rfl,rfl,SqT.of g1p,rfl,ra,l,vr,ys,ps,rfl,hR1,SqL.of e1,rl1,by omega,by omega,fun q hq=>(sp q hq).mono (by omega),nn,fun H2 g2=>⟨_,rfl,iteT ?_⟩⟩;have g2p:=g2 _ _ g1p;refine ⟨_,rfl,_,rfl,_,_,_,_,rfl,rfl,SqT.of g2p,rfl,_,rfl,ra,l,m,vr,ys,rows,ps,E,_,_,rfl,g2.seq hR1,SqL.of (g2 _ _ e1),RowL.mono rR1 g2,RL.mono rl1 g2,ms,fun pm H3 lm bm ym shs bd g3 e31 e32 nlm rm sbm lsh emx=>?_⟩;rw [mx] at emx;obtain ⟨es,eb⟩:=List.append_inj' emx rfl;have eb:bd=bb:=by simpa using eb
  subst es eb;refine ⟨pm,_,rfl,SqT.of e31,rfl,_,_,rfl,_,_,rfl,rfl,?_⟩;refine ⟨_,rfl,jZ,fun t1 ht1=>⟨(show 1≤sizeLine by decide),fun l0 hl0=>?_⟩⟩;have u1:=qw ht1 (.tup (T2 0 1));have u2:=qw hl0 (.lst [.ref t1]);refine ⟨_,rfl,l0,_,_,rfl,rfl,qj,by omega,by omega,?_,fun lz hlz=>?_⟩
  ·rw [Ab]
   exact Nat.le_of_lt (zw (by omega))
  rw [Int.toNat_natCast,flat_rep];have u3:=qw hlz (.lst (List.replicate m (.ref t1)));have u:=u1.trans (u2.trans u3);have z0:SqT K (upd (upd (upd H3 t1 (.tup (T2 0 1))) l0 (.lst [.ref t1])) lz (.lst (List.replicate m (.ref t1)))) t1 (TQ 0):=SqT.of ((u2.trans u3) _ _ qj);have ez:upd (upd (upd H3 t1 (.tup (T2 0 1))) l0 (.lst [.ref t1])) lz (.lst (List.replicate m (.ref t1))) lz=some (.lst (List.replicate m (.ref t1))):=qj;clear u1 u2 u3 hlz hl0 ht1;generalize upd (upd (upd H3 t1 (.tup (T2 0 1))) l0 (.lst [.ref t1])) lz (.lst (List.replicate m (.ref t1)))=H4 at *;have rz:RL K H4 (List.replicate m (V.ref t1)) (List.replicate m 0):=RL.rep ⟨t1,rfl,z0⟩ m;refine ⟨lm,lz,_,_,rfl,rfl,.inl ⟨SqL.of (u _ _ e32),SqL.of ez⟩,(RL.mono rm u).alike rz,_,rfl,iteT ?_⟩;refine ⟨_,rfl,_,_,_,_,rfl,rfl,u.tup sbm,rfl,_,_,rfl,rfl,?_⟩;have bn:bd.num<0:=by
   have a:=(Rat.num_nonneg (q:=bd));have:¬ 0≤bd.num:=fun z=>(Rat.not_le.mpr b0) (a.mp z)
   omega
  have e:decide (bd.num<0)=true:=decide_eq_true bn;dsimp only;rw [e];exact q _ (g1.trans (g2.trans (g3.trans u)))
 | endless pt wy =>
  obtain ⟨p,l1,l2,y1,y2,rfl,hp,hl1,hl2,_,_,rl1,rl2⟩:=at_;obtain ⟨lp,lw,kp,kw,gw⟩:=ri;obtain ⟨op,ow⟩:=as;have sP:=SqT.of (K:=K) hp;refine ⟨_,rfl,_,_,_,rfl,IsI.tupTup sP,_,rfl,iteF ⟨_,rfl,(show 0≤sizeLine by decide),fun t0 ht0=>?_⟩⟩;have g1:=qw ht0 (.tup []);refine ⟨p,t0,_,rfl,rfl,g1.tup sP,SqT.of qj,_,rfl,iteF ?_⟩;have g1p:=g1 _ _ hp;refine ⟨_,rfl,_,_,_,_,rfl,rfl,SqT.of g1p,rfl,_,_,_,rfl,IsI.strStr _,_,rfl,iteF ?_⟩;generalize upd H t0 (.tup [])=H1 at *;refine ⟨_,rfl,_,_,_,_,rfl,rfl,SqT.of g1p,rfl,rfl,_,rfl,iteF (iteF ?_)⟩;refine ⟨_,rfl,_,_,_,_,rfl,rfl,SqT.of g1p,rfl,rfl,_,rfl,iteT ⟨_,rfl,_,_,rfl,.inr (SqT.of g1p),rfl,_,rfl,iteT ?_⟩⟩;refine ⟨_,rfl,_,_,_,_,rfl,rfl,SqT.of g1p,rfl,_,rfl,l1,y1,pt,_,rfl,SqL.of (g1 _ _ hl1),RL.mono rl1 g1,by rw [lp],fun q hq=>(one_mem op q hq).mono (by omega),fun H2 g2=>⟨_,rfl,iteT ?_⟩⟩;have g12:=g1.trans g2;refine ⟨_,rfl,_,_,_,_,rfl,rfl,SqT.of (g12 _ _ hp),rfl,_,rfl,l2,y2,wy,_,rfl,SqL.of (g12 _ _ hl2),RL.mono rl2 g12,by rw [lw],fun q hq=>(one_mem ow q hq).mono (by omega),fun H3 g3=>⟨_,rfl,iteT ?_⟩⟩;have g13:=g12.trans g3;have ksz:∀ {pt:List Rat},pt.length=m→(OneD (k+2*(b+X)) fun i=>pt.getD i 0)→∃ E c Y,KeepSz E c Y m rows pt:=fun {pt} lp op=>by
   obtain ⟨E,E0,EX,bd⟩:=op;have DE:D*E<2^(X+(k+2*(b+X))):=by
    rw [Nat.pow_add];exact Nat.mul_lt_mul'' sz.DX EX
   exact ⟨D*E,b+(k+2*(b+X)),X+(k+2*(b+X)),r40,fun r hr=>⟨(sz.lr r hr).1,lp,m40,fun q hq=>((bd_row sz hr).2 q (Ah _ hq)).mono (by omega),fun q hq=>(one_mem ⟨E,E0,EX,bd⟩ q hq).mono (by omega),Nat.mul_pos sz.D0 E0,DE,by omega,fun i=>((bd_row sz hr).1 i).mul (bd i)⟩,fun r hr=>((bd_row sz hr).2 _ (Ac _ Am)).mono (by omega)⟩
  obtain ⟨E1,c1,Y1,k1⟩:=ksz lp op;refine ⟨_,rfl,_,rfl,_,_,_,_,rfl,rfl,SqT.of (g13 _ _ hp),rfl,ra,l1,vr,y1,rows,pt,E1,c1,Y1,m,rfl,g13.seq hR,SqL.of (g13 _ _ hl1),RowL.mono rR g13,RL.mono rl1 g13,k1,kp,fun H4 g4=>⟨_,rfl,iteF ?_⟩⟩;have g14:=g13.trans g4;have hR4:=g14.seq hR;have rR4:=RowL.mono rR g14;have rw4:=RL.mono rl2 g14;have hw4:=g14 _ _ hl2;have hp4:=g14 _ _ hp;obtain ⟨E2,c2,Y2,k2⟩:=ksz lw ow;refine ⟨_,rfl,ra,rfl,⟨_,hR4⟩,j3 (n:=rows.length) (fun i ys H'=>Same H4 H'∧ys=((rows.map fun r=>decide ((dotG m r.1 wy).num>0)).take i).map V.bl) ⟨Same.refl _,rfl⟩ (zw (by omega)) ?_ ?_ ?_⟩
  case refine_2 =>
   rintro i ys H' hi ⟨g,_⟩;exact ⟨_,_,g.seq hR4,A7 (by omega)⟩
  case refine_3 =>
   rintro i m' ys H' c x H5 hi ⟨g,rfl⟩ ⟨rfl,y1'⟩ nx _;obtain ⟨row,er,ho⟩:=y7 rR4 (y1' _ (g.seq hR4));obtain ⟨t,l,b',vs,rfl,h1,h2,h2',h3,h4⟩:=ho.mono g;have mr:=Af er;refine Or.inl ⟨rfl,_,rfl,_,_,_,_,rfl,rfl,h1,rfl,_,rfl,_,_,_,_,rfl,rfl,SqT.of (g _ _ hp4),rfl,l,l2,vs,y2,row.1,wy,E2,c2,Y2,m,rfl,h2,SqL.of (g _ _ hw4),h3,RL.mono rw4 g,k2.dot row mr,fun p' H6 g6 hp'=>?_⟩;refine ⟨_,_,_,_,rfl,rfl,hp',rfl,_,_,rfl,rfl,nx _ _ ⟨g.trans g6,?_⟩⟩;rw [yv (x:=decide ((dotG m row.1 wy).num>0)) (by rw [List.getElem?_map,er]; rfl),Ax];rfl
  rintro ys H5 ⟨g5,rfl⟩;rw [A8 (by rw [Av]; exact Nat.le_refl _)];refine ⟨⟨_,g5.seq hR4,by omega⟩,fun lb hlb=>?_⟩;have g6:=qw hlb (.lst ((rows.map fun r=>decide ((dotG m r.1 wy).num>0)).map V.bl));refine ⟨lb,_,rfl,SqL.of qj,_,rfl,?_⟩;rw [any_no fun r hr=>decide_eq_false (num_npos (kw r hr))];refine iteF ?_;have g56:=g5.trans g6;have g16:=g14.trans g56;have bg:∀ i,Bd D b (goal.getD i 0):=fun i=>by
   rw [A1]
   cases e:goal[i]? with
   | none=>exact Bd.zero _ _
   | some q=>exact sz.bg q (Af e)
  obtain ⟨E3,c3,Y3,d3⟩:=dot_sz lg lw m40 sz.D0 sz.DX kk bg (fun q hq=>(sz.bg q hq).sm sz.D0 sz.DX) ow;refine ⟨_,rfl,_,rfl,_,_,_,_,rfl,rfl,SqT.of (g16 _ _ hp),rfl,ga,l2,vg,y2,goal,wy,E3,c3,Y3,m,rfl,g16.seq hG,SqL.of (g16 _ _ hl2),RL.mono rG g16,RL.mono rl2 g16,d3,fun p' H7 g7 hp'=>?_⟩;refine ⟨_,_,_,_,rfl,rfl,hp',rfl,_,_,rfl,rfl,?_⟩;have e:decide ((dotG m goal wy).num>0)=true:=decide_eq_true (num_pos0 gw);dsimp only;have e':decide (0<(dotG m goal wy).num)=true:=e;rw [e'];exact q _ (g16.trans g7)
 | most v pt ps =>
  obtain ⟨p,bv,l1,l2,y1,y2,rfl,hp,hv,hl1,hl2,_,_,_,rl1,rl2⟩:=at_;obtain ⟨lp,lps,kp,nn,gv,mx⟩:=ri;obtain ⟨sv,op,sp,od⟩:=as;obtain ⟨E,ms⟩:=mixSz lps sp od;have sP:=SqT.of (K:=K) hp;refine ⟨_,rfl,_,_,_,rfl,IsI.tupTup sP,_,rfl,iteF ⟨_,rfl,(show 0≤sizeLine by decide),fun t0 ht0=>?_⟩⟩;have g1:=qw ht0 (.tup []);refine ⟨p,t0,_,rfl,rfl,g1.tup sP,SqT.of qj,_,rfl,iteF ?_⟩;have g1p:=g1 _ _ hp;refine ⟨_,rfl,_,_,_,_,rfl,rfl,SqT.of g1p,rfl,_,_,_,rfl,IsI.strStr _,_,rfl,iteF ?_⟩;generalize upd H t0 (.tup [])=H1 at *;refine ⟨_,rfl,_,_,_,_,rfl,rfl,SqT.of g1p,rfl,rfl,_,rfl,iteF (iteF ?_)⟩;refine ⟨_,rfl,_,_,_,_,rfl,rfl,SqT.of g1p,rfl,rfl,_,rfl,iteF (iteF ?_)⟩;refine ⟨_,rfl,_,_,_,_,rfl,rfl,SqT.of g1p,rfl,rfl,_,rfl,iteF ⟨_,rfl,_,_,rfl,.inr (SqT.of g1p),rfl,_,rfl,iteF ?_⟩⟩;refine ⟨_,rfl,_,_,_,_,rfl,rfl,SqT.of g1p,rfl,(show 1≤sizeLine by decide),fun lb hlb=>?_⟩;have g2:=qw hlb (.lst [.ref bv]);have g12:=g1.trans g2;refine ⟨lb,_,[v],_,rfl,SqL.of qj,.cons ⟨bv,rfl,g12.tup hv⟩ .nil,rfl,fun q h=>by rw [Al.mp h]; exact sv.mono (by omega),fun H3 g3=>⟨_,rfl,iteF ?_⟩⟩;have g13:=g12.trans g3;refine ⟨_,rfl,_,_,_,_,rfl,rfl,SqT.of (g13 _ _ hp),rfl,_,rfl,l1,y1,pt,_,rfl,SqL.of (g13 _ _ hl1),RL.mono rl1 g13,by rw [lp],fun q hq=>(one_mem op q hq).mono (by omega),fun H4 g4=>⟨_,rfl,iteF ?_⟩⟩;have g14:=g13.trans g4;refine ⟨_,rfl,_,rfl,_,_,_,_,rfl,rfl,SqT.of (g14 _ _ hp),rfl,ra,l2,vr,y2,ps,rfl,g14.seq hR,SqL.of (g14 _ _ hl2),RL.mono rl2 g14,by omega,by omega,fun q hq=>(sp q hq).mono (by omega),nn,fun H5 g5=>⟨_,rfl,iteF ?_⟩⟩
  have g15:=g14.trans g5;obtain ⟨E1,c1,Y1,d1⟩:=dot_sz lg lp m40 sz.D0 sz.DX kk (fun i=>by
   rw [A1]
   cases e:goal[i]? with
   | none=>exact Bd.zero _ _
   | some q=>exact sz.bg q (Af e)) (fun q hq=>(sz.bg q hq).sm sz.D0 sz.DX) op
  obtain ⟨E2,E20,E2X,bd⟩:=op;have DE:D*E2<2^(X+(k+2*(b+X))):=by
   rw [Nat.pow_add];exact Nat.mul_lt_mul'' sz.DX E2X
  have k1:KeepSz (D*E2) (b+(k+2*(b+X))) (X+(k+2*(b+X))) m rows pt:=⟨r40,fun r hr=>⟨(sz.lr r hr).1,lp,m40,fun q hq=>((bd_row sz hr).2 q (Ah _ hq)).mono (by omega),fun q hq=>(one_mem ⟨E2,E20,E2X,bd⟩ q hq).mono (by omega),Nat.mul_pos sz.D0 E20,DE,by omega,fun i=>((bd_row sz hr).1 i).mul (bd i)⟩,fun r hr=>((bd_row sz hr).2 _ (Ac _ Am)).mono (by omega)⟩;refine ⟨_,rfl,_,rfl,_,_,_,_,rfl,rfl,SqT.of (g15 _ _ hp),rfl,ra,l1,vr,y1,rows,pt,_,_,_,m,rfl,g15.seq hR,SqL.of (g15 _ _ hl1),RowL.mono rR g15,RL.mono rl1 g15,k1,kp,fun H6 g6=>⟨_,rfl,iteF ?_⟩⟩;have g16:=g15.trans g6;refine ⟨_,rfl,_,rfl,_,_,_,_,rfl,rfl,SqT.of (g16 _ _ hp),rfl,ga,l1,vg,y1,goal,pt,E1,c1,Y1,m,rfl,g16.seq hG,SqL.of (g16 _ _ hl1),RL.mono rG g16,RL.mono rl1 g16,d1,fun p' H7 g7 hp'=>?_⟩;have g17:=g16.trans g7;rw [gv] at hp';refine ⟨_,rfl,_,_,_,_,rfl,rfl,SqT.of (g17 _ _ hp),rfl,p',bv,_,_,rfl,rfl,hp',g17.tup hv,rfl,rfl,?_⟩;rw [eqVs_self rfl];refine ⟨_,rfl,iteT ?_⟩;refine ⟨_,rfl,_,rfl,_,_,_,_,rfl,rfl,SqT.of (g17 _ _ hp),rfl,_,rfl,ra,l2,m,vr,y2,rows,ps,E,_,_,rfl,g17.seq hR,SqL.of (g17 _ _ hl2),RowL.mono rR g17,RL.mono rl2 g17,ms,fun pm H8 lm bm ym shs bd' g8 e81 e82 nlm rm sbm lsh emx=>?_⟩;rw [mx] at emx;obtain ⟨es,eb⟩:=List.append_inj' emx rfl;have eb:bd'=v:=by simpa using eb
  subst es eb;have g18:=g17.trans g8;refine ⟨_,rfl,_,rfl,_,_,_,_,rfl,rfl,SqT.of (g18 _ _ hp),rfl,jZ,fun t2 ht2=>?_⟩;have g9:=qw ht2 (.tup [.ref ga,.ref bv]);have e9:upd H8 t2 (.tup [.ref ga,.ref bv]) t2=some (.tup [.ref ga,.ref bv]):=qj;have g19:=g18.trans g9;generalize upd H8 t2 (.tup [.ref ga,.ref bv])=H9 at *;refine ⟨pm,t2,_,_,rfl,rfl,.inr ⟨SqT.of (g9 _ _ e81),SqT.of e9⟩,⟨rfl,fun j x y e1 e2=>?_⟩,q _ g19⟩
  match j,e1,e2 with
  | 0,e1,e2 =>
   have e1:V.ref lm=x:=B0 e1;have e2:V.ref ga=y:=B0 e2;subst e1 e2;exact rl_deep (n:=18) (SqL.of (g9 _ _ e82)) (g19.seq hG) (RL.mono rm g9) (RL.mono rG g19)
  | 1,e1,e2 =>
   have e1:V.ref bm=x:=B0 e1;have e2:V.ref bv=y:=B0 e2;subst e1 e2;exact two_alike (n:=19) ⟨bm,rfl,g9.tup sbm⟩ ⟨bv,rfl,g19.tup hv⟩
  | j+2,e1,e2=>exact absurd e1 (by simp)
def spWide:Sp:=fun vs H Q _=>∃ c k:Int,vs=[.int c,.int k]∧∀ v:Int,Q (.int v) H
theorem okyl (T:Txt K mg a):FnOk P w K mg base CX0 2 a.fyl a.dyl ["_law_number", "_law_k"] spWide:=by
 refine T.Fyl.ok Jk (fun vs H Q E h=>?_) (fun cdv A outer s H vs Q E hr h=>?_)
 ·obtain ⟨_,_,rfl,_⟩:=h
  rfl
 obtain ⟨c,k,rfl,q⟩:=h;refine ⟨_,(qJ (zq (i:=2) Jk.nd rfl (Or.inl rfl) qz)
   (qJ (Q4 PassesOwn.never rfl (pi_range1 rfl T.m_range (pa_c qz qk)) (qW (i:=3) Jk.nd rfl (Or.inl rfl))
    (qX (zq (i:=2) Jk.nd rfl (Or.inl rfl) (pe_op Qz (pe_op y9 (pv 2) (pe_op V0 qz qz)) (pe_op k9 (qK (YX T) (hr.mono (by decide)) rfl T.my9 T.Fy9.kp T.by9 .nil pass0 (pa_c (pv 0) (pa_c (pe_op Qz (pe_op y9 qz (pv 1)) (pv 3)) qk))) (pe_op V0 qz qz))))))
   (qX (zQ (pv 2))))),?_⟩
 refine ⟨6,rfl,by decide,by decide,Z0 (n:=6) (fun i σ H'=>H'=H∧∃ (v:Int) (u:Option V),σ=[some (.int c),some (.int k),some (.int v),u]) ⟨rfl,_,_,rfl⟩ ?_ ?_ ?_⟩
 ·rintro σ H' ⟨rfl,v,u,rfl⟩
  exact ⟨Nat.le_refl _,_,rfl,q v⟩
 ·rintro i σ H' hi _
  exact hi
 ·rintro i σ H' x H2 hi ⟨rfl,v,u,rfl⟩ ⟨rfl,rfl⟩
  refine ⟨_,rfl,_,_,rfl,rfl,⟨by decide,by decide,by decide⟩,_,_,rfl,rfl,IntMulOk.of_right (by decide +kernel),_,rfl,_,rfl,_,_,rfl,rfl,IntMulOk.of_left (by decide +kernel),_,rfl,_,_,rfl,rfl,_,_,rfl,fun m m0 m1=>?_⟩;exact ⟨_,_,rfl,rfl,⟨by decide,by decide,by decide⟩,_,_,rfl,rfl,(by show (0:Int)<10^(8:Int).toNat; decide),_,_,rfl,rfl,rfl,_,_,rfl⟩
def spTaken (K:Bc):Sp:=fun vs H Q _=>∃ (n:Int) (g:Bool),vs=[.int n,.bl g]∧∀ (n':Int) (q:Rat) (t r:Addr) (H':Hp),Shr q→Same H H'→SqT K H' t [.int n',.ref r]→SqT K H' r (TQ q)→Q (.ref t) H'
theorem six_at {y:Int} (h0:0≤y) (h6:y<6):∃ m:Nat,(m=1∨m=2∨m=3∨m=4∨m=7∨m=1000000000)∧atI [V.int 1,V.int 1,V.int 1,V.int 2,V.int 3,V.int 4] y=some (.int (m:Int)):=by
 have c:y=0∨y=1∨y=2∨y=3∨y=4∨y=5:=by omega
 rcases c with c | c | c | c | c | c <;> subst c
 ·exact ⟨1,by decide,rfl⟩
 ·exact ⟨1,by decide,rfl⟩
 ·exact ⟨1,by decide,rfl⟩
 ·exact ⟨2,by decide,rfl⟩
 ·exact ⟨3,by decide,rfl⟩
 ·exact ⟨4,by decide,rfl⟩
theorem three_at {y:Int} (h0:0≤y) (h3:y<3):∃ m:Nat,(m=1∨m=2∨m=3∨m=4∨m=7∨m=1000000000)∧atI [V.int 1,V.int 7,V.int 1000000000] y=some (.int (m:Int)):=by
 have c:y=0∨y=1∨y=2:=by omega
 rcases c with c | c | c <;> subst c
 ·exact ⟨1,by decide,rfl⟩
 ·exact ⟨7,by decide,rfl⟩
 ·exact ⟨1000000000,by decide,rfl⟩
theorem part_tq {K:Bc} {H:Hp} {p:Addr} {t:Int} {m:Nat} (hm:m=1∨m=2∨m=3∨m=4∨m=7∨m=1000000000) (e:H p=some (.tup (T2 (nt t m) (nb t m)))):SqT K H p (TQ (Rat.divInt t m)):=by
 have en:=n_rat (t:=t) (b:=(m:Int)) (by omega);unfold TQ;rw [← en.1,← en.2];exact SqT.of e
theorem Sm.few {m:Nat} (hm:m=1∨m=2∨m=3∨m=4∨m=7∨m=1000000000):Sm 8000 (m:Int):=Sm.mono (m:=64) (by unfold Sm; omega) (by decide)
abbrev YY (P w K mg base) (a:Adr) (cdv A outer s H E):=(cxOf CX0 P w K mg base ["_law_number", "_law_great", "_law_top", "_law_way", "_law_far", "_law_tail"] "_law_taken" (qQ kQ) a.fyj cdv A outer s H E).nox
set_option maxHeartbeats 0 in
theorem okyj (T:Txt K mg a):FnOk P w K mg base CX0 2 a.fyj a.dyj ["_law_number", "_law_great"] (spTaken K):=by
 refine T.Fyj.ok vw (fun vs H Q E h=>?_) (fun cdv A outer s H vs Q E hr h=>?_)
 ·obtain ⟨_,_,rfl,_⟩:=h
  rfl
 obtain ⟨n,gr,rfl,q⟩:=h;have h0:PS (YY P w K mg base a cdv A outer s H E) (bS kQ 0) _:=(k7 (zX (Yz) rfl T.m_divmod boot_divmod (pa_c (pv 0) (pa_c qz qk))) (vZ rfl (zy (qW (i:=0) vw.nd rfl (Or.inl rfl)) (zy (qW (i:=2) vw.nd rfl (Or.inl rfl)) jy))));have h1:PS (YY P w K mg base a cdv A outer s H E) (bS kQ 1) _:=(k7 (zX (Yz) rfl T.m_divmod boot_divmod (pa_c (pv 0) (pa_c qz qk))) (vZ rfl (zy (qW (i:=0) vw.nd rfl (Or.inl rfl)) (zy (qW (i:=3) vw.nd rfl (Or.inl rfl)) jy))));have h2:PS (YY P w K mg base a cdv A outer s H E) (bS kQ 2) _:=(ps_if (wV (pv 1))
    (qJ (k7 (zX (Yz) rfl T.m_divmod boot_divmod (pa_c (pv 0) (pa_c qz qk))) (vZ rfl (zy (qW (i:=0) vw.nd rfl (Or.inl rfl)) (zy (qW (i:=4) vw.nd rfl (Or.inl rfl)) jy))))
   (qX (ps_if (zj op_eq (pv 4) qz (zv _))
    (qJ (k7 (zX (Yz) rfl T.m_divmod boot_divmod (pa_c (pv 0) (pa_c (pe_op V0 qz qz) qk))) (vZ rfl (zy (qW (i:=0) vw.nd rfl (Or.inl rfl)) (zy (qW (i:=5) vw.nd rfl (Or.inl rfl)) jy))))
   (qX (zQ (j4 (pa_c (pv 0) (pa_c (qK (Y9 T) (hr.mono (by decide)) rfl T.mya T.Fya.kp T.bya .nil pass0 (pa_c (pe_op Qz (pe_op y9 (pe_op Yk (pv 2) qz) (pe_op V0 qz qz)) (pv 5)) (pa_c (pe_ix zK (w5 (pa_c qz (pa_c qz (pa_c (pe_op V0 qz qz) qk)))) (pe_op k9 (pv 3) qz) (fun _ _=>rfl)) qk))) qk))))))
    y4)))
    y4)
 have h3:PS (YY P w K mg base a cdv A outer s H E) (bS kQ 3) _:=(zQ (j4 (pa_c (pv 0) (pa_c (qK (Y9 T) (hr.mono (by decide)) rfl T.mya T.Fya.kp T.bya .nil pass0 (pa_c (pe_op Yk (pv 2) qz) (pa_c (pe_ix zK (w5 (pa_c qz (pa_c qz (pa_c qz (pa_c qz (pa_c qz (pa_c qz qk))))))) (pv 3) (fun _ _=>rfl)) qk))) qk))));refine body4 (by rfl) h0 h1 h2 h3 ?_
 intros
 clear h0 h1 h2 h3;refine ⟨_,rfl,_,_,rfl,⟨by decide,by decide⟩,fun p1 h1=>⟨p1,_,rfl,SqT.of qj,rfl,_,_,rfl,_,_,rfl,rfl,?_⟩⟩;have g1:=qw h1 (.tup [.int (n/13),.int (n%13)]);generalize upd H p1 (.tup [.int (n/13),.int (n%13)])=H1 at *;refine ⟨_,rfl,_,_,rfl,⟨by decide,by decide⟩,fun p2 h2=>⟨p2,_,rfl,SqT.of qj,rfl,_,_,rfl,_,_,rfl,rfl,?_⟩⟩;have g2:=g1.trans (qw h2 (.tup [.int (n/13/6),.int (n/13%6)]));generalize upd H1 p2 (.tup [.int (n/13/6),.int (n/13%6)])=H2 at *;have a0:0≤n%13:=Int.emod_nonneg _ (by decide);have a1:n%13<13:=Int.emod_lt_of_pos _ (by decide);have b0:0≤n/13%6:=Int.emod_nonneg _ (by decide);have b1:n/13%6<6:=Int.emod_lt_of_pos _ (by decide);generalize n%13=x at *;generalize n/13%6=y at *;generalize n/13/6=n2 at *;clear h1 h2 g1;obtain ⟨m6,hm6,at6⟩:=six_at b0 b1;refine ⟨_,rfl,_,rfl,?_⟩
 cases gr with
 | false =>
  refine iteF ?_;refine ⟨_,rfl,_,rfl,_,_,rfl,rfl,(show 6≤sizeLine by decide),fun l hl=>⟨_,rfl,l,_,_,_,rfl,rfl,SqL.of qj,at6,_,_,rfl,by omega,Sm.few hm6,fun p5 H5 g5 e5=>⟨jZ,fun t ht=>?_⟩⟩⟩;have g6:=qw ht (.tup [.int n2,.ref p5]);exact q n2 _ t p5 _ (shr_part hm6 (by omega)) (g2.trans ((qw hl _).trans (g5.trans g6))) (SqT.of qj) (g6.tup (part_tq hm6 e5))
 | true =>
  refine iteT ?_;refine ⟨_,rfl,_,_,rfl,⟨by decide,by decide⟩,fun p3 h3=>⟨p3,_,rfl,SqT.of qj,rfl,_,_,rfl,_,_,rfl,rfl,?_⟩⟩;have g3:=g2.trans (qw h3 (.tup [.int (n2/3),.int (n2%3)]));generalize upd H2 p3 (.tup [.int (n2/3),.int (n2%3)])=H3 at *;refine ⟨_,rfl,rfl,_,rfl,iteD (fun _=>?_) (fun _=>?_)⟩
  ·refine ⟨_,rfl,_,_,rfl,rfl,⟨by decide,by decide,by decide⟩,_,_,rfl,⟨by decide,by decide⟩,fun p4 h4=>⟨p4,_,rfl,SqT.of qj,rfl,_,_,rfl,_,_,rfl,rfl,?_⟩⟩
   have e9:(10:Int)^(9:Int).toNat=1000000000:=by decide
   have g4:=g3.trans (qw h4 (.tup [.int (n2/3/10^(9:Int).toNat),.int (n2/3%10^(9:Int).toNat)]));dsimp only;generalize upd H3 p4 (.tup [.int (n2/3/10^(9:Int).toNat),.int (n2/3%10^(9:Int).toNat)])=H4 at *;have c0:0≤n2/3%10^(9:Int).toNat:=Int.emod_nonneg _ (by decide);have c1:n2/3%10^(9:Int).toNat<1000000000:=Int.emod_lt_of_pos _ (by decide);generalize n2/3%10^(9:Int).toNat=z at *;generalize n2/3/10^(9:Int).toNat=n4 at *;obtain ⟨m3,hm3,at3⟩:=three_at (y:=y%3) (Int.emod_nonneg _ (by decide)) (Int.emod_lt_of_pos _ (by decide));refine ⟨_,rfl,_,rfl,_,_,rfl,rfl,_,_,rfl,rfl,⟨by decide,by decide,by decide⟩,_,_,rfl,rfl,IntMulOk.of_left (intBits_le_64 (by omega) (by omega)),_,rfl,_,_,rfl,rfl,_,_,rfl,rfl,⟨by decide,by decide,by decide⟩,(show 3≤sizeLine by decide),fun l hl=>?_⟩;have e18:(10:Int)^(18:Int).toNat=1000000000000000000:=by decide
   refine ⟨_,rfl,_,_,rfl,rfl,(by show (0:Int)<3; decide),l,_,_,_,rfl,rfl,SqL.of qj,at3,_,_,rfl,by omega,Sm.few hm3,fun p5 H5 g5 e5=>⟨jZ,fun t ht=>?_⟩⟩;have g6:=qw ht (.tup [.int n4,.ref p5]);exact q n4 _ t p5 _ (shr_part hm3 (by rw [e18]; omega)) (g4.trans ((qw hl _).trans (g5.trans g6))) (SqT.of qj) (g6.tup (part_tq hm3 e5))
  ·refine ⟨_,rfl,_,rfl,_,_,rfl,rfl,(show 6≤sizeLine by decide),fun l hl=>⟨_,rfl,l,_,_,_,rfl,rfl,SqL.of qj,at6,_,_,rfl,by omega,Sm.few hm6,fun p5 H5 g5 e5=>⟨jZ,fun t ht=>?_⟩⟩⟩
   have g6:=qw ht (.tup [.int (n2/3),.ref p5]);exact q (n2/3) _ t p5 _ (shr_part hm6 (by omega)) (g3.trans ((qw hl _).trans (g5.trans g6))) (SqT.of qj) (g6.tup (part_tq hm6 e5))
theorem seq_in {t u:TS} {D:L2.Ends} {σ:St} {H:Hp} (I:St→Hp→Prop) (r:∀ σ' H',I σ' H'→u D σ' H') (h:∀ N:St→Hp→Prop,(∀ σ' H',I σ' H'→N σ' H')→t { D with nx:=N } σ H):tSeq t u D σ H:=h _ r
def spSharesD (K:Bc):Sp:=fun vs H Q _=>∃ (m:Int) (n:Nat) (g:Bool),vs=[.int m,.int (n:Int),.bl g]∧n≤6∧∀ qs:List Rat,qs.length=n→(∀ q∈qs,Shr q)→RetL K H Q qs
abbrev V3 (P w K mg base) (a:Adr) (cdv A outer s H E):=(cxOf CX0 P w K mg base ["_law_number", "_law_many_here", "_law_great", "_law_shares_here", "_law_k", "_law_nought", "_law_share"] "_law_shares" (qQ kK) a.fyh cdv A outer s H E).nox
theorem okyh (T:Txt K mg a):FnOk P w K mg base CX0 3 a.fyh a.dyh ["_law_number", "_law_many_here", "_law_great"] (spSharesD K):=by
 refine T.Fyh.ok wX (fun vs H Q E h=>?_) (fun cdv A outer s H vs Q E hr h=>?_)
 ·obtain ⟨_,_,_,rfl,_⟩:=h
  rfl
 obtain ⟨m,n,gr,rfl,n6,q⟩:=h;have h0:PS (V3 P w K mg base a cdv A outer s H E) (bS kK 0) _:=(zq (i:=3) wX.nd rfl (Or.inl rfl) (w5 qk));have h1:PS (V3 P w K mg base a cdv A outer s H E) (bS kK 1) _:=(Q4 PassesOwn.never rfl (pi_range1 rfl T.m_range (pa_c (pv 1) qk)) (qW (i:=4) wX.nd rfl (Or.inl rfl))
    (qJ (k7 (zX (Yz) rfl T.m_divmod boot_divmod (pa_c (pv 0) (pa_c qz qk))) (vZ rfl (zy (qW (i:=0) wX.nd rfl (Or.inl rfl)) (zy (qW (i:=5) wX.nd rfl (Or.inl rfl)) jy))))
   (qX (ps_if (zj op_eq (pv 5) qz (zv _))
    (qX (QJ (pe_bm PySem.F.plainAttrs_list PySem.F.slot_list_append PySem.F.type_list_append VQ (pv 3) (pa_c (j4 (pa_c qz (pa_c qz qk))) qk))))
    (qJ (k7 (qK (okyj T) (hr.mono (by decide)) rfl T.myj T.Fyj.kp T.byj .nil pass0 (pa_c (pv 0) (pa_c (pv 2) qk))) (vZ rfl (zy (qW (i:=0) wX.nd rfl (Or.inl rfl)) (zy (qW (i:=6) wX.nd rfl (Or.inl rfl)) jy))))
   (qX (QJ (pe_bm PySem.F.plainAttrs_list PySem.F.slot_list_append PySem.F.type_list_append VQ (pv 3) (pa_c (pv 6) qk)))))))))
 have h2:PS (V3 P w K mg base a cdv A outer s H E) (bS kK 2) _:=(zQ (pv 3));refine body3 (by rfl) h0 h1 h2 ?_
 intros
 clear h0 h1 h2;refine ⟨(by decide),fun ls hls=>?_⟩;refine ⟨_,rfl,_,rfl,by omega,by omega,for_range (fun i σ H'=>Same H H'∧∃ (nu:Int) (v:List V) (qs:List Rat) (u4 u5 u6:Option V),σ=[some (.int nu),some (.int (n:Int)),some (.bl gr),some (.ref ls),u4,u5,u6]∧H' ls=some (.lst v)∧RL K H' v qs∧qs.length=i∧∀ q∈qs,Shr q)
  ⟨qw hls _,m,[],[],_,_,_,rfl,qj,.nil,rfl,fun q h=>(by cases h)⟩ ?_ ?_⟩
 ·rintro i σ H' hi ⟨g,nu,v,qs,u4,u5,u6,rfl,el,r,lq,sq⟩
  have lv:=r.length;have small:v.length<sizeLine:=Ao (show v.length≤40 by omega) (zw (by omega));refine ⟨_,rfl,_,_,rfl,⟨by decide,by decide⟩,fun p1 h1=>⟨p1,_,rfl,SqT.of qj,rfl,_,_,rfl,_,_,rfl,rfl,?_⟩⟩;have g1:=qw h1 (.tup [.int (nu/3),.int (nu%3)]);have el1:=g1 _ _ el;have r1:=r.mono g1;have gg:=g.trans g1;clear el r g g1 h1;generalize upd H' p1 (.tup [.int (nu/3),.int (nu%3)])=H1 at *;refine ⟨_,rfl,rfl,_,rfl,iteD (fun _=>?_) (fun _=>?_)⟩
  ·refine ⟨_,rfl,.inl ⟨rfl,_,SqL.of el1⟩,jZ,fun p0 hp0=>?_⟩
   have g3:=qw hp0 (.tup (T2 0 1));have el2:=g3 _ _ el1;refine ⟨ls,v,_,rfl,rfl,el2,small,?_⟩;refine ⟨(gg.trans g3).laid hls _,_,_,qs++[0],_,_,_,rfl,qj,?_,by rw [Ak,lq]; rfl,fun q' hq'=>?_⟩
   ·exact RL.laid ((r1.mono g3).snoc ⟨p0,rfl,SqT.of qj⟩) el2
   ·rcases Aw.mp hq' with z | z
    ·exact sq q' z
    ·rw [Al.mp z]; exact Bq.zero _ _
  ·refine ⟨_,rfl,_,rfl,_,gr,rfl,fun n' qx t r' H2 sx g2 ht hr'=>⟨t,_,rfl,ht,rfl,_,_,rfl,_,_,rfl,rfl,?_⟩⟩
   have el2:=g2 _ _ el1;refine ⟨_,rfl,.inl ⟨rfl,_,SqL.of el2⟩,_,rfl,ls,v,_,rfl,rfl,el2,small,?_⟩;refine ⟨(gg.trans g2).laid hls _,_,_,qs++[qx],_,_,_,rfl,qj,?_,by rw [Ak,lq]; rfl,fun q' hq'=>?_⟩
   ·exact RL.laid ((r1.mono g2).snoc ⟨r',rfl,hr'⟩) el2
   ·rcases Aw.mp hq' with z | z
    ·exact sq q' z
    ·rw [Al.mp z]; exact sx
 ·rintro σ H' ⟨g,nu,v,qs,u4,u5,u6,rfl,el,r,lq,sq⟩
  exact ⟨_,rfl,q qs (by omega) sq ls _ v hls g el r⟩
def PairAt (K:Bc) (H:Hp) (v:V) (p:Int×Int):Prop:=∃ t,v=.ref t∧SqT K H t [.int p.1,.int p.2]
theorem PairAt.mono {K:Bc} {H H':Hp} {v:V} {p:Int×Int} (h:PairAt K H v p) (g:Same H H'):PairAt K H' v p:=by
 obtain ⟨t,e,s⟩:=h;exact ⟨t,e,g.tup s⟩
def PairL (K:Bc) (H:Hp) (vs:List V) (ps:List (Int×Int)):Prop:=Paired (PairAt K H) vs ps
def spNumbers (K:Bc):Sp:=fun vs H Q _=>∃ (sa:Addr) (ns:List Int) (n:Nat),vs=[.ref sa,.int (n:Int)]∧SqL K H sa (ns.map V.int)∧ns.length≤63∧n≤20∧∀ (l:Addr) (ys:List V) (ps:List (Int×Int)) (H':Hp),ps.length=n→H l=none→Same H H'→H' l=some (.lst ys)→PairL K H' ys ps→Q (.ref l) H'
abbrev v7 (P w K mg base) (a:Adr) (cdv A outer s H E):=(cxOf CX0 P w K mg base ["_law_script", "_law_many_here", "_law_total", "_law_rest", "_law_numbers", "_law_at", "_law_cell", "_law_k", "_law_first", "_law_second"] "_law_row_numbers" (qQ yJ) a.fyg cdv A outer s H E).nox
theorem okyg (T:Txt K mg a):FnOk P w K mg base CX0 3 a.fyg a.dyg ["_law_script", "_law_many_here"] (spNumbers K):=by
 refine T.Fyg.ok zY (fun vs H Q E h=>?_) (fun cdv A outer s H vs Q E hr h=>?_)
 ·obtain ⟨_,_,_,rfl,_⟩:=h
  rfl
 obtain ⟨sa,ns,n,rfl,hS,h63,n20,q⟩:=h;have cd:∀ {x m:Int},m≠0→m.natAbs.log2<9000→CDivB x m:=fun h1 h2=>⟨h1,h2⟩
 have h0:PS (v7 P w K mg base a cdv A outer s H E) (bS yJ 0) _:=(zq (i:=2) zY.nd rfl (Or.inl rfl) (qK (Q6 T) (hr.mono (by decide)) rfl T.my3 T.Fy3.kp T.by3 .nil pass0 (pa_c (pv 0) (pa_c qz qk))));have h1:PS (v7 P w K mg base a cdv A outer s H E) (bS yJ 1) _:=(zq (i:=3) zY.nd rfl (Or.inl rfl) (pe_op y9 (pe_op jW (zX (Zy) rfl T.m_abs boot_abs (pa_c (pv 2) qk)) qz) (xv (call_int1) rfl T.m_int boot_int (pa_c (Qq op_eq (pe_op k9 (pv 2) qz) qz (zv _)) qk))));have h2:PS (v7 P w K mg base a cdv A outer s H E) (bS yJ 2) _:=(zq (i:=4) zY.nd rfl (Or.inl rfl) (w5 qk));have h3:PS (v7 P w K mg base a cdv A outer s H E) (bS yJ 3) _:=(Q4 PassesOwn.never rfl (pi_enum rfl T.m_enumerate (pa_c (J5 VY (pv 0) (W4 qz) W5) qk)) (vZ rfl (zy (qW (i:=5) zY.nd rfl (Or.inl rfl)) (zy (qW (i:=6) zY.nd rfl (Or.inl rfl)) jy)))
    (qX (zq (i:=2) zY.nd rfl (Or.inl rfl) (pe_op k9 (pe_op Qz (pe_op y9 (pv 2) qz) (qK (YX T) (hr.mono (by decide)) rfl T.my9 T.Fy9.kp T.by9 .nil pass0 (pa_c (pv 6) (pa_c (pv 5) qk)))) qz))))
 have h4:PS (v7 P w K mg base a cdv A outer s H E) (bS yJ 4) _:=(Q4 PassesOwn.never rfl (pi_range1 rfl T.m_range (pa_c (pv 1) qk)) (qW (i:=7) zY.nd rfl (Or.inl rfl))
    (qJ (ps_if (zj op_gt (pv 3) qz (zv _))
    (qJ (k7 (zX (call_divmodB) rfl T.m_divmod boot_divmod (pa_c (pv 3) (pa_c (pe_op V0 qz qz) qk))) (vZ rfl (zy (qW (i:=3) zY.nd rfl (Or.inl rfl)) (zy (qW (i:=8) zY.nd rfl (Or.inl rfl)) jy))))
   (qX (k7 (zX (call_divmodB) rfl T.m_divmod boot_divmod (pa_c (pv 3) (pa_c (pe_op V0 qz qz) qk))) (vZ rfl (zy (qW (i:=3) zY.nd rfl (Or.inl rfl)) (zy (qW (i:=9) zY.nd rfl (Or.inl rfl)) jy))))))
    (qJ (zq (i:=8) zY.nd rfl (Or.inl rfl) (pe_op Qz (pe_op y9 (qK (okyl T) (hr.mono (by decide)) rfl T.myl T.Fyl.kp T.byl .nil pass0 (pa_c (pe_op Qz (pv 2) (pe_op y9 qz (pv 7))) (pa_c (pe_op y9 qz (pv 7)) qk))) (pe_op V0 qz qz)) (pv 2)))
   (qX (zq (i:=9) zY.nd rfl (Or.inl rfl) (pe_op k9 (qK (okyl T) (hr.mono (by decide)) rfl T.myl T.Fyl.kp T.byl .nil pass0 (pa_c (pe_op Qz (pv 2) (pe_op y9 qz (pv 7))) (pa_c (pe_op Qz (pe_op y9 qz (pv 7)) qz) qk))) (pe_op V0 qz qz))))))
   (qX (QJ (pe_bm PySem.F.plainAttrs_list PySem.F.slot_list_append PySem.F.type_list_append VQ (pv 4) (pa_c (j4 (pa_c (pv 8) (pa_c (pv 9) qk))) qk))))))
 have h5:PS (v7 P w K mg base a cdv A outer s H E) (bS yJ 5) _:=(zQ (pv 4));refine body6 (by rfl) h0 h1 h2 h3 h4 h5 ?_
 intros
 clear h0 h1 h2 h3 h4 h5;refine ⟨_,rfl,sa,ns,2,rfl,hS,fun c0=>?_⟩;refine ⟨_,rfl,_,rfl,_,_,rfl,rfl,cd (by decide) (by decide +kernel),_,rfl,_,_,rfl,rfl,(by show (0:Int)<3; decide),rfl,.inr ⟨_,rfl,_,_,rfl,rfl,IntMulOk.of_right (by split <;> decide +kernel),?_⟩⟩;dsimp only;rw [v3];refine ⟨(by decide),fun ln hln=>?_⟩;have g0:=qw hln (.lst []);have el:=qj (H:=H) (a:=ln) (o:=.lst []);generalize upd H ln (.lst [])=H0 at *;refine ⟨_,rfl,_,rfl,_,_,rfl,g0.seq hS,fun c2 hc2=>?_⟩;obtain ⟨ks,ek,_⟩:=cut_ints ns (some 2) none;rw [ek];have g1:=qw hc2 (.lst (ks.map V.int));have ec:upd H0 c2 (.lst (ks.map V.int)) c2=some (.lst (ks.map V.int)):=qj;have g01:=g0.trans g1;have el1:=g1 _ _ el;clear g0 g1 hc2 el;generalize upd H0 c2 (.lst (ks.map V.int))=H1 at *;generalize ((if c0<0 then -c0 else c0).fdiv 3*if decide (V.int (c0%3)=V.int 1)=true then 1 else 0)=re;refine ⟨c2,rfl,⟨_,SqL.of ec⟩,Z0 (n:=ks.length) (fun i σ H'=>Same H1 H'∧∃ (tt:Int) (u5 u6:Option V),σ=[some (.ref sa),some (.int (n:Int)),some (.int tt),some (.int re),some (.ref ln),u5,u6,none,none,none]) ⟨Same.refl _,c0,_,_,rfl⟩ ?_ ?_ ?_⟩
 case refine_2 =>
  rintro i σ H' hi ⟨g,_⟩;exact ⟨_,_,SqL.of (g _ _ ec),A7 (by rw [Av]; omega)⟩
 case refine_3 =>
  rintro i σ H' x H2 hi ⟨g,tt,u5,u6,rfl⟩ ⟨p,x2,hp,rfl,rfl,y1⟩;obtain ⟨ci,hci,rfl⟩:=wv (y1 _ (SqL.of (g _ _ ec)));have g3:=qw hp (.tup [.int (i:Int),.int ci]);refine ⟨p,_,rfl,SqT.of qj,rfl,_,_,rfl,_,_,rfl,rfl,?_⟩;refine ⟨_,rfl,_,_,rfl,rfl,IntMulOk.of_right (by decide +kernel),_,rfl,_,rfl,_,_,rfl,fun v v0 v1=>⟨_,_,rfl,rfl,_,_,rfl,rfl,(by show (0:Int)<999999999989; decide),g.trans g3,_,_,_,rfl⟩⟩
 rintro σ H2 ⟨g2,tt,u5,u6,rfl⟩;refine ⟨⟨_,SqL.of (g2 _ _ ec),by rw [Av]; exact Nat.le_refl _⟩,?_⟩;have el2:=g2 _ _ el1;have g02:=g01.trans g2;clear el1 g01 g2 ec ek;refine ⟨_,rfl,_,rfl,by omega,by omega,for_range (fun i σ H'=>Same H H'∧∃ (re:Int) (v:List V) (ps:List (Int×Int)) (u5 u6 u7 u8 u9:Option V),σ=[some (.ref sa),some (.int (n:Int)),some (.int tt),some (.int re),some (.ref ln),u5,u6,u7,u8,u9]∧H' ln=some (.lst v)∧PairL K H' v ps∧ps.length=i)
  ⟨g02,re,[],[],_,_,_,_,_,rfl,el2,.nil,rfl⟩ ?_ ?_⟩
 ·rintro i σ H' hi ⟨g,re,v,ps,u5,u6,u7,u8,u9,rfl,el,pl,lp⟩
  have lv:=Paired.length pl;refine seq_in (fun σ' H''=>∃ (re' f' s':Int),σ'=[some (.ref sa),some (.int (n:Int)),some (.int tt),some (.int re'),some (.ref ln),u5,u6,some (.int ((0:Int)+(i:Int))),some (.int f'),some (.int s')]∧Same H' H'') ?_ fun N hN=>?_
  case refine_2 =>
   refine ⟨_,rfl,_,_,rfl,rfl,_,rfl,iteD (fun _=>?_) (fun _=>?_)⟩
   ·refine ⟨_,rfl,_,_,rfl,rfl,⟨by decide,by decide,by decide⟩,_,_,rfl,⟨by decide,by decide +kernel⟩,fun p4 h4=>⟨p4,_,rfl,SqT.of qj,rfl,_,_,rfl,_,_,rfl,rfl,?_⟩⟩
    have v1:=qw h4 (.tup [.int (re/10^(60:Int).toNat),.int (re%10^(60:Int).toNat)]);dsimp only;generalize upd H' p4 (.tup [.int (re/10^(60:Int).toNat),.int (re%10^(60:Int).toNat)])=H3 at *;refine ⟨_,rfl,_,_,rfl,rfl,⟨by decide,by decide,by decide⟩,_,_,rfl,⟨by decide,by decide +kernel⟩,fun p5 h5=>⟨p5,_,rfl,SqT.of qj,rfl,_,_,rfl,_,_,rfl,rfl,?_⟩⟩;exact hN _ _ ⟨_,_,_,rfl,v1.trans (qw h5 _)⟩
   ·refine ⟨_,rfl,_,rfl,_,_,rfl,rfl,IntMulOk.of_left (by decide +kernel),_,_,rfl,rfl,_,rfl,_,_,rfl,rfl,IntMulOk.of_left (by decide +kernel),_,_,rfl,fun w1=>?_⟩
    refine ⟨_,_,rfl,rfl,⟨by decide,by decide,by decide⟩,_,_,rfl,rfl,IntMulOk.of_right (by decide +kernel),_,rfl,_,_,rfl,rfl,?_⟩;refine ⟨_,rfl,_,rfl,_,_,rfl,rfl,IntMulOk.of_left (by decide +kernel),_,_,rfl,rfl,_,rfl,_,_,rfl,rfl,IntMulOk.of_left (by decide +kernel),_,_,rfl,rfl,_,_,rfl,fun w2=>?_⟩;refine ⟨_,_,rfl,rfl,⟨by decide,by decide,by decide⟩,_,_,rfl,rfl,(by show (0:Int)<10^(30:Int).toNat; decide),?_⟩;exact hN _ _ ⟨_,_,_,rfl,Same.refl _⟩
  rintro σ' H3 ⟨re',f',s',rfl,g3⟩;have el3:=g3 _ _ el;refine ⟨_,rfl,.inl ⟨rfl,_,SqL.of el3⟩,_,rfl,_,rfl,jZ,fun t ht=>?_⟩;have g4:=qw ht (.tup [.int f',.int s']);have el4:=g4 _ _ el3;refine ⟨ln,v,_,rfl,rfl,el4,zw (by omega),?_⟩;have pl4:PairL K (upd (upd H3 t (.tup [.int f',.int s'])) ln (.lst (v++[.ref t]))) (v++[.ref t]) (ps++[(f',s')]):=by
   have new:PairAt K (upd H3 t (.tup [.int f',.int s'])) (.ref t) (f',s'):=⟨t,rfl,SqT.of qj⟩;exact Paired.mapP (Paired.snoc (Paired.mapP pl fun _ _ h=>PairAt.mono h (g3.trans g4)) new) fun _ _ ⟨t',e,h⟩=>⟨t',e,SqT.upd_lst h el4⟩
  exact ⟨(g.trans (g3.trans g4)).laid hln _,re',_,ps++[(f',s')],_,_,_,_,_,rfl,qj,pl4,by rw [Ak,lp]; rfl⟩
 ·rintro σ H' ⟨g,re,v,ps,u5,u6,u7,u8,u9,rfl,el,pl,lp⟩
  exact ⟨_,rfl,q ln v ps H' (by omega) hln g el pl⟩
def spPlan (K:Bc):Sp:=fun vs H Q _=>∃ (sa:Addr) (ns:List Int),vs=[.ref sa]∧SqL K H sa (ns.map V.int)∧ns.length≤63∧∀ (t ln lp:Addr) (r:Int) (n:Nat) (g:Bool) (yn yp:List V) (ps:List (Int×Int)) (pt:List Rat) (H':Hp),n≤5→0≤r→ps.length≤20→pt.length=n→(∀ q∈pt,Shr q)→Same H H'→H' t=some (.tup [.int r,.int (n:Int),.ref ln,.bl g,.ref lp])→H ln=none→H' ln=some (.lst yn)→PairL K H' yn ps→H lp=none→H' lp=some (.lst yp)→RL K H' yp pt→Q (.ref t) H'
abbrev Q7 (P w K mg base) (a:Adr) (cdv A outer s H E):=(cxOf CX0 P w K mg base ["_law_script", "_law_first", "_law_many_here", "_law_size", "_law_great", "_law_number"] "_law_plan" (qQ vW) a.fyb cdv A outer s H E).nox
theorem okyb (T:Txt K mg a):FnOk P w K mg base CX0 4 a.fyb a.dyb ["_law_script"] (spPlan K):=by
 refine T.Fyb.ok xV (fun vs H Q E h=>?_) (fun cdv A outer s H vs Q E hr h=>?_)
 ·obtain ⟨_,_,rfl,_⟩:=h
  rfl
 obtain ⟨sa,ns,rfl,hS,h63,q⟩:=h;have cd:∀ {x m:Int},m≠0→m.natAbs.log2<9000→CDivB x m:=fun h1 h2=>⟨h1,h2⟩
 have fd:∀ (x m:Int),0≤m→x.fdiv m=x/m:=fun x m h=>Int.fdiv_eq_ediv_of_nonneg x h
 have h0:PS (Q7 P w K mg base a cdv A outer s H E) (bS vW 0) _:=(zq (i:=1) xV.nd rfl (Or.inl rfl) (qK (YX T) (hr.mono (by decide)) rfl T.my9 T.Fy9.kp T.by9 .nil pass0 (pa_c (qK (Q6 T) (hr.mono (by decide)) rfl T.my3 T.Fy3.kp T.by3 .nil pass0 (pa_c (pv 0) (pa_c qz qk))) (pa_c qz qk))));have h1:PS (Q7 P w K mg base a cdv A outer s H E) (bS vW 1) _:=(zq (i:=2) xV.nd rfl (Or.inl rfl) (pe_op k9 (pv 1) qz));have h2:PS (Q7 P w K mg base a cdv A outer s H E) (bS vW 2) _:=(zq (i:=3) xV.nd rfl (Or.inl rfl) (pe_op k9 (pe_op jW (pv 1) qz) qz));have h3:PS (Q7 P w K mg base a cdv A outer s H E) (bS vW 3) _:=(zq (i:=4) xV.nd rfl (Or.inl rfl) (Qq op_eq (pe_op k9 (pe_op jW (pv 1) qz) qz) qz (zv _)));have h4:PS (Q7 P w K mg base a cdv A outer s H E) (bS vW 4) _:=(zq (i:=5) xV.nd rfl (Or.inl rfl) (pe_op jW (zX (Zy) rfl T.m_abs boot_abs (pa_c (qK (Q6 T) (hr.mono (by decide)) rfl T.my3 T.Fy3.kp T.by3 .nil pass0 (pa_c (pv 0) (pa_c qz qk))) qk)) qz));have h5:PS (Q7 P w K mg base a cdv A outer s H E) (bS vW 5) _:=(ps_if (zj op_ne (pe_op k9 (qK (Q6 T) (hr.mono (by decide)) rfl T.my3 T.Fy3.kp T.by3 .nil pass0 (pa_c (pv 0) (pa_c qz qk))) qz) qz (zv _))
    (qX (zq (i:=5) xV.nd rfl (Or.inl rfl) (pe_op y9 (qK (okyl T) (hr.mono (by decide)) rfl T.myl T.Fyl.kp T.byl .nil pass0 (pa_c (qK (YX T) (hr.mono (by decide)) rfl T.my9 T.Fy9.kp T.by9 .nil pass0 (pa_c (qK (Q6 T) (hr.mono (by decide)) rfl T.my3 T.Fy3.kp T.by3 .nil pass0 (pa_c (pv 0) (pa_c qz qk))) (pa_c qz qk))) (pa_c qz qk))) (pe_op V0 qz qz))))
    y4)
 have h6:PS (Q7 P w K mg base a cdv A outer s H E) (bS vW 6) _:=(zQ (j4 (pa_c (pe_op jW (pv 1) qz) (pa_c (pv 2) (pa_c (qK (okyg T) (hr.mono (by decide)) rfl T.myg T.Fyg.kp T.byg .nil pass0 (pa_c (pv 0) (pa_c (pv 3) qk))) (pa_c (pv 4) (pa_c (qK (okyh T) (hr.mono (by decide)) rfl T.myh T.Fyh.kp T.byh .nil pass0 (pa_c (pv 5) (pa_c (pv 2) (pa_c (pv 4) qk)))) qk)))))));refine body7 (by rfl) h0 h1 h2 h3 h4 h5 h6 ?_
 intros
 clear h0 h1 h2 h3 h4 h5 h6;refine ⟨_,rfl,sa,ns,0,rfl,hS,fun c0=>⟨_,_,rfl,fun f f0 f1=>?_⟩⟩;refine ⟨_,rfl,_,_,rfl,rfl,(by show (0:Int)<6; decide),?_⟩;dsimp only;obtain ⟨n,hn⟩:∃ n:Nat,f%6=(n:Int):=Int.eq_ofNat_of_zero_le (Int.emod_nonneg _ (by decide));have n5:n≤5:=by omega
 rw [hn];refine ⟨_,rfl,_,_,rfl,rfl,cd (by decide) (by decide +kernel),_,_,rfl,rfl,(by show (0:Int)<21; decide),?_⟩;dsimp only;obtain ⟨sz,hsz⟩:∃ n:Nat,f.fdiv 6%21=(n:Int):=Int.eq_ofNat_of_zero_le (Int.emod_nonneg _ (by decide));have s20:sz≤20:=by omega
 rw [hsz];refine ⟨_,rfl,_,_,rfl,rfl,cd (by decide) (by decide +kernel),_,_,rfl,rfl,(by show (0:Int)<4; decide),rfl,?_⟩;dsimp only;generalize decide (V.int (f.fdiv 126%4)=V.int 0)=gr;refine ⟨_,rfl,sa,ns,1,rfl,hS,fun c1=>⟨_,rfl,_,_,rfl,rfl,cd (by decide) (by decide +kernel),?_⟩⟩;dsimp only;rw [v3];refine seq_in (fun σ' H'=>H'=H∧∃ nu:Int,σ'=[some (.ref sa),some (.int f),some (.int (n:Int)),some (.int (sz:Int)),some (.bl gr),some (.int nu)]) ?_ fun N hN=>?_
 case refine_2 =>
  refine ⟨_,rfl,sa,ns,1,rfl,hS,fun c2=>⟨_,_,rfl,rfl,(by show (0:Int)<3; decide),rfl,_,rfl,?_⟩⟩
  by_cases e:c2%3=1
  ·exact iteNS (congrArg V.int e) (hN _ _ ⟨rfl,_,rfl⟩)
  ·refine iteNP (fun z=>e (V.int.inj z)) ?_
   refine ⟨_,rfl,sa,ns,1,rfl,hS,fun c3=>⟨_,_,rfl,fun mo m0 m1=>⟨_,_,rfl,fun w1=>?_⟩⟩⟩;exact ⟨_,_,rfl,rfl,⟨by decide,by decide,by decide⟩,_,_,rfl,rfl,IntMulOk.of_right (by decide +kernel),hN _ _ ⟨rfl,_,rfl⟩⟩
 rintro σ' H' ⟨rfl,nu,rfl⟩;refine ⟨_,rfl,_,_,rfl,rfl,cd (by decide) (by decide +kernel),_,rfl,_,rfl,_,rfl,sa,ns,sz,rfl,hS,h63,s20,fun ln yn ps H1 lp nln g1 eln pl=>?_⟩;refine ⟨_,rfl,_,rfl,_,rfl,_,rfl,nu,n,gr,rfl,by omega,fun qs lq sq lp2 H2 yp nlp g2 elp rl=>⟨(show 5≤sizeLine by decide),fun t ht=>?_⟩⟩;have g3:=qw ht (.tup [.int (f.fdiv 504),.int (n:Int),.ref ln,.bl gr,.ref lp2]);have g23:=g2.trans g3;refine q t ln lp2 (f.fdiv 504) n gr yn yp ps qs _ n5 ?_ (by omega) lq sq (g1.trans g23) qj nln (g23 _ _ eln) (Paired.mapP pl fun _ _ h=>PairAt.mono h g23) (zW g1 nlp) (g3 _ _ elp) (rl.mono g3);rw [fd _ 504 (by decide)];omega
theorem RL.monoL {K:Bc} {H H':Hp} {vs:List V} {qs:List Rat} (h:RL K H vs qs) (g:SameL H H'):RL K H' vs qs:=Paired.mapP h fun _ _ ⟨p,e,s⟩=>⟨p,e,g.tup s⟩
theorem RowOk.monoL {K:Bc} {H H':Hp} {v:V} {r:List Rat×Rat} (h:RowOk K H v r) (g:SameL H H'):RowOk K H' v r:=by
 obtain ⟨t,l,b,vs,e,h1,h2,h2',h3,h4⟩:=h;exact ⟨t,l,b,vs,e,g.tup h1,g.seq h2,g _ _ h2' rfl,h3.monoL g,g.tup h4⟩
theorem RowL.monoL {K:Bc} {H H':Hp} {vs:List V} {rs:List (List Rat×Rat)} (h:RowL K H vs rs) (g:SameL H H'):RowL K H' vs rs:=Paired.mapP h fun _ _ q=>q.monoL g
theorem row_deep {K:Bc} {H:Hp} {n:Nat} {x y:V} {r:List Rat×Rat} (h:RowOk K H x r) (k:RowOk K H y r):DEq K H (n+3) x y:=by
 obtain ⟨t,l,b,vs,rfl,h1,h2,_,h3,h4⟩:=h;obtain ⟨t',l',b',vs',rfl,k1,k2,_,k3,k4⟩:=k;refine .tup h1 k1 rfl fun j x y e1 e2=>?_
 match j,e1,e2 with
 | 0,e1,e2 =>
  have e1:V.ref l=x:=B0 e1;have e2:V.ref l'=y:=B0 e2;subst e1 e2;exact rl_deep (n:=n) h2 k2 h3 k3
 | 1,e1,e2 =>
  have e1:V.ref b=x:=B0 e1;have e2:V.ref b'=y:=B0 e2;subst e1 e2;exact two_alike (n:=n+1) ⟨b,rfl,h4⟩ ⟨b',rfl,k4⟩
 | j+2,e1,e2=>exact absurd e1 (by simp)
theorem rows_deep {K:Bc} {H:Hp} {n:Nat} {l l':Addr} {vs ws:List V} {rows:List (List Rat×Rat)} (h1:SqL K H l vs) (h2:SqL K H l' ws) (r1:RowL K H vs rows) (r2:RowL K H ws rows):DEq K H (n+4) (.ref l) (.ref l'):=by
 have l1:=r1.length;have l2:=r2.length;refine .lst h1 h2 (by omega) fun j x y e1 e2=>?_
 obtain ⟨a,fa,ia⟩:=y7 r1 e1;obtain ⟨b,fb,ib⟩:=y7 r2 e2;rw [fa] at fb;have e:=B0 fb;subst e;exact row_deep ia ib
theorem handed_alike {K:Bc} {H:Hp} {lc lg ra ga:Addr} {vc vg vr wg:List V} {rows:List (List Rat×Rat)} {goal:List Rat} (h1:SqL K H lc vc) (h2:SqL K H lg vg) (h3:SqL K H ra vr) (h4:SqL K H ga wg) (r1:RowL K H vc rows) (r2:RL K H vg goal) (r3:RowL K H vr rows) (r4:RL K H wg goal):Alike K H [.ref lc,.ref lg] [.ref ra,.ref ga]:=by
 refine ⟨rfl,fun j x y e1 e2=>?_⟩
 match j,e1,e2 with
 | 0,e1,e2 =>
  have e1:V.ref lc=x:=B0 e1;have e2:V.ref ra=y:=B0 e2;subst e1 e2;exact rows_deep (n:=16) h1 h3 r1 r3
 | 1,e1,e2 =>
  have e1:V.ref lg=x:=B0 e1;have e2:V.ref ga=y:=B0 e2;subst e1 e2;exact rl_deep (n:=18) h2 h4 r2 r4
 | j+2,e1,e2=>exact absurd e1 (by simp)
theorem AnsAt.mono {K:Bc} {N:Addr→Prop} {H H':Hp} {v:V} {ans:AnsQ} (h:AnsAt K N H v ans) (g:Same H H'):AnsAt K N H' v ans:=by
 cases ans with
 | empty ps =>
  obtain ⟨p,l,ys,h1,h2,h3,h4,h5⟩:=h;exact ⟨p,l,ys,h1,g _ _ h2,g _ _ h3,h4,RL.mono h5 g⟩
 | endless pt wy =>
  obtain ⟨p,l1,l2,y1,y2,h1,h2,h3,h4,h5,h6,h7,h8⟩:=h;exact ⟨p,l1,l2,y1,y2,h1,g _ _ h2,g _ _ h3,g _ _ h4,h5,h6,RL.mono h7 g,RL.mono h8 g⟩
 | most v' pt ps =>
  obtain ⟨p,b',l1,l2,y1,y2,h1,h2,h3,h4,h5,h6,h7,h8,h9,h10⟩:=h;exact ⟨p,b',l1,l2,y1,y2,h1,g _ _ h2,g.tup h3,g _ _ h4,g _ _ h5,h6,h7,h8,RL.mono h9 g,RL.mono h10 g⟩
theorem cut_to (vs:List V) (c:Nat):∃ j,j≤c∧cutV vs none (some (c:Int))=vs.take j:=⟨min c vs.length,Nat.min_le_left _ _,by unfold cutV; rw [HT.sIx_nat,HT.sIx_none]; rfl⟩
theorem paired_rev {α β:Type} {F:α→β→Prop} {vs:List α} {qs:List β} (h:Paired F vs qs):Paired F vs.reverse qs.reverse:=by
 induction h with
 | nil=>exact .nil
 | cons h t ih =>
  rw [List.reverse_cons,List.reverse_cons];exact paired_app ih (.cons h .nil)
def GoodR (n:Nat) (r:List Rat×Rat):Prop:=r.1.length=n∧(∀ q∈r.1,Shr q)∧Shr r.2
def spRow (K:Bc):Sp:=fun vs H Q _=>∃ (f m r:Int) (n:Nat) (g:Bool),vs=[.int f,.int m,.int (n:Int),.bl g,.int r]∧n≤6∧∀ (t:Addr) (row:List Rat×Rat) (H':Hp),Same H H'→GoodR n row→RowOk K H' (.ref t) row→Q (.ref t) H'
theorem shr_int {z:Int} (h:z.natAbs≤2):Shr (z:Rat):=⟨Nat.one_dvd _,by show z.natAbs≤2^63*1; omega⟩
def absR (q:Rat):Rat:=if q.num<0 then -q else q
theorem tq_abs (q:Rat):TQ (absR q)=T2 (if q.num<0 then -q.num else q.num) q.den:=by
 unfold absR
 split <;> rfl
theorem shr_abs {q:Rat} (h:Shr q):Shr (absR q):=by
 unfold absR
 split
 ·exact Bq.neg h
 ·exact h
abbrev Jj (P w K mg base) (a:Adr) (cdv A outer s H E):=(cxOf CX0 P w K mg base ["_law_first", "_law_second", "_law_many_here", "_law_great", "_law_rest", "_law_shares_here", "_law_more", "_law_bound"] "_law_row" (qQ Q9) a.fyf cdv A outer s H E).nox
theorem okyf (T:Txt K mg a):FnOk P w K mg base CX0 4 a.fyf a.dyf ["_law_first", "_law_second", "_law_many_here", "_law_great", "_law_rest"] (spRow K):=by
 refine T.Fyf.ok ZZ (fun vs H Q E h=>?_) (fun cdv A outer s H vs Q E hr h=>?_)
 ·obtain ⟨_,_,_,_,_,rfl,_⟩:=h
  rfl
 obtain ⟨f,m,r,n,gr,rfl,n6,q⟩:=h;have cd:∀ {x m:Int},m≠0→m.natAbs.log2<9000→CDivB x m:=fun h1 h2=>⟨h1,h2⟩
 have h0:PS (Jj P w K mg base a cdv A outer s H E) (bS Q9 0) _:=(zq (i:=5) ZZ.nd rfl (Or.inl rfl) (qK (okyh T) (hr.mono (by decide)) rfl T.myh T.Fyh.kp T.byh .nil pass0 (pa_c (pv 0) (pa_c (pv 2) (pa_c (pv 3) qk)))));have h1:PS (Jj P w K mg base a cdv A outer s H E) (bS Q9 1) _:=(k7 (qK (okyj T) (hr.mono (by decide)) rfl T.myj T.Fyj.kp T.byj .nil pass0 (pa_c (pv 1) (pa_c (pv 3) qk))) (vZ rfl (zy (qW (i:=6) ZZ.nd rfl (Or.inl rfl)) (zy (qW (i:=7) ZZ.nd rfl (Or.inl rfl)) jy))));have h2:PS (Jj P w K mg base a cdv A outer s H E) (bS Q9 2) _:=(ps_if (zj op_eq (pe_op k9 (pv 4) qz) qz (zv _))
    (qX (wW (i:=5) ZZ.nd rfl (Or.inl rfl) (N:=["_law_share"]) (ix:=[none]) ⟨rfl,rfl,rfl,rfl,trivial,rfl,trivial⟩ rfl (yW (pv 5)) (fun _=>(qW (i:=0) (show (["_law_share"]:List Str).Nodup by decide +kernel) rfl (Or.inl rfl))) (fun _ σ=>jQ rfl σ) (fun _=>yy) (fun _=>(j4 (pa_c (pe_op Yk (pe_op k9 (pe_ix qY (pv 0) qz (fun _ _=>rfl)) qz) qz) (pa_c qz qk))))))
    y4)
 have h3:PS (Jj P w K mg base a cdv A outer s H E) (bS Q9 3) _:=(ps_if (zj op_eq (pe_op k9 (pe_op jW (pv 4) qz) qz) qz (zv _))
    (qX (zq (i:=7) ZZ.nd rfl (Or.inl rfl) (j4 (pa_c (zX (Zy) rfl T.m_abs boot_abs (pa_c (pe_ix qY (pv 7) qz (fun _ _=>rfl)) qk)) (pa_c (pe_ix qY (pv 7) qz (fun _ _=>rfl)) qk)))))
    y4)
 have h4:PS (Jj P w K mg base a cdv A outer s H E) (bS Q9 4) _:=(zQ (j4 (pa_c (pv 5) (pa_c (pv 7) qk))));refine body5 (by rfl) h0 h1 h2 h3 h4 ?_
 intros
 clear h0 h1 h2 h3 h4;refine ⟨_,rfl,_,rfl,_,rfl,f,n,gr,rfl,n6,fun qs lq sq l1 H1 y1 n1 g1 e1 r1=>?_⟩;refine ⟨_,rfl,_,rfl,_,gr,rfl,fun n' qx t r' H2 sx g2 ht hr'=>⟨t,_,rfl,ht,rfl,_,_,rfl,_,_,rfl,rfl,?_⟩⟩;have e2:=g2 _ _ e1;have r2:=r1.mono g2;have g12:=g1.trans g2;have ly:=r2.length;dsimp only;refine seq_in (fun σ' H'=>∃ (l:Addr) (ys:List V) (qs:List Rat),σ'=[some (.int f),some (.int m),some (.int (n:Int)),some (.bl gr),some (.int r),some (.ref l),some (.int n'),some (.ref r')]∧Same H H'∧H' l=some (.lst ys)∧RL K H' ys qs∧qs.length=n∧(∀ q∈qs,Shr q)∧SqT K H' r' (TQ qx)) ?_ fun N hN=>?_
 case refine_2 =>
  refine ⟨_,rfl,_,_,rfl,rfl,(by show (0:Int)<3; decide),rfl,_,rfl,iteD (fun _=>?_) (fun _=>?_)⟩
  ·have lmn:(qs.map fun x=>((x.num%3 - 1:Int):Rat)).length=n:=by rw [Av]; exact lq
   refine ⟨_,rfl,l1,rfl,⟨_,SqL.of e2⟩,j3 (n:=n) (fun j ys H'=>Same H2 H'∧RL K H' ys ((qs.map fun x=>((x.num%3 - 1:Int):Rat)).take j)) ⟨Same.refl _,.nil⟩ (zw (by omega)) ?_ ?_ ?_⟩
   case refine_2 =>
    rintro j ys H' hj ⟨g',_⟩;exact ⟨_,_,SqL.of (g' _ _ e2),A7 (by omega)⟩
   case refine_3 =>
    rintro j m' ys H' c' x H9 hj ⟨g',r'⟩ ⟨rfl,z1⟩ nx _;obtain ⟨qa,ea,pa,rfl,ha⟩:=r2.get (z1 _ (SqL.of (g' _ _ e2)));have ha':=g'.tup ha;refine Or.inl ⟨rfl,_,rfl,_,_,_,_,rfl,rfl,ha',rfl,_,_,rfl,rfl,(by show (0:Int)<3; decide),_,_,rfl,rfl,jZ,fun t' ht'=>nx _ _ ⟨g'.trans (qw ht' _),?_⟩⟩;have hm:(qs.map fun x=>((x.num%3 - 1:Int):Rat))[j]?=some ((qa.num%3 - 1:Int):Rat):=by rw [List.getElem?_map,ea]; rfl
    rw [yv hm];exact (r'.mono (qw ht' _)).snoc ⟨t',rfl,SqT.of qj⟩
   rintro yl H3 ⟨g3,rl⟩;rw [A8 (by omega)] at rl;refine ⟨⟨_,SqL.of (g3 _ _ e2),by omega⟩,fun l' hl'=>?_⟩;have v:=qw hl' (.lst yl);refine hN _ _ ⟨l',yl,_,rfl,g12.trans (g3.trans v),qj,rl.mono v,lmn,fun x hx=>?_,(g3.trans v).tup hr'⟩;obtain ⟨q0,_,rfl⟩:=List.mem_map.mp hx;exact shr_int (by omega)
  ·exact hN _ _ ⟨l1,y1,qs,rfl,g12,e2,r2,lq,sq,hr'⟩
 clear e1 r1 e2 r2 ly lq sq;rintro σ' H3 ⟨l,ys,qs,rfl,g3,e3,r3,lq,sq,hb⟩;refine seq_in (fun σ' H'=>∃ (b:Addr) (bd:Rat),σ'=[some (.int f),some (.int m),some (.int (n:Int)),some (.bl gr),some (.int r),some (.ref l),some (.int n'),some (.ref b)]∧Same H3 H'∧Shr bd∧SqT K H' b (TQ bd)) ?_ fun N hN=>?_
 case refine_2 =>
  refine ⟨_,rfl,_,_,rfl,rfl,cd (by decide) (by decide +kernel),_,_,rfl,rfl,(by show (0:Int)<3; decide),rfl,_,rfl,iteD (fun _=>?_) (fun _=>?_)⟩
  ·refine ⟨_,rfl,_,_,_,_,rfl,rfl,hb,rfl,_,rfl,_,rfl,_,_,_,_,rfl,rfl,hb,rfl,jZ,fun t' ht'=>hN _ _ ⟨t',absR qx,rfl,qw ht' _,shr_abs sx,?_⟩⟩
   rw [tq_abs];exact SqT.of qj
  ·exact hN _ _ ⟨r',qx,rfl,Same.refl _,sx,hb⟩
 rintro σ' H4 ⟨b,bd,rfl,g4,sb,hb4⟩;refine ⟨_,rfl,_,rfl,jZ,fun t ht=>?_⟩;have v:=qw ht (.tup [.ref l,.ref b]);exact q t (qs,bd) _ (g3.trans (g4.trans v)) ⟨lq,sq,sb⟩ ⟨t,l,b,ys,rfl,SqT.of qj,SqL.of ((g4.trans v) _ _ e3),(g4.trans v) _ _ e3,r3.mono (g4.trans v),v.tup hb4⟩
def spLaw (K:Bc) (tb:Addr):Sp:=fun vs H Q _=>∃ (a:Addr) (ns:List Int),vs=[.ref a]∧SqL K H a (ns.map V.int)∧ns.length≤63∧H tb=some (.tbl #[])∧∀ H',Q (.bl true) H'
theorem same36 {n:Nat} {rows:List (List Rat×Rat)} {goal:List Rat} {ans ans':AnsQ} (lr:∀ r∈rows,r.1.length=n) (lg:goal.length=n) (h:ZV n rows goal ans) (h':ZV n rows.reverse goal ans'):(∃ p p',ans=.empty p∧ans'=.empty p')∨(∃ x y x' y',ans=.endless x y∧ans'=.endless x' y')∨∃ v x y x' y',ans=.most v x y∧ans'=.most v x' y':=by
 have lr':∀ r∈rows.reverse,r.1.length=n:=fun r hr=>lr r (List.mem_reverse.mp hr)
 cases ans with
 | empty p=>cases ans' with
  | empty p'=>exact .inl ⟨_,_,rfl,rfl⟩
  | endless x y=>exact absurd h (not_empty lr (pt:=x) fun r hr=>h'.2.2.1 r (List.mem_reverse.mpr hr))
  | most v x y=>exact absurd h (not_empty lr (pt:=x) fun r hr=>h'.2.2.1 r (List.mem_reverse.mpr hr))
 | endless x y=>cases ans' with
  | empty p=>exact absurd h' (not_empty lr' (pt:=x) fun r hr=>h.2.2.1 r (List.mem_reverse.mp hr))
  | endless x' y'=>exact .inr (.inl ⟨_,_,_,_,rfl,rfl⟩)
  | most v x' y' =>
   have k:ZV n rows.reverse goal (.endless x y):=⟨h.1,h.2.1,fun r hr=>h.2.2.1 r (List.mem_reverse.mp hr),fun r hr=>h.2.2.2.1 r (List.mem_reverse.mp hr),h.2.2.2.2⟩;exact absurd k (not_endless lr' lg h'.2.1 h'.2.2.2.1 h'.2.2.2.2.2)
 | most v x y=>cases ans' with
  | empty p=>exact absurd h' (not_empty lr' (pt:=x) fun r hr=>h.2.2.1 r (List.mem_reverse.mp hr))
  | endless x' y' =>
   have k:ZV n rows goal (.endless x' y'):=⟨h'.1,h'.2.1,fun r hr=>h'.2.2.1 r (List.mem_reverse.mpr hr),fun r hr=>h'.2.2.2.1 r (List.mem_reverse.mpr hr),h'.2.2.2.2⟩;exact absurd k (not_endless lr lg h.2.1 h.2.2.2.1 h.2.2.2.2.2)
  | most v' x' y' =>
   have a:=most_le lr lg h (x:=x') fun r hr=>h'.2.2.1 r (List.mem_reverse.mpr hr)
   have b:=most_le lr' lg h' (x:=x) fun r hr=>h.2.2.1 r (List.mem_reverse.mp hr)
   rw [h'.2.2.2.2.1] at a;rw [h.2.2.2.2.1] at b;have e:=Rat.le_antisymm a b;subst e;exact .inr (.inr ⟨_,_,_,_,_,rfl,rfl⟩)
theorem bq_bd {d b:Nat} {q:Rat} (h:Bq d b q):Bd (D0^d) b q:=⟨h.1,h.2⟩
theorem ask36 {n:Nat} {rows:List (List Rat×Rat)} {goal:List Rat} (n5:n≤5) (r20:rows.length≤40) (lr:∀ r∈rows,GoodR n r) (lg:goal.length=n) (sg:∀ q∈goal,Shr q):AskSz n (D0^2) 133 75 1290 rows goal:=by
 have up:∀ q,Shr q→Bq 2 133 q:=fun q h=>h.mono (by decide) (by decide)
 refine ⟨by omega,by omega,fun r hr=>⟨(lr r hr).1,fun q hq=>bq_bd (up q ?_)⟩,lg,fun q hq=>bq_bd (up q (sg q hq)),by decide,by decide,by decide,?_⟩
 ·rcases Aw.mp hq with y | y
  ·exact (lr r hr).2.1 q y
  ·rw [Al.mp y]; exact (lr r hr).2.2
 have:n=0∨n=1∨n=2∨n=3∨n=4∨n=5:=by omega
 rcases this with h | h | h | h | h | h <;> rw [h] <;> decide +kernel
abbrev V5 (P w K mg base) (a:Adr) (cdv A outer s H E):=(cxOf CX0 P w K mg base ["_law_script", "_law_rest", "_law_many_here", "_law_numbers", "_law_great", "_law_point", "_law_rows", "_law_handed", "_law_found", "_law_turned", "_law_again"] "law" (qQ sy1) a.fy1 cdv A outer s H E).nox
set_option maxHeartbeats 0 in
theorem oky1 (T:Txt K mg a) (B:BMain mg base):FnOk P w K mg base CX0 9 a.fy1 a.dy1 ["_law_script"] (spLaw K a.tb_lam):=by
 refine T.Fy1.ok Yx (fun vs H Q E h=>?_) (fun cdv A outer s H vs Q E hr h=>?_)
 ·obtain ⟨_,_,rfl,_⟩:=h
  rfl
 obtain ⟨sa,ns,rfl,hS,h63,htb,q⟩:=h;have cd:∀ {x m:Int},m≠0→m.natAbs.log2<9000→CDivB x m:=fun h1 h2=>⟨h1,h2⟩
 have h0:PS (V5 P w K mg base a cdv A outer s H E) (bS sy1 0) _:=(k7 (qK (okyb T) (hr.mono (by decide)) rfl T.myb T.Fyb.kp T.byb .nil pass0 (pa_c (pv 0) qk)) (vZ rfl (zy (qW (i:=1) Yx.nd rfl (Or.inr rfl)) (zy (qW (i:=2) Yx.nd rfl (Or.inr rfl)) (zy (qW (i:=3) Yx.nd rfl (Or.inl rfl)) (zy (qW (i:=4) Yx.nd rfl (Or.inr rfl)) (zy (qW (i:=5) Yx.nd rfl (Or.inl rfl)) jy)))))));have h1:PS (V5 P w K mg base a cdv A outer s H E) (bS sy1 1) _:=(wW (i:=6) Yx.nd rfl (Or.inl rfl) (N:=["_law_first", "_law_second", "_law_many_here", "_law_great", "_law_rest"]) (ix:=[none,none,some 2,some 4,some 1]) ⟨rfl,rfl,rfl,rfl,⟨rfl,⟨rfl,⟨rfl,trivial⟩⟩⟩,rfl,⟨⟨rfl,Or.inr (Or.inl rfl),jj rfl,rfl,Or.inl rfl⟩,⟨⟨rfl,Or.inr (Or.inl rfl),jj rfl,rfl,Or.inl rfl⟩,⟨⟨rfl,Or.inr (Or.inl rfl),jj rfl,rfl,Or.inl rfl⟩,trivial⟩⟩⟩⟩ rfl (yW (pv 3)) (fun _=>(vZ rfl (zy (qW (i:=0) (show (["_law_first", "_law_second", "_law_many_here", "_law_great", "_law_rest"]:List Str).Nodup by decide +kernel) rfl (Or.inl rfl)) (zy (qW (i:=1) (show (["_law_first", "_law_second", "_law_many_here", "_law_great", "_law_rest"]:List Str).Nodup by decide +kernel) rfl (Or.inl rfl)) jy)))) (fun _ σ=>go_two rfl rfl (by decide) σ) (fun _=>yy) (fun _=>(qK (okyf T) (hr.mono (by decide)) rfl T.myf T.Fyf.kp T.byf .nil pass0 (pa_c (pv 0) (pa_c (pv 1) (pa_c (pv 2) (pa_c (pv 3) (pa_c (pv 4) qk))))))));have h2:PS (V5 P w K mg base a cdv A outer s H E) (bS sy1 2) _:=(ps_if (zj op_eq (pe_op k9 (pe_op jW (pv 1) qz) qz) qz (zv _))
    (qX (zq (i:=6) Yx.nd rfl (Or.inl rfl) (pe_op op_cat (pe_op op_cat (J5 VY (pv 6) W5 (W4 qz)) (J5 VY (pv 6) W5 (W4 qz))) (w5 (pa_c (j4 (pa_c (pe_op op_rep (w5 (pa_c (j4 (pa_c qz (pa_c qz qk))) qk)) (pv 2)) (pa_c (j4 (pa_c (pe_op k9 (pe_op jW (pv 1) qz) qz) (pa_c qz qk))) qk))) qk)))))
    y4)
 have h3:PS (V5 P w K mg base a cdv A outer s H E) (bS sy1 3) _:=(zq (i:=7) Yx.nd rfl (Or.inl rfl) (w5 (pa_c (qK (oky4 T) (hr.mono (by decide)) rfl T.my4 T.Fy4.kp T.by4 .nil pass0 (pa_c (pv 6) qk)) (pa_c (xv (xj) rfl T.m_list boot_list (pa_c (pv 5) qk)) qk))));have h4:PS (V5 P w K mg base a cdv A outer s H E) (bS sy1 4) _:=(zq (i:=8) Yx.nd rfl (Or.inl rfl) (qK (okzz T B) (hr.mono (by decide)) rfl T.mzz T.Fzz.kp T.bzz .nil pass0 (pa_c (pe_ix zK (pv 7) qz (fun _ _=>rfl)) (pa_c (pe_ix zK (pv 7) qz (fun _ _=>rfl)) qk))));have h5:PS (V5 P w K mg base a cdv A outer s H E) (bS sy1 5) _:=(ps_if (PW.pt (pw_or (zj (op_neD hr.units) (pv 7) (w5 (pa_c (pv 6) (pa_c (pv 5) qk))) (zv _)) (QV (QW (wV (qK (okye T) (hr.mono (by decide)) rfl T.mye T.Fye.kp T.bye .nil pass0 (pa_c (pv 6) (pa_c (pv 5) (pa_c (pv 8) qk)))))))))
    (qX (zQ pe_bl))
    y4)
 have h6:PS (V5 P w K mg base a cdv A outer s H E) (bS sy1 6) _:=(zq (i:=9) Yx.nd rfl (Or.inl rfl) (pe_listRev rfl rfl T.m_reversed rfl T.m_list (pv 6)));have h7:PS (V5 P w K mg base a cdv A outer s H E) (bS sy1 7) _:=(zq (i:=10) Yx.nd rfl (Or.inl rfl) (qK (okzz T B) (hr.mono (by decide)) rfl T.mzz T.Fzz.kp T.bzz .nil pass0 (pa_c (qK (oky4 T) (hr.mono (by decide)) rfl T.my4 T.Fy4.kp T.by4 .nil pass0 (pa_c (pv 9) qk)) (pa_c (xv (xj) rfl T.m_list boot_list (pa_c (pv 5) qk)) qk))));have h8:PS (V5 P w K mg base a cdv A outer s H E) (bS sy1 8) _:=(ps_if (PW.pt (pw_or (QW (wV (qK (okye T) (hr.mono (by decide)) rfl T.mye T.Fye.kp T.bye .nil pass0 (pa_c (pv 9) (pa_c (pv 5) (pa_c (pv 10) qk)))))) (QV (zj op_ne (pe_ix qY (pv 10) qz (fun _ _=>rfl)) (pe_ix qY (pv 8) qz (fun _ _=>rfl)) (zv _)))))
    (qX (zQ pe_bl))
    y4)
 have h9:PS (V5 P w K mg base a cdv A outer s H E) (bS sy1 9) _:=(zQ (pe_or (Qq op_ne (pe_ix qY (pv 8) qz (fun _ _=>rfl)) pe_str (zv _)) (pe_one (Qq (op_eqT (hu_of hr)) (pe_ix qY (pv 10) qz (fun _ _=>rfl)) (pe_ix qY (pv 8) qz (fun _ _=>rfl)) (zv _)))));refine body10 (by rfl) h0 h1 h2 h3 h4 h5 h6 h7 h8 h9 ?_
 intros
 clear h0 h1 h2 h3 h4 h5 h6 h7 h8 h9;refine ⟨_,rfl,sa,ns,rfl,hS,h63,fun t ln lp r n gr yn yp ps pt H1 n5 r0 p20 lpt spt g1 et nln eln pl nlp elp rp=>⟨t,_,rfl,SqT.of et,rfl,_,_,rfl,_,_,rfl,_,_,rfl,_,_,rfl,_,_,rfl,rfl,?_⟩⟩;have lyn:=Paired.length pl;refine ⟨_,rfl,ln,rfl,⟨_,SqL.of eln⟩,j3 (n:=ps.length) (fun j ys H'=>Same H1 H'∧∃ rows,RowL K H' ys rows∧rows.length=j∧∀ r∈rows,GoodR n r) ⟨Same.refl _,[],.nil,rfl,fun r hr=>(by cases hr)⟩ (zw (by omega)) ?_ ?_ ?_⟩
 case refine_2 =>
  rintro j ys H' hj ⟨g',_⟩;exact ⟨_,_,SqL.of (g' _ _ eln),A7 (by omega)⟩
 case refine_3 =>
  rintro j m' ys H' c' x H9 hj ⟨g',rows,rr,lrw,go⟩ ⟨rfl,z1⟩ nx _;obtain ⟨pp,epp,t,rfl,ht⟩:=y7 pl (z1 _ (SqL.of (g' _ _ eln)));obtain ⟨f,mo⟩:=pp;refine ⟨t,_,rfl,g'.tup ht,rfl,_,_,rfl,_,_,rfl,rfl,Or.inl ⟨rfl,_,rfl,_,rfl,_,rfl,_,rfl,_,rfl,f,mo,r,n,gr,rfl,by omega,fun t' row H2 g2 gd ro=>nx _ _ ⟨g'.trans g2,rows++[row],Paired.snoc (RowL.mono rr g2) ro,by rw [Ak,lrw]; rfl,fun r' hr'=>?_⟩⟩⟩
  rcases Aw.mp hr' with z | z
  ·exact go r' z
  ·rw [Al.mp z]; exact gd
 rintro yl H2 ⟨g2,rows,rr,lrw,go⟩;refine ⟨⟨_,SqL.of (g2 _ _ eln),by omega⟩,fun lr hlr=>?_⟩;have v1:=qw hlr (.lst yl);have er:upd H2 lr (.lst yl) lr=some (.lst yl):=qj;have rr1:=RowL.mono rr v1;have g3:=g1.trans (g2.trans v1);have ep3:=(g2.trans v1) _ _ elp;have rp3:=rp.mono (g2.trans v1);clear v1 g2 g1 hlr rr et eln pl elp rp;generalize upd H2 lr (.lst yl)=H3 at *;have lr20:rows.length≤20:=by omega
 have lyl:=Paired.length rr1;dsimp only;refine seq_in (fun σ' H'=>∃ (lr:Addr) (vr:List V) (rows:List (List Rat×Rat)),σ'=[some (.ref sa),some (.int r),some (.int (n:Int)),some (.ref ln),some (.bl gr),some (.ref lp),some (.ref lr),none,none,none,none]∧Same H3 H'∧H' lr=some (.lst vr)∧RowL K H' vr rows∧rows.length≤40∧∀ r∈rows,GoodR n r) ?_ fun N hN=>?_
 case refine_2 =>
  refine ⟨_,rfl,_,_,rfl,rfl,cd (by decide) (by decide +kernel),_,_,rfl,rfl,(by show (0:Int)<4; decide),rfl,_,rfl,iteD (fun _=>?_) (fun _=>?_)⟩
  ·refine ⟨_,rfl,_,rfl,_,_,rfl,SqL.of er,fun c1 hc1=>?_⟩
   obtain ⟨j1,lj1,ej1⟩:∃ j,j≤10∧cutV yl none (some 10)=yl.take j:=cut_to yl 10;rw [ej1];have w1:=qw hc1 (.lst (yl.take j1));refine ⟨_,rfl,_,rfl,_,_,rfl,SqL.of (w1 _ _ er),fun c2 hc2=>?_⟩;obtain ⟨j2,lj2,ej2⟩:∃ j,j≤3∧cutV yl none (some 3)=yl.take j:=cut_to yl 3;rw [ej2];have w2:=qw hc2 (.lst (yl.take j2));have lt1:(yl.take j1).length≤20:=by rw [Au]; omega
   have lt2:(yl.take j2).length≤20:=by rw [Au]; omega
   refine ⟨c1,c2,_,_,rfl,rfl,w2 _ _ qj,qj,Nat.le_of_lt (zw (by omega)),fun c3 hc3=>?_⟩;have w3:=qw hc3 (.lst (yl.take j1++yl.take j2));have w13:=w1.trans (w2.trans w3);have e3:upd (upd (upd H3 c1 (.lst (yl.take j1))) c2 (.lst (yl.take j2))) c3 (.lst (yl.take j1++yl.take j2)) c3=some (.lst (yl.take j1++yl.take j2)):=qj;have rr3:=RowL.mono rr1 w13;clear w1 w2 w3 hc1 hc2 hc3;generalize upd (upd (upd H3 c1 (.lst (yl.take j1))) c2 (.lst (yl.take j2))) c3 (.lst (yl.take j1++yl.take j2))=H4 at *;refine ⟨jZ,fun t0 ht0=>⟨(show 1≤sizeLine by decide),fun l0 hl0=>?_⟩⟩;have w1:=qw ht0 (.tup (T2 0 1));have w2:=qw hl0 (.lst [.ref t0]);refine ⟨_,rfl,l0,_,_,rfl,rfl,qj,by omega,by omega,?_,fun lg hlg=>?_⟩
   ·rw [Ab]
    exact Nat.le_of_lt (zw (by omega))
   rw [Int.toNat_natCast,flat_rep];have w3:=qw hlg (.lst (List.replicate n (.ref t0)));have z0:SqT K (upd (upd (upd H4 t0 (.tup (T2 0 1))) l0 (.lst [.ref t0])) lg (.lst (List.replicate n (.ref t0)))) t0 (TQ 0):=SqT.of ((w2.trans w3) _ _ qj);have elg:upd (upd (upd H4 t0 (.tup (T2 0 1))) l0 (.lst [.ref t0])) lg (.lst (List.replicate n (.ref t0))) lg=some (.lst (List.replicate n (.ref t0))):=qj;have w43:=w1.trans (w2.trans w3);clear w1 w2 w3 hlg hl0 ht0;generalize upd (upd (upd H4 t0 (.tup (T2 0 1))) l0 (.lst [.ref t0])) lg (.lst (List.replicate n (.ref t0)))=H5 at *;have rg0:RL K H5 (List.replicate n (V.ref t0)) (List.replicate n 0):=RL.rep ⟨t0,rfl,z0⟩ n;refine ⟨_,rfl,_,_,rfl,rfl,cd (by decide) (by decide +kernel),_,_,rfl,rfl,(by show (0:Int)<3; decide),jZ,fun tz htz=>?_⟩;dsimp only;obtain ⟨z,ez⟩:∃ z:Int,z=r.fdiv 36%3:=⟨_,rfl⟩;rw [← ez];have w1:=qw htz (.tup (T2 z 1));refine ⟨jZ,fun tt htt=>⟨(show 1≤sizeLine by decide),fun ll hll=>?_⟩⟩;have w2:=qw htt (.tup [.ref lg,.ref tz]);have w3:=qw hll (.lst [.ref tt]);have w53:=w1.trans (w2.trans w3);refine ⟨c3,ll,_,_,rfl,rfl,(w43.trans w53) _ _ e3,qj,Nat.le_of_lt (zw (by rw [Ak,Ab]; omega)),fun lf hlf=>?_⟩;have w4:=qw hlf (.lst (yl.take j1++yl.take j2++[.ref tt]));have w54:=w53.trans w4;have w34:=w13.trans (w43.trans w54);have rr4:=RowL.mono rr3 (w43.trans w54);refine hN _ _ ⟨lf,_,rows.take j1++rows.take j2++[(List.replicate n 0,(z:Rat))],rfl,w34,qj,Paired.snoc (paired_app (paired_take j1 rr4) (paired_take j2 rr4)) ⟨tt,lg,tz,_,rfl,(w3.trans w4).tup (SqT.of qj),SqL.of (w54 _ _ elg),w54 _ _ elg,rg0.mono w54,(w2.trans (w3.trans w4)).tup (SqT.of qj)⟩,?_,fun r' hr'=>?_⟩
   ·rw [Ak,Ak,Au,Au,Ab]
    omega
   ·rcases Aw.mp hr' with y | y
    ·rcases Aw.mp y with x | x
     ·exact go r' (List.mem_of_mem_take x)
     ·exact go r' (List.mem_of_mem_take x)
    ·rw [Al.mp y]
     refine ⟨Ad,fun q hq=>?_,shr_int (by omega)⟩;rw [(List.mem_replicate.mp hq).2];exact Bq.zero _ _
  ·exact hN _ _ ⟨lr,yl,rows,rfl,Same.refl _,er,rr1,by omega,go⟩
 clear rr1 er lrw lr20 lyl lyn;rintro σ' H4 ⟨lr,vr,rows,rfl,w4,er4,rr4,lr41,go⟩;have g4:=g3.trans w4;have ep4:=w4 _ _ ep3;have rp4:=rp3.mono w4;clear w4 ep3 rp3 g3;have lvr:=Paired.length rr4;have r40:rows.length≤40:=by omega
 have n40:n≤40:=by omega
 have az:=ask36 n5 r40 go lpt spt;refine ⟨_,rfl,lr,vr,rows,rfl,SqL.of er4,rr4,by omega,fun r hr=>by rw [(go r hr).1]; omega,fun lc yc H6 g6 nlc elc rc=>?_⟩;have eg6:=g6 _ _ ep4;refine ⟨_,rfl,lp,yp,rfl,.inl (SqL.of eg6),fun lq hlq=>⟨(show 2≤sizeLine by decide),fun lh hlh=>?_⟩⟩;have g7:=qw hlq (.lst yp);have e7:upd H6 lq (.lst yp) lq=some (.lst yp):=qj;have g8:=qw hlh (.lst [.ref lc,.ref lq]);have e8:upd (upd H6 lq (.lst yp)) lh (.lst [.ref lc,.ref lq]) lh=some (.lst [.ref lc,.ref lq]):=qj;have e78:=g8 _ _ e7;have g68:=g6.trans (g7.trans g8);have elc8:=(g7.trans g8) _ _ elc;have rc8:=RowL.mono rc (g7.trans g8);have er8:=g68 _ _ er4;have rr8:=RowL.mono rr4 g68;have ep8:=g68 _ _ ep4;have rp8:=rp4.mono g68;have ls8:LamSt a.tb_lam Yw lamQ (upd (upd H6 lq (.lst yp)) lh (.lst [.ref lc,.ref lq])):=.inl ((g4.trans g68) _ _ htb);clear g6 g7 g8 g68 hlq hlh e7 elc rc er4 rr4 eg6 g4 ep4 rp4;generalize upd (upd H6 lq (.lst yp)) lh (.lst [.ref lc,.ref lq])=H8 at *;refine ⟨_,rfl,_,_,_,_,rfl,rfl,SqL.of e8,rfl,_,rfl,_,_,_,_,rfl,rfl,SqL.of e8,rfl,lc,lq,yc,yp,rows,pt,n,_,_,_,_,rfl,SqL.of elc8,rc8,SqL.of e78,rp8,az,ls8,fun v H9 ans g9 ls9 an ri asz=>?_⟩;refine ⟨_,rfl,_,rfl,_,rfl,(show 2≤sizeLine by decide),fun l1 hl1=>?_⟩;have g10:=qw hl1 (.lst [.ref lr,.ref lp]);have e10:upd H9 l1 (.lst [.ref lr,.ref lp]) l1=some (.lst [.ref lr,.ref lp]):=qj;have g810:SameL H8 (upd H9 l1 (.lst [.ref lr,.ref lp])):=g9.trans g10.toL;have an10:=an.mono g10;have ls10:=LamSt.mono ls9 g10;clear an ls9 g9 g10 hl1;generalize upd H9 l1 (.lst [.ref lr,.ref lp])=H10 at *
 refine ⟨lh,l1,_,_,rfl,rfl,.inl ⟨SqL.of (g810 _ _ e8 rfl),SqL.of e10⟩,handed_alike (SqL.of (g810 _ _ elc8 rfl)) (SqL.of (g810 _ _ e78 rfl)) (SqL.of (g810 _ _ er8 rfl)) (SqL.of (g810 _ _ ep8 rfl)) (rc8.monoL g810) (rp8.monoL g810) (rr8.monoL g810) (rp8.monoL g810),_,rfl,iteF ?_⟩;refine ⟨_,rfl,_,rfl,_,rfl,lr,lp,v,vr,yp,rows,pt,n,_,_,_,_,_,_,rfl,SqL.of (g810 _ _ er8 rfl),rr8.monoL g810,SqL.of (g810 _ _ ep8 rfl),rp8.monoL g810,az,n40,r40,by decide,an10,ri,asz,fun H11 g11=>⟨_,rfl,iteF ?_⟩⟩;have an11:=an10.mono g11;have ls11:=LamSt.mono ls10 g11;have g811:=g810.trans g11.toL;have er11:=g811 _ _ er8 rfl;have rr11:=rr8.monoL g811;have ep11:=g811 _ _ ep8 rfl;have rp11:=rp8.monoL g811;clear an10 ls10 g811 g810 g11 er8 rr8 ep8 rp8 rc8 elc8 e8 e78 e10;refine ⟨_,rfl,lr,vr,rfl,er11,by omega,fun lt hlt=>?_⟩;have w1:=qw hlt (.lst vr.reverse);have et:upd H11 lt (.lst vr.reverse) lt=some (.lst vr.reverse):=qj;have rt:RowL K (upd H11 lt (.lst vr.reverse)) vr.reverse rows.reverse:=paired_rev (RowL.mono rr11 w1);have lrr:rows.reverse.length=rows.length:=List.length_reverse;have go':∀ r∈rows.reverse,GoodR n r:=fun r hr=>go r (List.mem_reverse.mp hr)
 have az':=ask36 n5 (by omega) go' lpt spt;have ep12:=w1 _ _ ep11;have rp12:=rp11.mono w1;have an12:=an11.mono w1;have ls12:=LamSt.mono ls11 w1;clear w1 hlt er11 rr11 ep11 rp11 an11 ls11;generalize upd H11 lt (.lst vr.reverse)=H12 at *;refine ⟨_,rfl,lt,vr.reverse,rows.reverse,rfl,SqL.of et,rt,by omega,fun r hr=>by rw [(go' r hr).1]; omega,fun lc2 yc2 H13 g13 nlc2 elc2 rc2=>?_⟩;refine ⟨_,rfl,lp,yp,rfl,.inl (SqL.of (g13 _ _ ep12)),fun lq2 hlq2=>?_⟩;have w2:=qw hlq2 (.lst yp);have g14:=g13.trans w2;refine ⟨lc2,lq2,yc2,yp,rows.reverse,pt,n,_,_,_,_,rfl,SqL.of (w2 _ _ elc2),RowL.mono rc2 w2,SqL.of qj,rp12.mono g14,az',LamSt.mono ls12 g14,fun v' H15 ans' g15 ls15 an' ri' asz'=>?_⟩;have g16:=g14.toL.trans g15;refine ⟨_,rfl,_,rfl,_,rfl,lt,lp,v',vr.reverse,yp,rows.reverse,pt,n,_,_,_,_,_,_,rfl,SqL.of (g16 _ _ et rfl),rt.monoL g16,SqL.of (g16 _ _ ep12 rfl),rp12.monoL g16,az',n40,by omega,by decide,an',ri',asz',fun H17 g17=>⟨_,rfl,iteF ?_⟩⟩;have an17:=an'.mono g17;have g1217:=g16.trans g17.toL
 rcases same36 (fun r hr=>(go r hr).1) lpt ri ri' with ⟨p1,p2,rfl,rfl⟩ | ⟨x1,y1,x2,y2,rfl,rfl⟩ | ⟨vq,x1,y1,x2,y2,rfl,rfl⟩
 ·obtain ⟨p,l,ys,rfl,hp,_⟩:=an12
  obtain ⟨p',l',ys',rfl,hp',_⟩:=an17;have hp:=g1217 _ _ hp rfl;refine ⟨_,rfl,_,_,_,_,rfl,rfl,SqT.of hp',rfl,_,rfl,_,_,_,_,rfl,rfl,SqT.of hp,rfl,rfl,_,rfl,iteF ?_⟩;exact ⟨_,rfl,_,_,_,_,rfl,rfl,SqT.of hp,rfl,rfl,_,rfl,q _⟩
 ·obtain ⟨p,l1,l2,ys1,ys2,rfl,hp,_⟩:=an12
  obtain ⟨p',l1',l2',ys1',ys2',rfl,hp',_⟩:=an17;have hp:=g1217 _ _ hp rfl;refine ⟨_,rfl,_,_,_,_,rfl,rfl,SqT.of hp',rfl,_,rfl,_,_,_,_,rfl,rfl,SqT.of hp,rfl,rfl,_,rfl,iteF ?_⟩;exact ⟨_,rfl,_,_,_,_,rfl,rfl,SqT.of hp,rfl,rfl,_,rfl,q _⟩
 ·obtain ⟨p,b,l1,l2,ys1,ys2,rfl,hp,hb,_⟩:=an12
  obtain ⟨p',b',l1',l2',ys1',ys2',rfl,hp',hb',_⟩:=an17;have hp:=g1217 _ _ hp rfl;have hb:=g1217.tup hb;refine ⟨_,rfl,_,_,_,_,rfl,rfl,SqT.of hp',rfl,_,rfl,_,_,_,_,rfl,rfl,SqT.of hp,rfl,rfl,_,rfl,iteF ?_⟩;refine ⟨_,rfl,_,_,_,_,rfl,rfl,SqT.of hp,rfl,rfl,_,rfl,?_⟩;refine ⟨_,rfl,_,_,_,_,rfl,rfl,SqT.of hp',rfl,_,rfl,_,_,_,_,rfl,rfl,SqT.of hp,rfl,b',b,_,_,rfl,rfl,hb',hb,rfl,rfl,?_⟩;rw [eqVs_self rfl];exact q _
end
theorem PF.mk {K:Bc} {h:Heap} {mg:Str→Option Value} {x:Str} {st:Stmt} (p:PF K x st) (X:K.In h) (G:h.Ns mainGlobals mg):∃ f fd,Fun K x x st f fd∧mg x=some (.ref f):=by
 obtain ⟨f,a,_,_,_,_,_,_,_,_,_,_,l,c,k⟩:=p;exact ⟨f,_,fun_mk l c k,PySem.W.mg_of X G a⟩
theorem PM.mk {K:Bc} {C:Addr} {m q:Str} {st:Stmt} (p:PM K C m q st):∃ f fd,Fun K m q st f fd∧PySem.W.findIn K (.ref C) m=some (some (.ref f))∧PySem.W.isFn K (.ref f)=true∧PySem.W.keepIn K (.ref f)=true:=by
 obtain ⟨f,a,i,_,_,_,_,_,_,_,_,_,l,c,k⟩:=p;exact ⟨f,_,fun_mk l c k,a,i,k⟩
theorem fb1 {K:Bc} {x q:Str} {st:Stmt} {f:Addr} {fd:FuncData} {p0:Str} (F:Fun K x q st f fd) (h:∀ (kV doc pm:Value) (an:Option Addr) (cdv ct u0:Value),bindArgs (PySem.W.fnOf x q (ww st) (yw st) (qQ st) .none kV doc pm an cdv ct) ⟨[u0],[]⟩=pure [(p0,u0)]:=by intros; rfl):Binds K fd [p0] []:=F.binds fun a b c d e f us hl=>match us,hl with | [u0],_=>h a b c d e f u0
theorem fb2 {K:Bc} {x q:Str} {st:Stmt} {f:Addr} {fd:FuncData} {p0 p1:Str} (F:Fun K x q st f fd) (h:∀ (kV doc pm:Value) (an:Option Addr) (cdv ct u0 u1:Value),bindArgs (PySem.W.fnOf x q (ww st) (yw st) (qQ st) .none kV doc pm an cdv ct) ⟨[u0,u1],[]⟩=pure [(p0,u0),(p1,u1)]:=by intros; rfl):Binds K fd [p0,p1] []:=F.binds fun a b c d e f us hl=>match us,hl with | [u0,u1],_=>h a b c d e f u0 u1
theorem fb3 {K:Bc} {x q:Str} {st:Stmt} {f:Addr} {fd:FuncData} {p0 p1 p2:Str} (F:Fun K x q st f fd) (h:∀ (kV doc pm:Value) (an:Option Addr) (cdv ct u0 u1 u2:Value),bindArgs (PySem.W.fnOf x q (ww st) (yw st) (qQ st) .none kV doc pm an cdv ct) ⟨[u0,u1,u2],[]⟩=pure [(p0,u0),(p1,u1),(p2,u2)]:=by intros; rfl):Binds K fd [p0,p1,p2] []:=F.binds fun a b c d e f us hl=>match us,hl with | [u0,u1,u2],_=>h a b c d e f u0 u1 u2
theorem fb4 {K:Bc} {x q:Str} {st:Stmt} {f:Addr} {fd:FuncData} {p0 p1 p2 p3:Str} (F:Fun K x q st f fd) (h:∀ (kV doc pm:Value) (an:Option Addr) (cdv ct u0 u1 u2 u3:Value),bindArgs (PySem.W.fnOf x q (ww st) (yw st) (qQ st) .none kV doc pm an cdv ct) ⟨[u0,u1,u2,u3],[]⟩=pure [(p0,u0),(p1,u1),(p2,u2),(p3,u3)]:=by intros; rfl):Binds K fd [p0,p1,p2,p3] []:=F.binds fun a b c d e f us hl=>match us,hl with | [u0,u1,u2,u3],_=>h a b c d e f u0 u1 u2 u3
theorem fb5 {K:Bc} {x q:Str} {st:Stmt} {f:Addr} {fd:FuncData} {p0 p1 p2 p3 p4:Str} (F:Fun K x q st f fd) (h:∀ (kV doc pm:Value) (an:Option Addr) (cdv ct u0 u1 u2 u3 u4:Value),bindArgs (PySem.W.fnOf x q (ww st) (yw st) (qQ st) .none kV doc pm an cdv ct) ⟨[u0,u1,u2,u3,u4],[]⟩=pure [(p0,u0),(p1,u1),(p2,u2),(p3,u3),(p4,u4)]:=by intros; rfl):Binds K fd [p0,p1,p2,p3,p4] []:=F.binds fun a b c d e f us hl=>match us,hl with | [u0,u1,u2,u3,u4],_=>h a b c d e f u0 u1 u2 u3 u4
theorem all_mk {l:PySem.W.OpenLaw} {w:World} {K:Bc} {h:Heap} {mg:Str→Option Value} {fa:Addr} (X:K.In h) (G:h.Ns mainGlobals mg) (hfa:mg "law" = some (.ref fa)) {tb:Addr} (pins:Pins K tb) :
  ∃ fd:FuncData,(∀ (s:Shared) (v:Value),BindsTo s fd ⟨[v],[]⟩ [("_law_script",v)])∧∀ base:Heap,K.In base→base.Ns mainGlobals mg→BMain mg base→FnOk l.prog w K mg base CX0 9 fa fd ["_law_script"] (spLaw K tb):=by
 refine pins _ ?_;intro CC_Tableau CC_Quest f34 od34 an34 sl34 oc34 kV34 dc34 pm34 ct34 CDL oeL vsL slL gg_NOUGHT go_NOUGHT gn_NOUGHT gs_NOUGHT gt0_NOUGHT gt1_NOUGHT gg_ONE go_ONE gn_ONE gs_ONE gt0_ONE gt1_ONE tk_ROUGH_BITS gg_MINUS_ONE go_MINUS_ONE gn_MINUS_ONE gs_MINUS_ONE gt0_MINUS_ONE gt1_MINUS_ONE gTableau gQuest a34 l34 c34 k34 lkL vL nL z0 z1 z2 z3 z4 z5 z6 z7 z8 z9 z10 z11 z12 z13 z14 z15 pgTableau hdTableau poTableau saTableau mkTableau kcTableau naTableau_rooms naTableau_bottom naTableau_lines naTableau_names naTableau_heads naTableau_goal naTableau_guide pgQuest hdQuest poQuest saQuest mkQuest kcQuest naQuest_tableau naQuest_many naQuest_scales naQuest_aim qNOUGHT qlNOUGHT qONE qlONE qROUGH_BITS qMINUS_ONE qlMINUS_ONE h0 h1 h2 h3 h4 h5 h6 h7 h8 h9 h10 h11 h12 h13 h14 h15 h16 h17 h18 h19 h20 h21 h22 h23 h24 h25 h26 h27 h28 h29 h30 h31 h32 h33 h35 h36 h37 h38 h39 h40 h41 h42 h43 h44 h45 h46 h47 h48 h49 h50 h51 h52;obtain ⟨_,_,F0,m0⟩:=h0.mk X G;obtain ⟨_,_,F1,m1⟩:=h1.mk X G;obtain ⟨_,_,F2,m2⟩:=h2.mk X G;obtain ⟨_,_,F3,m3⟩:=h3.mk X G;obtain ⟨_,_,F4,m4⟩:=h4.mk X G;obtain ⟨_,_,F5,m5⟩:=h5.mk X G;obtain ⟨_,_,F6,m6⟩:=h6.mk X G;obtain ⟨_,_,F7,m7⟩:=h7.mk X G;obtain ⟨_,_,F8,m8⟩:=h8.mk X G;obtain ⟨_,_,F9,m9⟩:=h9.mk X G;obtain ⟨_,_,F10,m10⟩:=h10.mk X G;obtain ⟨_,_,F11,a11,i11,k11⟩:=h11.mk;obtain ⟨_,_,F12,a12,i12,k12⟩:=h12.mk;obtain ⟨_,_,F13,m13⟩:=h13.mk X G;obtain ⟨_,_,F14,a14,i14,k14⟩:=h14.mk;obtain ⟨_,_,F15,m15⟩:=h15.mk X G;obtain ⟨_,_,F16,m16⟩:=h16.mk X G;obtain ⟨_,_,F17,m17⟩:=h17.mk X G
 obtain ⟨_,_,F18,m18⟩:=h18.mk X G;obtain ⟨_,_,F19,m19⟩:=h19.mk X G;obtain ⟨_,_,F20,m20⟩:=h20.mk X G;obtain ⟨_,_,F21,m21⟩:=h21.mk X G;obtain ⟨_,_,F22,m22⟩:=h22.mk X G;obtain ⟨_,_,F23,m23⟩:=h23.mk X G;obtain ⟨_,_,F24,m24⟩:=h24.mk X G;obtain ⟨_,_,F25,a25,i25,k25⟩:=h25.mk;obtain ⟨_,_,F26,a26,i26,k26⟩:=h26.mk;obtain ⟨_,_,F27,a27,i27,k27⟩:=h27.mk;obtain ⟨_,_,F28,a28,i28,k28⟩:=h28.mk;obtain ⟨_,_,F29,a29,i29,k29⟩:=h29.mk;obtain ⟨_,_,F30,m30⟩:=h30.mk X G;obtain ⟨_,_,F31,m31⟩:=h31.mk X G;obtain ⟨_,_,F32,a32,i32,k32⟩:=h32.mk;obtain ⟨_,_,F33,m33⟩:=h33.mk X G;have F34:=func_mk (st:=v5) l34 c34 k34 lkL vL nL;obtain ⟨_,_,F35,a35,i35,k35⟩:=h35.mk;obtain ⟨_,_,F36,m36⟩:=h36.mk X G;obtain ⟨_,_,F37,m37⟩:=h37.mk X G;obtain ⟨_,_,F38,m38⟩:=h38.mk X G;obtain ⟨_,_,F39,m39⟩:=h39.mk X G;obtain ⟨_,_,F40,m40⟩:=h40.mk X G;obtain ⟨_,_,F41,m41⟩:=h41.mk X G;obtain ⟨_,_,F42,m42⟩:=h42.mk X G;obtain ⟨_,_,F43,m43⟩:=h43.mk X G;obtain ⟨_,_,F44,m44⟩:=h44.mk X G;obtain ⟨_,_,F45,m45⟩:=h45.mk X G;obtain ⟨_,_,F46,m46⟩:=h46.mk X G;obtain ⟨_,_,F47,m47⟩:=h47.mk X G;obtain ⟨_,_,F48,m48⟩:=h48.mk X G;obtain ⟨_,_,F49,m49⟩:=h49.mk X G;obtain ⟨_,_,F50,m50⟩:=h50.mk X G;obtain ⟨_,_,F51,m51⟩:=h51.mk X G;obtain ⟨_,_,F52,m52⟩:=h52.mk X G;have e:=hfa.symm.trans m52
 cases e
 have T:Txt K mg ⟨_,_,_,_,_,_,_,_,_,_,_,_,_,_,_,_,_,_,_,_,_,_,_,_,_,_,_,_,_,_,_,_,_,_,_,_,_,_,_,_,_,_,_,_,_,_,_,_,_,_,_,_,_,_,_,_,_,_,_,_,_,_,_,_,_,_,_,_,_,_,_,_,_,_,_,_,_,_,_,_,_,_,_,_,_,_,_,_,_,_,_,_,_,_,_,_,_,_,_,_,_,_,_,_,_,_,CC_Tableau,CC_Quest,gg_NOUGHT,gg_ONE,tk_ROUGH_BITS,gg_MINUS_ONE,CDL,tb⟩:=⟨F0,m0,fb2 F0,F1,m1,fb2 F1,F2,m2,fb2 F2,F3,m3,fb2 F3,F4,m4,fb2 F4,F5,m5,fb2 F5,F6,m6,fb3 F6,F7,m7,fb1 F7,F8,m8,fb1 F8,F9,m9,fb1 F9,F10,m10,fb4 F10,F11,⟨a11,i11,k11⟩,fb5 F11,F12,⟨a12,i12,k12⟩,fb3 F12,F13,m13,fb2 F13,F14,⟨a14,i14,k14⟩,fb1 F14,F15,m15,fb3 F15,F16,m16,fb1 F16,F17,m17,fb1 F17,F18,m18,fb1 F18,F19,m19,fb1 F19,F20,m20,fb2 F20,F21,m21,fb2 F21,F22,m22,fb2 F22,F23,m23,fb1 F23,F24,m24,fb2 F24,F25,⟨a25,i25,k25⟩,fb1 F25,F26,⟨a26,i26,k26⟩,fb3 F26,F27,⟨a27,i27,k27⟩,fb2 F27,F28,⟨a28,i28,k28⟩,fb2 F28,F29,⟨a29,i29,k29⟩,fb1 F29,F30,m30,fb1 F30,F31,m31,fb1 F31,F32,⟨mkTableau,a32,i32,kcTableau⟩,fb3 F32,F33,m33,fb4 F33,F34,PySem.W.mg_of X G a34,F34.binds (ps:=["tableau", "wanted"]) fun _ _ _ _ _ _ us hl=>match us,hl with | [_,_],_=>rfl,F35,⟨mkQuest,a35,i35,kcQuest⟩,fb5 F35,F36,m36,fb1 F36,F37,m37,fb2 F37,F38,m38,fb2 F38,F39,m39,fb2 F39,F40,m40,fb5 F40,F41,m41,fb1 F41,F42,m42,fb1 F42,F43,m43,fb2 F43,F44,m44,fb2 F44,F45,m45,fb2 F45,F46,m46,fb2 F46,F47,m47,fb3 F47,F48,m48,fb2 F48,F49,m49,fb2 F49,F50,m50,fb2 F50,F51,m51,fb3 F51,F52,m52,fb1 F52,PySem.W.mg_none_of X G z0,PySem.W.mg_none_of X G z1,PySem.W.mg_none_of X G z2,PySem.W.mg_none_of X G z3,PySem.W.mg_none_of X G z4,PySem.W.mg_none_of X G z5,PySem.W.mg_none_of X G z6,PySem.W.mg_none_of X G z7,PySem.W.mg_none_of X G z8,PySem.W.mg_none_of X G z9,PySem.W.mg_none_of X G z10,PySem.W.mg_none_of X G z11,PySem.W.mg_none_of X G z12,PySem.W.mg_none_of X G z13,PySem.W.mg_none_of X G z14,PySem.W.mg_none_of X G z15,⟨pgTableau,hdTableau,poTableau,saTableau⟩,PySem.W.mg_of X G gTableau,naTableau_rooms,naTableau_bottom,naTableau_lines,naTableau_names,naTableau_heads,naTableau_goal,naTableau_guide,⟨pgQuest,hdQuest,poQuest,saQuest⟩,PySem.W.mg_of X G gQuest,naQuest_tableau,naQuest_many,naQuest_scales,naQuest_aim,PySem.W.mg_of X G qNOUGHT,fun _=>.inr ⟨_,_,_,qlNOUGHT,rfl,rfl,(by show 2≤sizeLine; decide),(.cons ⟨_,rfl⟩ (.cons ⟨_,rfl⟩ .nil))⟩,PySem.W.mg_of X G qONE,fun _=>.inr ⟨_,_,_,qlONE,rfl,rfl,(by show 2≤sizeLine; decide),(.cons ⟨_,rfl⟩ (.cons ⟨_,rfl⟩ .nil))⟩,PySem.W.mg_of X G qROUGH_BITS,PySem.W.mg_of X G qMINUS_ONE,fun _=>.inr ⟨_,_,_,qlMINUS_ONE,rfl,rfl,(by show 2≤sizeLine; decide),(.cons ⟨_,rfl⟩ (.cons ⟨_,rfl⟩ .nil))⟩⟩
 obtain ⟨_,_,_,_,_,_,_,_,_,rfl,_,_⟩:=F52.ex;exact ⟨_,fun s v=>.of_eq rfl,fun base _ _ B=>oky1 T B⟩
theorem tab_mk {K:Bc} {tb:Addr} (pins:Pins K tb):∃ c,(∀ h:Heap,K.In h→PySem.W.CodeHd h c tb)∧K.lookup tb=none:=by
 refine pins _ ?_
 intros
 rename_i lkL vL nL _ _ _ _ _ _ _ _ _ _ _ _ _ _ _ _ _ _ _ _ _ _ _ _ _ _ _ _ _ _ _ _ _ _ _ _ _ _ _ _ _ _ _ _ _ _ _ _ _ _ _ _ _ _ _ _ _ _ _ _ _ _ _ _ _ _ _ _ _ _ _ _ _ _ _ _ _ _ _ _ _ _ _ _ _ _ _ _ _ _ _ _ _ _ _ _ _ _
 exact ⟨_,codeHd_of lkL vL nL,nL⟩
theorem walk {l:PySem.W.OpenLaw} {q:Program} {loose:List Str} {XP:(Str→Option Value)→Heap→Prop} {YP:World→Heap→Prop} {d:DefRec} {K:Params→Bc} {tb:Addr} (hn:l.most=some 63) (hdf:d.params.defaults=[])
  (hY:∀ (w:World) (h:Heap),YP w h→(K w.params).In h) (hT:∀ (w:World) (h:Heap),YP w h→h.get? tb=some (PySem.W.tabObj #[])) (hC:∀ w:World,∃ c,(∀ h:Heap,(K w.params).In h→PySem.W.CodeHd h c tb)∧(K w.params).lookup tb=none)
  (F:∀ (w:World) (mg:Str→Option Value) (fa:Addr) (h:Heap),(K w.params).In h→h.Ns mainGlobals mg→mg d.name=some (.ref fa)→∃ fd:FuncData,(∀ (s:Shared) (u:Value),BindsTo s fd ⟨[u],[]⟩ [("_law_script",u)])∧∀ base:Heap,(K w.params).In base→base.Ns mainGlobals mg→BMain mg base→FnOk l.prog w (K w.params) mg base CX0 9 fa fd ["_law_script"] (spLaw (K w.params) tb)) :
  PySem.W.WalkO q loose XP YP l.row.toRowW d [] (fun f vs=>PySem.call f vs) :=
 L2.walk_ofT (n:=63) (k:=9) (x := "_law_script") (sp:=fun w=>spLaw (K w.params) tb) hn (by decide) hdf ⟨rfl,by decide,by decide⟩ hY hT hC F (fun _ _ a ns hl hT hS=>⟨a,ns,rfl,hS,hl,hT,fun _=>rfl⟩)
end BP
open PySem PySem.W PyProof.Rows
set_option maxRecDepth 100000 in
set_option maxHeartbeats 0 in
theorem PySem.Challenge.cw_bendproof_k36_one_of_three_holds : PySem.Challenge.rw_bendproof_k36_one_of_three.Holds := by
 refine BP.early fun hd hn hY hT hP=>BP.walk (l:=PySem.Challenge.rw_bendproof_k36_one_of_three) rfl hd hY hT (fun w=>BP.tab_mk (hP w)) fun w mg fa h KX G hmg=>?_
 rw [hn] at hmg;exact BP.all_mk KX G hmg (hP w)
