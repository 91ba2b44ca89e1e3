import PyProof.Rows.All
import Wide.All
import OpenK.AllK
import Wide.FinOn
import Lean
import PyProof.EqAt
import PyProof.EqKinds
import PyProof.TupleCall
import PySem.Challenge.RW_bendproof_k72_texts_refused
set_option Elab.async false
set_option linter.all false
set_option maxRecDepth 100000
set_option maxHeartbeats 4000000
namespace L2
open PySem
def inClass (s : Stmt) (j : Nat) : Stmt := match s with
  | .ClassDef _ _ _ body _ _ _ _ _ _ _ => body.getD j (.Pass ⟨0, 0, 0, 0⟩)
  | _ => .Pass ⟨0, 0, 0, 0⟩
def zQ (s : Stmt) : Arguments := match s with
  | .FunctionDef _ a _ _ _ _ _ _ _ _ => a
  | _ => { posonlyargs := [], args := [], vararg := none, kwonlyargs := [], kw_defaults := [], kwarg := none, defaults := [] }
def zz (s : Stmt) : List Stmt := match s with
  | .FunctionDef _ _ b _ _ _ _ _ _ _ => b
  | _ => []
def qQ (s : Stmt) : Scope := match s with
  | .FunctionDef _ _ _ _ _ _ sc _ _ _ => sc
  | _ => { kind := .function, names := [], isGenerator := false, isCoroutine := false }
end L2
namespace BP
open PySem L2
def top (i : Nat) : Stmt := PySem.Challenge.pw_bendproof_k72_texts_refused.main.body.getD i (.Pass ⟨0, 0, 0, 0⟩)
abbrev wW : Stmt := top 41
abbrev xZ : Stmt := top 42
abbrev Q9 : Stmt := top 43
abbrev j6 : Stmt := top 44
abbrev Qq : Stmt := top 45
abbrev v9 : Stmt := top 46
abbrev xy : Stmt := top 47
abbrev jX : Stmt := top 48
abbrev yQ : Stmt := top 49
abbrev jy : Stmt := top 53
abbrev yX : Stmt := top 54
abbrev yW : Stmt := top 55
abbrev jq : Stmt := top 56
abbrev xk : Stmt := top 33
abbrev Qx : Stmt := inClass (top 34) 1
abbrev jK : Stmt := top 57
abbrev jJ : Stmt := top 19
abbrev jw : Stmt := top 38
abbrev Y7 : Stmt := top 13
abbrev Qz : Stmt := top 12
abbrev Qj : Stmt := top 15
abbrev vV : Stmt := top 27
abbrev s_plain : Stmt := top 16
abbrev j7 : Stmt := top 28
abbrev yY : Stmt := top 29
abbrev yK : Stmt := top 30
abbrev yy : Stmt := top 31
abbrev ww : Stmt := top 32
abbrev vQ : Stmt := inClass (top 34) 0
abbrev Q8 : Stmt := top 20
abbrev s_ratio : Stmt := top 14
abbrev vK : Stmt := top 17
abbrev Q4 : Stmt := top 18
abbrev xj : Stmt := top 21
abbrev xv : Stmt := top 36
abbrev v8 : Stmt := top 37
abbrev jW : Stmt := top 39
abbrev jk : Stmt := top 60
abbrev jx : Stmt := top 58
abbrev y9 : Stmt := top 59
abbrev xQ : Stmt := top 50
abbrev xw : Stmt := top 51
abbrev wJ : Stmt := top 52
abbrev s_law : Stmt := top 61
def view : Program := { PySem.Challenge.pw_bendproof_k72_texts_refused with main := { PySem.Challenge.pw_bendproof_k72_texts_refused.main with body := [top 61] } }
def others : List Str := [Str.ofString "_wall", Str.ofString "BendError", Str.ofString "NoRatio", Str.ofString "NoText", Str.ofString "NoBox", Str.ofString "NoNet", Str.ofString "Unlike", Str.ofString "NoLine", Str.ofString "FIGURES", Str.ofString "MOST_FIGURES", Str.ofString "is_whole", Str.ofString "common", Str.ofString "ratio", Str.ofString "is_ratio", Str.ofString "plain", Str.ofString "figures", Str.ofString "shown", Str.ofString "read_whole", Str.ofString "read_top", Str.ofString "read", Str.ofString "MOST_INS", Str.ofString "MOST_UNITS", Str.ofString "MOST_BENDS", Str.ofString "MOST_OUTS", Str.ofString "checked_place", Str.ofString "checked_term", Str.ofString "checked_sum", Str.ofString "checked_unit", Str.ofString "checked_units", Str.ofString "checked_outs", Str.ofString "told_unit", Str.ofString "Net", Str.ofString "read_term", Str.ofString "read_unit", Str.ofString "read_places", Str.ofString "read_net", Str.ofString "_law_cell_at", Str.ofString "_law_mixed", Str.ofString "_law_wide", Str.ofString "_law_seeds", Str.ofString "_law_part", Str.ofString "_law_taken", Str.ofString "_law_small", Str.ofString "_law_unit", Str.ofString "_law_net", Str.ofString "_law_shown", Str.ofString "_law_words", Str.ofString "_law_rows", Str.ofString "_law_figures", Str.ofString "_law_ratio", Str.ofString "_law_unit_of", Str.ofString "_law_read", Str.ofString "_law_is_net", Str.ofString "_law_odd", Str.ofString "_law_spoilt", Str.ofString "_law_asked"]
theorem map_pair {α β γ : Type} {o : Option α} {f : α → β} {g : α → γ} {x : β} {y : γ} (h1 : o.map f = some x) (h2 : o.map g = some y) : o.map (fun s => (f s, g s)) = some (x, y) := by
  cases o with
  | none => cases h1
  | some s =>
    have a := Option.some.inj h1
    have b := Option.some.inj h2
    rw [← a, ← b]
    rfl
open PySem.W in
def Seen (r : OpenRow) (q : Program) (ls : List Str) (N : Nat) : Prop := ∀ w, (openEnds treeTable r.prog w N).map (fun s => openSeen q ls (importedModules r.prog.main.body) (fun s => xlAt q [] s && recOk r.toRowW.records s) true s) = some (openGood q ls)
open PySem.W in
theorem left_two {r : OpenRow} {q : Program} {ls : List Str} {N : Nat} {α : Type} {Yf : Shared → α} {Ya : World → α} (A : Seen r q ls N) (B : ∀ w, (openEnds treeTable r.prog w N).map Yf = some (Ya w)) :
    LeftO r.prog q ls (fun s => xlAt q [] s && recOk r.toRowW.records s) Yf Ya N := fun w => map_pair (A w) (B w)
open PySem.W in
theorem head {r : OpenRow} {q : Program} {ls : List Str} {d : DefRec} {kwd : List (Str × Expr)} (H : Hook) (N : Nat)
    (A : Seen r q ls N) (B : ∀ w, (openEnds treeTable r.prog w N).map H.obs = some (H.val w))
    (df : defOf q r.name = some (d, kwd)) (pd : r.prog.theDef r.name = some (d.params, d.body, d.scope))
    (kw : kwWritten? d.params.kwonlyargs d.params.kw_defaults = some kwd) (wr : (!r.writes || r.records.isEmpty) = true) (sd : r.wellSaid = true)
    (ok : (chainsOk q && opensWell r.prog && (frees r.toRowW && r.within.isEmpty)) = true) (br : r.prog.bare) (pr : r.toRowW.promised)
    (cl : WalkO q ls (XL q []) H.says r.toRowW d kwd fun f vs => PySem.call f vs) : r.Holds :=
  have both : ∀ s : Shared, (xlAt q [] s && recOk r.toRowW.records s) = true → xlAt q [] s = true ∧ recOk r.toRowW.records s = true := fun s e => by simpa using e
  holds_open (left_two A B) H.of H.keeps (fun s e => xl_of s (both s e).1) XL.keeps df pd kw (fun s e => recFacts_of (both s e).2) wr sd ok br pr cl
set_option maxHeartbeats 0 in
theorem seen : Seen (PySem.Challenge.rw_bendproof_k72_texts_refused).row view others 6000 := by
  intro w
  delta PySem.W.openEnds PySem.W.fencedOpening PySem.W.topFrom
  rw [PySem.W.Fast.te14364793385576792824, PySem.W.Fast.te10274390034422433532, PySem.W.Fast.te14082659384304107361, PySem.W.Fast.te14289696077712309145, PySem.W.Fast.te1435165496053646825, PySem.W.Fast.te8920871248978507458, PySem.W.Fast.te5923862056798008813, PySem.W.Fast.te4187177175401517315]
  delta PySem.W.Fast.tw4187177175401517315 PySem.W.openGood
  dsimp only
  kernel_rfl
def Pins (K : PySem.W.Frag) : Prop := ∀ C : Prop, (∀ {CC_Net : Addr} {f0 : Addr} {od0 an0 : Option Addr} {sl0 : Array (Option Value)} {oc0 kV0 dc0 pm0 cd0 ct0 : Value} {f1 : Addr} {od1 an1 : Option Addr} {sl1 : Array (Option Value)} {oc1 kV1 dc1 pm1 cd1 ct1 : Value} {f2 : Addr} {od2 an2 : Option Addr} {sl2 : Array (Option Value)} {oc2 kV2 dc2 pm2 cd2 ct2 : Value} {f3 : Addr} {od3 an3 : Option Addr} {sl3 : Array (Option Value)} {oc3 kV3 dc3 pm3 cd3 ct3 : Value} {f4 : Addr} {od4 an4 : Option Addr} {sl4 : Array (Option Value)} {oc4 kV4 dc4 pm4 cd4 ct4 : Value} {f5 : Addr} {od5 an5 : Option Addr} {sl5 : Array (Option Value)} {oc5 kV5 dc5 pm5 cd5 ct5 : Value} {f6 : Addr} {od6 an6 : Option Addr} {sl6 : Array (Option Value)} {oc6 kV6 dc6 pm6 cd6 ct6 : Value} {f7 : Addr} {od7 an7 : Option Addr} {sl7 : Array (Option Value)} {oc7 kV7 dc7 pm7 cd7 ct7 : Value} {f8 : Addr} {od8 an8 : Option Addr} {sl8 : Array (Option Value)} {oc8 kV8 dc8 pm8 cd8 ct8 : Value} {f9 : Addr} {od9 an9 : Option Addr} {sl9 : Array (Option Value)} {oc9 kV9 dc9 pm9 cd9 ct9 : Value} {f10 : Addr} {od10 an10 : Option Addr} {sl10 : Array (Option Value)} {oc10 kV10 dc10 pm10 cd10 ct10 : Value} {f11 : Addr} {od11 an11 : Option Addr} {sl11 : Array (Option Value)} {oc11 kV11 dc11 pm11 cd11 ct11 : Value} {f12 : Addr} {od12 an12 : Option Addr} {sl12 : Array (Option Value)} {oc12 kV12 dc12 pm12 cd12 ct12 : Value} {f13 : Addr} {od13 an13 : Option Addr} {sl13 : Array (Option Value)} {oc13 kV13 dc13 pm13 cd13 ct13 : Value} {f14 : Addr} {od14 an14 : Option Addr} {sl14 : Array (Option Value)} {oc14 kV14 dc14 pm14 cd14 ct14 : Value} {f15 : Addr} {od15 an15 : Option Addr} {sl15 : Array (Option Value)} {oc15 kV15 dc15 pm15 cd15 ct15 : Value} {f16 : Addr} {od16 an16 : Option Addr} {sl16 : Array (Option Value)} {oc16 kV16 dc16 pm16 cd16 ct16 : Value} {f17 : Addr} {od17 an17 : Option Addr} {sl17 : Array (Option Value)} {oc17 kV17 dc17 pm17 cd17 ct17 : Value} {f18 : Addr} {od18 an18 : Option Addr} {sl18 : Array (Option Value)} {oc18 kV18 dc18 pm18 cd18 ct18 : Value} {f19 : Addr} {od19 an19 : Option Addr} {sl19 : Array (Option Value)} {oc19 kV19 dc19 pm19 cd19 ct19 : Value} {f20 : Addr} {od20 an20 : Option Addr} {sl20 : Array (Option Value)} {oc20 kV20 dc20 pm20 cd20 ct20 : Value} {f21 : Addr} {od21 an21 : Option Addr} {sl21 : Array (Option Value)} {oc21 kV21 dc21 pm21 cd21 ct21 : Value} {f22 : Addr} {od22 an22 : Option Addr} {sl22 : Array (Option Value)} {oc22 kV22 dc22 pm22 cd22 ct22 : Value} {f23 : Addr} {od23 an23 : Option Addr} {sl23 : Array (Option Value)} {oc23 kV23 dc23 pm23 cd23 ct23 : Value} {f24 : Addr} {od24 an24 : Option Addr} {sl24 : Array (Option Value)} {oc24 kV24 dc24 pm24 cd24 ct24 : Value} {f25 : Addr} {od25 an25 : Option Addr} {sl25 : Array (Option Value)} {oc25 kV25 dc25 pm25 cd25 ct25 : Value} {f26 : Addr} {od26 an26 : Option Addr} {sl26 : Array (Option Value)} {oc26 kV26 dc26 pm26 cd26 ct26 : Value} {f27 : Addr} {od27 an27 : Option Addr} {sl27 : Array (Option Value)} {oc27 kV27 dc27 pm27 cd27 ct27 : Value} {f28 : Addr} {od28 an28 : Option Addr} {sl28 : Array (Option Value)} {oc28 kV28 dc28 pm28 cd28 ct28 : Value} {f29 : Addr} {od29 an29 : Option Addr} {sl29 : Array (Option Value)} {oc29 kV29 dc29 pm29 cd29 ct29 : Value} {f30 : Addr} {od30 an30 : Option Addr} {sl30 : Array (Option Value)} {oc30 kV30 dc30 pm30 cd30 ct30 : Value} {f31 : Addr} {od31 an31 : Option Addr} {sl31 : Array (Option Value)} {oc31 kV31 dc31 pm31 cd31 ct31 : Value} {f32 : Addr} {od32 an32 : Option Addr} {sl32 : Array (Option Value)} {oc32 kV32 dc32 pm32 cd32 ct32 : Value} {f33 : Addr} {od33 an33 : Option Addr} {sl33 : Array (Option Value)} {oc33 kV33 dc33 pm33 cd33 ct33 : Value} {f34 : Addr} {od34 an34 : Option Addr} {sl34 : Array (Option Value)} {oc34 kV34 dc34 pm34 cd34 ct34 : Value} {f35 : Addr} {od35 an35 : Option Addr} {sl35 : Array (Option Value)} {oc35 kV35 dc35 pm35 cd35 ct35 : Value} {f36 : Addr} {od36 an36 : Option Addr} {sl36 : Array (Option Value)} {oc36 kV36 dc36 pm36 cd36 ct36 : Value} {f37 : Addr} {od37 an37 : Option Addr} {sl37 : Array (Option Value)} {oc37 kV37 dc37 pm37 cd37 ct37 : Value} {f38 : Addr} {od38 an38 : Option Addr} {sl38 : Array (Option Value)} {oc38 kV38 dc38 pm38 cd38 ct38 : Value} {f39 : Addr} {od39 an39 : Option Addr} {sl39 : Array (Option Value)} {oc39 kV39 dc39 pm39 cd39 ct39 : Value} {f40 : Addr} {od40 an40 : Option Addr} {sl40 : Array (Option Value)} {oc40 kV40 dc40 pm40 cd40 ct40 : Value} {f41 : Addr} {od41 an41 : Option Addr} {sl41 : Array (Option Value)} {oc41 kV41 dc41 pm41 cd41 ct41 : Value} {f42 : Addr} {od42 an42 : Option Addr} {sl42 : Array (Option Value)} {oc42 kV42 dc42 pm42 cd42 ct42 : Value} {f43 : Addr} {od43 an43 : Option Addr} {sl43 : Array (Option Value)} {oc43 kV43 dc43 pm43 cd43 ct43 : Value} {C0 C1 C2 C3 C4 C5 C6 : Addr} {tk_MOST_FIGURES : Tok} {tk_FIGURES : Tok} {tk_MOST_BENDS : Tok} {tk_MOST_UNITS : Tok} {tk_MOST_OUTS : Tok} {tk_MOST_INS : Tok}
    (a0 : PySem.W.nsIn K mainGlobals "_law_cell_at" = some (some (.ref f0))) (l0 : K.lookup f0 = some ⟨oc0, od0, .func (PySem.W.fnOf "_law_cell_at" "_law_cell_at" (zQ wW) (zz wW) (qQ wW) .none kV0 dc0 pm0 an0 cd0 ct0), sl0⟩) (c0 : PySem.W.codeIn K cd0 "_law_cell_at" = true) (k0 : PySem.W.keepIn K (.ref f0) = true)
    (a1 : PySem.W.nsIn K mainGlobals "_law_mixed" = some (some (.ref f1))) (l1 : K.lookup f1 = some ⟨oc1, od1, .func (PySem.W.fnOf "_law_mixed" "_law_mixed" (zQ xZ) (zz xZ) (qQ xZ) .none kV1 dc1 pm1 an1 cd1 ct1), sl1⟩) (c1 : PySem.W.codeIn K cd1 "_law_mixed" = true) (k1 : PySem.W.keepIn K (.ref f1) = true)
    (a2 : PySem.W.nsIn K mainGlobals "_law_wide" = some (some (.ref f2))) (l2 : K.lookup f2 = some ⟨oc2, od2, .func (PySem.W.fnOf "_law_wide" "_law_wide" (zQ Q9) (zz Q9) (qQ Q9) .none kV2 dc2 pm2 an2 cd2 ct2), sl2⟩) (c2 : PySem.W.codeIn K cd2 "_law_wide" = true) (k2 : PySem.W.keepIn K (.ref f2) = true)
    (a3 : PySem.W.nsIn K mainGlobals "_law_seeds" = some (some (.ref f3))) (l3 : K.lookup f3 = some ⟨oc3, od3, .func (PySem.W.fnOf "_law_seeds" "_law_seeds" (zQ j6) (zz j6) (qQ j6) .none kV3 dc3 pm3 an3 cd3 ct3), sl3⟩) (c3 : PySem.W.codeIn K cd3 "_law_seeds" = true) (k3 : PySem.W.keepIn K (.ref f3) = true)
    (a4 : PySem.W.nsIn K mainGlobals "_law_part" = some (some (.ref f4))) (l4 : K.lookup f4 = some ⟨oc4, od4, .func (PySem.W.fnOf "_law_part" "_law_part" (zQ Qq) (zz Qq) (qQ Qq) .none kV4 dc4 pm4 an4 cd4 ct4), sl4⟩) (c4 : PySem.W.codeIn K cd4 "_law_part" = true) (k4 : PySem.W.keepIn K (.ref f4) = true)
    (a5 : PySem.W.nsIn K mainGlobals "_law_taken" = some (some (.ref f5))) (l5 : K.lookup f5 = some ⟨oc5, od5, .func (PySem.W.fnOf "_law_taken" "_law_taken" (zQ v9) (zz v9) (qQ v9) .none kV5 dc5 pm5 an5 cd5 ct5), sl5⟩) (c5 : PySem.W.codeIn K cd5 "_law_taken" = true) (k5 : PySem.W.keepIn K (.ref f5) = true)
    (a6 : PySem.W.nsIn K mainGlobals "_law_small" = some (some (.ref f6))) (l6 : K.lookup f6 = some ⟨oc6, od6, .func (PySem.W.fnOf "_law_small" "_law_small" (zQ xy) (zz xy) (qQ xy) .none kV6 dc6 pm6 an6 cd6 ct6), sl6⟩) (c6 : PySem.W.codeIn K cd6 "_law_small" = true) (k6 : PySem.W.keepIn K (.ref f6) = true)
    (a7 : PySem.W.nsIn K mainGlobals "_law_unit" = some (some (.ref f7))) (l7 : K.lookup f7 = some ⟨oc7, od7, .func (PySem.W.fnOf "_law_unit" "_law_unit" (zQ jX) (zz jX) (qQ jX) .none kV7 dc7 pm7 an7 cd7 ct7), sl7⟩) (c7 : PySem.W.codeIn K cd7 "_law_unit" = true) (k7 : PySem.W.keepIn K (.ref f7) = true)
    (a8 : PySem.W.nsIn K mainGlobals "_law_net" = some (some (.ref f8))) (l8 : K.lookup f8 = some ⟨oc8, od8, .func (PySem.W.fnOf "_law_net" "_law_net" (zQ yQ) (zz yQ) (qQ yQ) .none kV8 dc8 pm8 an8 cd8 ct8), sl8⟩) (c8 : PySem.W.codeIn K cd8 "_law_net" = true) (k8 : PySem.W.keepIn K (.ref f8) = true)
    (a9 : PySem.W.nsIn K mainGlobals "_law_figures" = some (some (.ref f9))) (l9 : K.lookup f9 = some ⟨oc9, od9, .func (PySem.W.fnOf "_law_figures" "_law_figures" (zQ jy) (zz jy) (qQ jy) .none kV9 dc9 pm9 an9 cd9 ct9), sl9⟩) (c9 : PySem.W.codeIn K cd9 "_law_figures" = true) (k9 : PySem.W.keepIn K (.ref f9) = true)
    (a10 : PySem.W.nsIn K mainGlobals "_law_ratio" = some (some (.ref f10))) (l10 : K.lookup f10 = some ⟨oc10, od10, .func (PySem.W.fnOf "_law_ratio" "_law_ratio" (zQ yX) (zz yX) (qQ yX) .none kV10 dc10 pm10 an10 cd10 ct10), sl10⟩) (c10 : PySem.W.codeIn K cd10 "_law_ratio" = true) (k10 : PySem.W.keepIn K (.ref f10) = true)
    (a11 : PySem.W.nsIn K mainGlobals "_law_unit_of" = some (some (.ref f11))) (l11 : K.lookup f11 = some ⟨oc11, od11, .func (PySem.W.fnOf "_law_unit_of" "_law_unit_of" (zQ yW) (zz yW) (qQ yW) .none kV11 dc11 pm11 an11 cd11 ct11), sl11⟩) (c11 : PySem.W.codeIn K cd11 "_law_unit_of" = true) (k11 : PySem.W.keepIn K (.ref f11) = true)
    (a12 : PySem.W.nsIn K mainGlobals "_law_read" = some (some (.ref f12))) (l12 : K.lookup f12 = some ⟨oc12, od12, .func (PySem.W.fnOf "_law_read" "_law_read" (zQ jq) (zz jq) (qQ jq) .none kV12 dc12 pm12 an12 cd12 ct12), sl12⟩) (c12 : PySem.W.codeIn K cd12 "_law_read" = true) (k12 : PySem.W.keepIn K (.ref f12) = true)
    (a13 : PySem.W.nsIn K mainGlobals "told_unit" = some (some (.ref f13))) (l13 : K.lookup f13 = some ⟨oc13, od13, .func (PySem.W.fnOf "told_unit" "told_unit" (zQ xk) (zz xk) (qQ xk) .none kV13 dc13 pm13 an13 cd13 ct13), sl13⟩) (c13 : PySem.W.codeIn K cd13 "told_unit" = true) (k13 : PySem.W.keepIn K (.ref f13) = true)
    (a14 : PySem.W.findIn K (.ref CC_Net) "told" = some (some (.ref f14))) (i14 : PySem.W.isFn K (.ref f14) = true) (l14 : K.lookup f14 = some ⟨oc14, od14, .func (PySem.W.fnOf "told" "Net.told" (zQ Qx) (zz Qx) (qQ Qx) .none kV14 dc14 pm14 an14 cd14 ct14), sl14⟩) (c14 : PySem.W.codeIn K cd14 "Net.told" = true) (k14 : PySem.W.keepIn K (.ref f14) = true)
    (a15 : PySem.W.nsIn K mainGlobals "_law_is_net" = some (some (.ref f15))) (l15 : K.lookup f15 = some ⟨oc15, od15, .func (PySem.W.fnOf "_law_is_net" "_law_is_net" (zQ jK) (zz jK) (qQ jK) .none kV15 dc15 pm15 an15 cd15 ct15), sl15⟩) (c15 : PySem.W.codeIn K cd15 "_law_is_net" = true) (k15 : PySem.W.keepIn K (.ref f15) = true)
    (a16 : PySem.W.nsIn K mainGlobals "read_whole" = some (some (.ref f16))) (l16 : K.lookup f16 = some ⟨oc16, od16, .func (PySem.W.fnOf "read_whole" "read_whole" (zQ jJ) (zz jJ) (qQ jJ) .none kV16 dc16 pm16 an16 cd16 ct16), sl16⟩) (c16 : PySem.W.codeIn K cd16 "read_whole" = true) (k16 : PySem.W.keepIn K (.ref f16) = true)
    (a17 : PySem.W.nsIn K mainGlobals "read_places" = some (some (.ref f17))) (l17 : K.lookup f17 = some ⟨oc17, od17, .func (PySem.W.fnOf "read_places" "read_places" (zQ jw) (zz jw) (qQ jw) .none kV17 dc17 pm17 an17 cd17 ct17), sl17⟩) (c17 : PySem.W.codeIn K cd17 "read_places" = true) (k17 : PySem.W.keepIn K (.ref f17) = true)
    (a18 : PySem.W.nsIn K mainGlobals "common" = some (some (.ref f18))) (l18 : K.lookup f18 = some ⟨oc18, od18, .func (PySem.W.fnOf "common" "common" (zQ Y7) (zz Y7) (qQ Y7) .none kV18 dc18 pm18 an18 cd18 ct18), sl18⟩) (c18 : PySem.W.codeIn K cd18 "common" = true) (k18 : PySem.W.keepIn K (.ref f18) = true)
    (a19 : PySem.W.nsIn K mainGlobals "is_whole" = some (some (.ref f19))) (l19 : K.lookup f19 = some ⟨oc19, od19, .func (PySem.W.fnOf "is_whole" "is_whole" (zQ Qz) (zz Qz) (qQ Qz) .none kV19 dc19 pm19 an19 cd19 ct19), sl19⟩) (c19 : PySem.W.codeIn K cd19 "is_whole" = true) (k19 : PySem.W.keepIn K (.ref f19) = true)
    (a20 : PySem.W.nsIn K mainGlobals "is_ratio" = some (some (.ref f20))) (l20 : K.lookup f20 = some ⟨oc20, od20, .func (PySem.W.fnOf "is_ratio" "is_ratio" (zQ Qj) (zz Qj) (qQ Qj) .none kV20 dc20 pm20 an20 cd20 ct20), sl20⟩) (c20 : PySem.W.codeIn K cd20 "is_ratio" = true) (k20 : PySem.W.keepIn K (.ref f20) = true)
    (a21 : PySem.W.nsIn K mainGlobals "checked_place" = some (some (.ref f21))) (l21 : K.lookup f21 = some ⟨oc21, od21, .func (PySem.W.fnOf "checked_place" "checked_place" (zQ vV) (zz vV) (qQ vV) .none kV21 dc21 pm21 an21 cd21 ct21), sl21⟩) (c21 : PySem.W.codeIn K cd21 "checked_place" = true) (k21 : PySem.W.keepIn K (.ref f21) = true)
    (a22 : PySem.W.nsIn K mainGlobals "plain" = some (some (.ref f22))) (l22 : K.lookup f22 = some ⟨oc22, od22, .func (PySem.W.fnOf "plain" "plain" (zQ s_plain) (zz s_plain) (qQ s_plain) .none kV22 dc22 pm22 an22 cd22 ct22), sl22⟩) (c22 : PySem.W.codeIn K cd22 "plain" = true) (k22 : PySem.W.keepIn K (.ref f22) = true)
    (a23 : PySem.W.nsIn K mainGlobals "checked_term" = some (some (.ref f23))) (l23 : K.lookup f23 = some ⟨oc23, od23, .func (PySem.W.fnOf "checked_term" "checked_term" (zQ j7) (zz j7) (qQ j7) .none kV23 dc23 pm23 an23 cd23 ct23), sl23⟩) (c23 : PySem.W.codeIn K cd23 "checked_term" = true) (k23 : PySem.W.keepIn K (.ref f23) = true)
    (a24 : PySem.W.nsIn K mainGlobals "checked_sum" = some (some (.ref f24))) (l24 : K.lookup f24 = some ⟨oc24, od24, .func (PySem.W.fnOf "checked_sum" "checked_sum" (zQ yY) (zz yY) (qQ yY) .none kV24 dc24 pm24 an24 cd24 ct24), sl24⟩) (c24 : PySem.W.codeIn K cd24 "checked_sum" = true) (k24 : PySem.W.keepIn K (.ref f24) = true)
    (a25 : PySem.W.nsIn K mainGlobals "checked_unit" = some (some (.ref f25))) (l25 : K.lookup f25 = some ⟨oc25, od25, .func (PySem.W.fnOf "checked_unit" "checked_unit" (zQ yK) (zz yK) (qQ yK) .none kV25 dc25 pm25 an25 cd25 ct25), sl25⟩) (c25 : PySem.W.codeIn K cd25 "checked_unit" = true) (k25 : PySem.W.keepIn K (.ref f25) = true)
    (a26 : PySem.W.nsIn K mainGlobals "checked_units" = some (some (.ref f26))) (l26 : K.lookup f26 = some ⟨oc26, od26, .func (PySem.W.fnOf "checked_units" "checked_units" (zQ yy) (zz yy) (qQ yy) .none kV26 dc26 pm26 an26 cd26 ct26), sl26⟩) (c26 : PySem.W.codeIn K cd26 "checked_units" = true) (k26 : PySem.W.keepIn K (.ref f26) = true)
    (a27 : PySem.W.nsIn K mainGlobals "checked_outs" = some (some (.ref f27))) (l27 : K.lookup f27 = some ⟨oc27, od27, .func (PySem.W.fnOf "checked_outs" "checked_outs" (zQ ww) (zz ww) (qQ ww) .none kV27 dc27 pm27 an27 cd27 ct27), sl27⟩) (c27 : PySem.W.codeIn K cd27 "checked_outs" = true) (k27 : PySem.W.keepIn K (.ref f27) = true)
    (a28 : PySem.W.findIn K (.ref CC_Net) "__init__" = some (some (.ref f28))) (i28 : PySem.W.isFn K (.ref f28) = true) (l28 : K.lookup f28 = some ⟨oc28, od28, .func (PySem.W.fnOf "__init__" "Net.__init__" (zQ vQ) (zz vQ) (qQ vQ) .none kV28 dc28 pm28 an28 cd28 ct28), sl28⟩) (c28 : PySem.W.codeIn K cd28 "Net.__init__" = true) (k28 : PySem.W.keepIn K (.ref f28) = true)
    (a29 : PySem.W.nsIn K mainGlobals "read_top" = some (some (.ref f29))) (l29 : K.lookup f29 = some ⟨oc29, od29, .func (PySem.W.fnOf "read_top" "read_top" (zQ Q8) (zz Q8) (qQ Q8) .none kV29 dc29 pm29 an29 cd29 ct29), sl29⟩) (c29 : PySem.W.codeIn K cd29 "read_top" = true) (k29 : PySem.W.keepIn K (.ref f29) = true)
    (a30 : PySem.W.nsIn K mainGlobals "ratio" = some (some (.ref f30))) (l30 : K.lookup f30 = some ⟨oc30, od30, .func (PySem.W.fnOf "ratio" "ratio" (zQ s_ratio) (zz s_ratio) (qQ s_ratio) .none kV30 dc30 pm30 an30 cd30 ct30), sl30⟩) (c30 : PySem.W.codeIn K cd30 "ratio" = true) (k30 : PySem.W.keepIn K (.ref f30) = true)
    (a31 : PySem.W.nsIn K mainGlobals "figures" = some (some (.ref f31))) (l31 : K.lookup f31 = some ⟨oc31, od31, .func (PySem.W.fnOf "figures" "figures" (zQ vK) (zz vK) (qQ vK) .none kV31 dc31 pm31 an31 cd31 ct31), sl31⟩) (c31 : PySem.W.codeIn K cd31 "figures" = true) (k31 : PySem.W.keepIn K (.ref f31) = true)
    (a32 : PySem.W.nsIn K mainGlobals "shown" = some (some (.ref f32))) (l32 : K.lookup f32 = some ⟨oc32, od32, .func (PySem.W.fnOf "shown" "shown" (zQ Q4) (zz Q4) (qQ Q4) .none kV32 dc32 pm32 an32 cd32 ct32), sl32⟩) (c32 : PySem.W.codeIn K cd32 "shown" = true) (k32 : PySem.W.keepIn K (.ref f32) = true)
    (a33 : PySem.W.nsIn K mainGlobals "read" = some (some (.ref f33))) (l33 : K.lookup f33 = some ⟨oc33, od33, .func (PySem.W.fnOf "read" "read" (zQ xj) (zz xj) (qQ xj) .none kV33 dc33 pm33 an33 cd33 ct33), sl33⟩) (c33 : PySem.W.codeIn K cd33 "read" = true) (k33 : PySem.W.keepIn K (.ref f33) = true)
    (a34 : PySem.W.nsIn K mainGlobals "read_term" = some (some (.ref f34))) (l34 : K.lookup f34 = some ⟨oc34, od34, .func (PySem.W.fnOf "read_term" "read_term" (zQ xv) (zz xv) (qQ xv) .none kV34 dc34 pm34 an34 cd34 ct34), sl34⟩) (c34 : PySem.W.codeIn K cd34 "read_term" = true) (k34 : PySem.W.keepIn K (.ref f34) = true)
    (a35 : PySem.W.nsIn K mainGlobals "read_unit" = some (some (.ref f35))) (l35 : K.lookup f35 = some ⟨oc35, od35, .func (PySem.W.fnOf "read_unit" "read_unit" (zQ v8) (zz v8) (qQ v8) .none kV35 dc35 pm35 an35 cd35 ct35), sl35⟩) (c35 : PySem.W.codeIn K cd35 "read_unit" = true) (k35 : PySem.W.keepIn K (.ref f35) = true)
    (a36 : PySem.W.nsIn K mainGlobals "read_net" = some (some (.ref f36))) (l36 : K.lookup f36 = some ⟨oc36, od36, .func (PySem.W.fnOf "read_net" "read_net" (zQ jW) (zz jW) (qQ jW) .none kV36 dc36 pm36 an36 cd36 ct36), sl36⟩) (c36 : PySem.W.codeIn K cd36 "read_net" = true) (k36 : PySem.W.keepIn K (.ref f36) = true)
    (a37 : PySem.W.nsIn K mainGlobals "_law_asked" = some (some (.ref f37))) (l37 : K.lookup f37 = some ⟨oc37, od37, .func (PySem.W.fnOf "_law_asked" "_law_asked" (zQ jk) (zz jk) (qQ jk) .none kV37 dc37 pm37 an37 cd37 ct37), sl37⟩) (c37 : PySem.W.codeIn K cd37 "_law_asked" = true) (k37 : PySem.W.keepIn K (.ref f37) = true)
    (a38 : PySem.W.nsIn K mainGlobals "_law_odd" = some (some (.ref f38))) (l38 : K.lookup f38 = some ⟨oc38, od38, .func (PySem.W.fnOf "_law_odd" "_law_odd" (zQ jx) (zz jx) (qQ jx) .none kV38 dc38 pm38 an38 cd38 ct38), sl38⟩) (c38 : PySem.W.codeIn K cd38 "_law_odd" = true) (k38 : PySem.W.keepIn K (.ref f38) = true)
    (a39 : PySem.W.nsIn K mainGlobals "_law_spoilt" = some (some (.ref f39))) (l39 : K.lookup f39 = some ⟨oc39, od39, .func (PySem.W.fnOf "_law_spoilt" "_law_spoilt" (zQ y9) (zz y9) (qQ y9) .none kV39 dc39 pm39 an39 cd39 ct39), sl39⟩) (c39 : PySem.W.codeIn K cd39 "_law_spoilt" = true) (k39 : PySem.W.keepIn K (.ref f39) = true)
    (a40 : PySem.W.nsIn K mainGlobals "_law_shown" = some (some (.ref f40))) (l40 : K.lookup f40 = some ⟨oc40, od40, .func (PySem.W.fnOf "_law_shown" "_law_shown" (zQ xQ) (zz xQ) (qQ xQ) .none kV40 dc40 pm40 an40 cd40 ct40), sl40⟩) (c40 : PySem.W.codeIn K cd40 "_law_shown" = true) (k40 : PySem.W.keepIn K (.ref f40) = true)
    (a41 : PySem.W.nsIn K mainGlobals "_law_words" = some (some (.ref f41))) (l41 : K.lookup f41 = some ⟨oc41, od41, .func (PySem.W.fnOf "_law_words" "_law_words" (zQ xw) (zz xw) (qQ xw) .none kV41 dc41 pm41 an41 cd41 ct41), sl41⟩) (c41 : PySem.W.codeIn K cd41 "_law_words" = true) (k41 : PySem.W.keepIn K (.ref f41) = true)
    (a42 : PySem.W.nsIn K mainGlobals "_law_rows" = some (some (.ref f42))) (l42 : K.lookup f42 = some ⟨oc42, od42, .func (PySem.W.fnOf "_law_rows" "_law_rows" (zQ wJ) (zz wJ) (qQ wJ) .none kV42 dc42 pm42 an42 cd42 ct42), sl42⟩) (c42 : PySem.W.codeIn K cd42 "_law_rows" = true) (k42 : PySem.W.keepIn K (.ref f42) = true)
    (a43 : PySem.W.nsIn K mainGlobals "law" = some (some (.ref f43))) (l43 : K.lookup f43 = some ⟨oc43, od43, .func (PySem.W.fnOf "law" "law" (zQ s_law) (zz s_law) (qQ s_law) .none kV43 dc43 pm43 an43 cd43 ct43), sl43⟩) (c43 : PySem.W.codeIn K cd43 "law" = true) (k43 : PySem.W.keepIn K (.ref f43) = true)
    (z0 : PySem.W.nsIn K mainGlobals "len" = some none)
    (z1 : PySem.W.nsIn K mainGlobals "range" = some none)
    (z2 : PySem.W.nsIn K mainGlobals "enumerate" = some none)
    (z3 : PySem.W.nsIn K mainGlobals "abs" = some none)
    (z4 : PySem.W.nsIn K mainGlobals "divmod" = some none)
    (z5 : PySem.W.nsIn K mainGlobals "list" = some none)
    (z6 : PySem.W.nsIn K mainGlobals "min" = some none)
    (z7 : PySem.W.nsIn K mainGlobals "int" = some none)
    (z8 : PySem.W.nsIn K mainGlobals "any" = some none)
    (z9 : PySem.W.nsIn K mainGlobals "isinstance" = some none)
    (z10 : PySem.W.nsIn K mainGlobals "str" = some none)
    (z11 : PySem.W.nsIn K mainGlobals "set" = some none)
    (z12 : PySem.W.nsIn K mainGlobals "all" = some none)
    (z13 : PySem.W.nsIn K mainGlobals "bool" = some none)
    (z14 : PySem.W.nsIn K mainGlobals "tuple" = some none)
    (z15 : PySem.W.nsIn K mainGlobals "reversed" = some none)
    (z16 : PySem.W.nsIn K mainGlobals "ValueError" = some none)
    (mC0 : PySem.W.nsIn K mainGlobals "BendError" = some (some (.ref C0)))
    (mC1 : PySem.W.nsIn K mainGlobals "NoRatio" = some (some (.ref C1)))
    (mC2 : PySem.W.nsIn K mainGlobals "NoText" = some (some (.ref C2)))
    (mC3 : PySem.W.nsIn K mainGlobals "NoBox" = some (some (.ref C3)))
    (mC4 : PySem.W.nsIn K mainGlobals "NoNet" = some (some (.ref C4)))
    (mC5 : PySem.W.nsIn K mainGlobals "Unlike" = some (some (.ref C5)))
    (mC6 : PySem.W.nsIn K mainGlobals "NoLine" = some (some (.ref C6)))
    (x0 : PySem.W.excIn K C0 [.type "ValueError", .type "Exception", .type "BaseException", .type "object"] "ValueError.__new__" = true)
    (x1 : PySem.W.excIn K C2 [.type "ValueError", .type "Exception", .type "BaseException", .type "object"] "ValueError.__new__" = true)
    (x2 : PySem.W.mroIn K C2 (.ref C0) = some true)
    (y1 : PySem.W.findIn K (.ref C2) "__getattribute__" = some (some (.builtin "BaseException.__getattribute__")))
    (y2 : PySem.W.findIn K (.ref C2) "__getattr__" = some none)
    (y3 : PySem.W.findIn K (.ref C2) "__class__" = some (some (.builtin "object.__class__")))
    (y4 : PySem.W.specialIn K (.builtin "object.__class__") "__get__" = some (some (.builtin "getset_descriptor.__get__")))
    (y5 : PySem.W.takesIn K (.builtin "object.__class__") = some true)
    (y6 : PySem.W.mroIn K C2 (.type "object") = some true)
    (y7 : PySem.W.mroIn K C2 (.type "BaseException") = some true)
    (w0 : PySem.W.kitOne K (.ref C2) (.type "ValueError") = some true)
    (wC1 : PySem.W.kitOne K (.ref C2) (.ref C1) = some false)
    (wC2 : PySem.W.kitOne K (.ref C2) (.ref C2) = some true)
    (wC3 : PySem.W.kitOne K (.ref C2) (.ref C3) = some false)
    (wC4 : PySem.W.kitOne K (.ref C2) (.ref C4) = some false)
    (wC5 : PySem.W.kitOne K (.ref C2) (.ref C5) = some false)
    (wC6 : PySem.W.kitOne K (.ref C2) (.ref C6) = some false)
    (x1r1 : PySem.W.excIn K C4 [.type "ValueError", .type "Exception", .type "BaseException", .type "object"] "ValueError.__new__" = true)
    (x2r1 : PySem.W.mroIn K C4 (.ref C0) = some true)
    (y1r1 : PySem.W.findIn K (.ref C4) "__getattribute__" = some (some (.builtin "BaseException.__getattribute__")))
    (y2r1 : PySem.W.findIn K (.ref C4) "__getattr__" = some none)
    (y3r1 : PySem.W.findIn K (.ref C4) "__class__" = some (some (.builtin "object.__class__")))
    (y4r1 : PySem.W.specialIn K (.builtin "object.__class__") "__get__" = some (some (.builtin "getset_descriptor.__get__")))
    (y5r1 : PySem.W.takesIn K (.builtin "object.__class__") = some true)
    (y6r1 : PySem.W.mroIn K C4 (.type "object") = some true)
    (y7r1 : PySem.W.mroIn K C4 (.type "BaseException") = some true)
    (w0r1 : PySem.W.kitOne K (.ref C4) (.type "ValueError") = some true)
    (wC1r1 : PySem.W.kitOne K (.ref C4) (.ref C1) = some false)
    (wC2r1 : PySem.W.kitOne K (.ref C4) (.ref C2) = some false)
    (wC3r1 : PySem.W.kitOne K (.ref C4) (.ref C3) = some false)
    (wC4r1 : PySem.W.kitOne K (.ref C4) (.ref C4) = some true)
    (wC5r1 : PySem.W.kitOne K (.ref C4) (.ref C5) = some false)
    (wC6r1 : PySem.W.kitOne K (.ref C4) (.ref C6) = some false)
    (gNet : PySem.W.nsIn K mainGlobals "Net" = some (some (.ref CC_Net)))
    (pgNet : PySem.W.plainGet K CC_Net Str.empty = true)
    (hdNet : PySem.W.hasDictIn K CC_Net = true)
    (poNet : PySem.W.plainOver K CC_Net = true)
    (saNet : PySem.W.findIn K (.ref CC_Net) "__setattr__" = some (some (.builtin "object.__setattr__")))
    (mkNet : PySem.W.makesIn K CC_Net = true)
    (kcNet : PySem.W.keepIn K (.ref CC_Net) = true)
    (naNet_many : PySem.W.findIn K (.ref CC_Net) "many" = some none)
    (naNet_units : PySem.W.findIn K (.ref CC_Net) "units" = some none)
    (naNet_outs : PySem.W.findIn K (.ref CC_Net) "outs" = some none)
    (qMOST_FIGURES : PySem.W.nsIn K mainGlobals "MOST_FIGURES" = some (some (.int 60 tk_MOST_FIGURES)))
    (qFIGURES : PySem.W.nsIn K mainGlobals "FIGURES" = some (some (.str "0123456789" tk_FIGURES)))
    (qMOST_BENDS : PySem.W.nsIn K mainGlobals "MOST_BENDS" = some (some (.int 20 tk_MOST_BENDS)))
    (qMOST_UNITS : PySem.W.nsIn K mainGlobals "MOST_UNITS" = some (some (.int 80 tk_MOST_UNITS)))
    (qMOST_OUTS : PySem.W.nsIn K mainGlobals "MOST_OUTS" = some (some (.int 12 tk_MOST_OUTS)))
    (qMOST_INS : PySem.W.nsIn K mainGlobals "MOST_INS" = some (some (.int 6 tk_MOST_INS))), C) → C
end BP
section
open PySem PySem.W PyProof.Rows
local macro_rules | `(tactic| o_head $H) => `(tactic| refine BP.head (q := BP.view) $H 6000 BP.seen ?_ rfl rfl rfl rfl (by assumption) (by decide +kernel) ⟨rfl, rfl, rfl, rfl, rfl, by decide +kernel⟩ ?_ ?_)
set_option maxRecDepth 100000 in
set_option maxHeartbeats 0 in
theorem BP.early (fin : ∀ {q : Program} {loose : List Str} {XP : (Str → Option Value) → Heap → Prop} {YP : World → Heap → Prop} {d : DefRec} {K : Params → PySem.W.Frag}, d.params.defaults = [] → d.name = "law" → (∀ (w : World) (h : Heap), YP w h → (K w.params).In h) → (∀ w : World, BP.Pins (K w.params)) → PySem.W.WalkO q loose XP YP (PySem.Challenge.rw_bendproof_k72_texts_refused).row.toRowW d [] (fun f vs => PySem.call f vs)) : PySem.Challenge.rw_bendproof_k72_texts_refused.Holds := by
  w_on; o_law; k_head
  · intro w
    delta PySem.W.openEnds PySem.W.fencedOpening PySem.W.topFrom
    rw [PySem.W.Fast.te14364793385576792824, PySem.W.Fast.te10274390034422433532, PySem.W.Fast.te14082659384304107361, PySem.W.Fast.te14289696077712309145, PySem.W.Fast.te1435165496053646825, PySem.W.Fast.te8920871248978507458, PySem.W.Fast.te5923862056798008813]
    kernel_rfl
  · w_witness2
  k_fill
  refine fin rfl rfl (fun w h Y => PySem.W.kIn_of Y) ?F
  case F =>
    intro w C k
    refine' k ?a0 ?l0 ?c0 ?k0 ?a1 ?l1 ?c1 ?k1 ?a2 ?l2 ?c2 ?k2 ?a3 ?l3 ?c3 ?k3 ?a4 ?l4 ?c4 ?k4 ?a5 ?l5 ?c5 ?k5 ?a6 ?l6 ?c6 ?k6 ?a7 ?l7 ?c7 ?k7 ?a8 ?l8 ?c8 ?k8 ?a9 ?l9 ?c9 ?k9 ?a10 ?l10 ?c10 ?k10 ?a11 ?l11 ?c11 ?k11 ?a12 ?l12 ?c12 ?k12 ?a13 ?l13 ?c13 ?k13 ?a14 ?i14 ?l14 ?c14 ?k14 ?a15 ?l15 ?c15 ?k15 ?a16 ?l16 ?c16 ?k16 ?a17 ?l17 ?c17 ?k17 ?a18 ?l18 ?c18 ?k18 ?a19 ?l19 ?c19 ?k19 ?a20 ?l20 ?c20 ?k20 ?a21 ?l21 ?c21 ?k21 ?a22 ?l22 ?c22 ?k22 ?a23 ?l23 ?c23 ?k23 ?a24 ?l24 ?c24 ?k24 ?a25 ?l25 ?c25 ?k25 ?a26 ?l26 ?c26 ?k26 ?a27 ?l27 ?c27 ?k27 ?a28 ?i28 ?l28 ?c28 ?k28 ?a29 ?l29 ?c29 ?k29 ?a30 ?l30 ?c30 ?k30 ?a31 ?l31 ?c31 ?k31 ?a32 ?l32 ?c32 ?k32 ?a33 ?l33 ?c33 ?k33 ?a34 ?l34 ?c34 ?k34 ?a35 ?l35 ?c35 ?k35 ?a36 ?l36 ?c36 ?k36 ?a37 ?l37 ?c37 ?k37 ?a38 ?l38 ?c38 ?k38 ?a39 ?l39 ?c39 ?k39 ?a40 ?l40 ?c40 ?k40 ?a41 ?l41 ?c41 ?k41 ?a42 ?l42 ?c42 ?k42 ?a43 ?l43 ?c43 ?k43 ?z0 ?z1 ?z2 ?z3 ?z4 ?z5 ?z6 ?z7 ?z8 ?z9 ?z10 ?z11 ?z12 ?z13 ?z14 ?z15 ?z16 ?mC0 ?mC1 ?mC2 ?mC3 ?mC4 ?mC5 ?mC6 ?x0 ?x1 ?x2 ?y1 ?y2 ?y3 ?y4 ?y5 ?y6 ?y7 ?w0 ?wC1 ?wC2 ?wC3 ?wC4 ?wC5 ?wC6 ?x1r1 ?x2r1 ?y1r1 ?y2r1 ?y3r1 ?y4r1 ?y5r1 ?y6r1 ?y7r1 ?w0r1 ?wC1r1 ?wC2r1 ?wC3r1 ?wC4r1 ?wC5r1 ?wC6r1 ?gNet ?pgNet ?hdNet ?poNet ?saNet ?mkNet ?kcNet ?naNet_many ?naNet_units ?naNet_outs ?qMOST_FIGURES ?qFIGURES ?qMOST_BENDS ?qMOST_UNITS ?qMOST_OUTS ?qMOST_INS
    (case gNet => k_is)
    (case a0 => k_is)
    (case l0 => k_is)
    (case c0 => k_is)
    (case k0 => k_is)
    (case a1 => k_is)
    (case l1 => k_is)
    (case c1 => k_is)
    (case k1 => k_is)
    (case a2 => k_is)
    (case l2 => k_is)
    (case c2 => k_is)
    (case k2 => k_is)
    (case a3 => k_is)
    (case l3 => k_is)
    (case c3 => k_is)
    (case k3 => k_is)
    (case a4 => k_is)
    (case l4 => k_is)
    (case c4 => k_is)
    (case k4 => k_is)
    (case a5 => k_is)
    (case l5 => k_is)
    (case c5 => k_is)
    (case k5 => k_is)
    (case a6 => k_is)
    (case l6 => k_is)
    (case c6 => k_is)
    (case k6 => k_is)
    (case a7 => k_is)
    (case l7 => k_is)
    (case c7 => k_is)
    (case k7 => k_is)
    (case a8 => k_is)
    (case l8 => k_is)
    (case c8 => k_is)
    (case k8 => k_is)
    (case a9 => k_is)
    (case l9 => k_is)
    (case c9 => k_is)
    (case k9 => k_is)
    (case a10 => k_is)
    (case l10 => k_is)
    (case c10 => k_is)
    (case k10 => k_is)
    (case a11 => k_is)
    (case l11 => k_is)
    (case c11 => k_is)
    (case k11 => k_is)
    (case a12 => k_is)
    (case l12 => k_is)
    (case c12 => k_is)
    (case k12 => k_is)
    (case a13 => k_is)
    (case l13 => k_is)
    (case c13 => k_is)
    (case k13 => k_is)
    (case a14 => k_is)
    (case i14 => k_is)
    (case l14 => k_is)
    (case c14 => k_is)
    (case k14 => k_is)
    (case a15 => k_is)
    (case l15 => k_is)
    (case c15 => k_is)
    (case k15 => k_is)
    (case a16 => k_is)
    (case l16 => k_is)
    (case c16 => k_is)
    (case k16 => k_is)
    (case a17 => k_is)
    (case l17 => k_is)
    (case c17 => k_is)
    (case k17 => k_is)
    (case a18 => k_is)
    (case l18 => k_is)
    (case c18 => k_is)
    (case k18 => k_is)
    (case a19 => k_is)
    (case l19 => k_is)
    (case c19 => k_is)
    (case k19 => k_is)
    (case a20 => k_is)
    (case l20 => k_is)
    (case c20 => k_is)
    (case k20 => k_is)
    (case a21 => k_is)
    (case l21 => k_is)
    (case c21 => k_is)
    (case k21 => k_is)
    (case a22 => k_is)
    (case l22 => k_is)
    (case c22 => k_is)
    (case k22 => k_is)
    (case a23 => k_is)
    (case l23 => k_is)
    (case c23 => k_is)
    (case k23 => k_is)
    (case a24 => k_is)
    (case l24 => k_is)
    (case c24 => k_is)
    (case k24 => k_is)
    (case a25 => k_is)
    (case l25 => k_is)
    (case c25 => k_is)
    (case k25 => k_is)
    (case a26 => k_is)
    (case l26 => k_is)
    (case c26 => k_is)
    (case k26 => k_is)
    (case a27 => k_is)
    (case l27 => k_is)
    (case c27 => k_is)
    (case k27 => k_is)
    (case a28 => k_is)
    (case i28 => k_is)
    (case l28 => k_is)
    (case c28 => k_is)
    (case k28 => k_is)
    (case a29 => k_is)
    (case l29 => k_is)
    (case c29 => k_is)
    (case k29 => k_is)
    (case a30 => k_is)
    (case l30 => k_is)
    (case c30 => k_is)
    (case k30 => k_is)
    (case a31 => k_is)
    (case l31 => k_is)
    (case c31 => k_is)
    (case k31 => k_is)
    (case a32 => k_is)
    (case l32 => k_is)
    (case c32 => k_is)
    (case k32 => k_is)
    (case a33 => k_is)
    (case l33 => k_is)
    (case c33 => k_is)
    (case k33 => k_is)
    (case a34 => k_is)
    (case l34 => k_is)
    (case c34 => k_is)
    (case k34 => k_is)
    (case a35 => k_is)
    (case l35 => k_is)
    (case c35 => k_is)
    (case k35 => k_is)
    (case a36 => k_is)
    (case l36 => k_is)
    (case c36 => k_is)
    (case k36 => k_is)
    (case a37 => k_is)
    (case l37 => k_is)
    (case c37 => k_is)
    (case k37 => k_is)
    (case a38 => k_is)
    (case l38 => k_is)
    (case c38 => k_is)
    (case k38 => k_is)
    (case a39 => k_is)
    (case l39 => k_is)
    (case c39 => k_is)
    (case k39 => k_is)
    (case a40 => k_is)
    (case l40 => k_is)
    (case c40 => k_is)
    (case k40 => k_is)
    (case a41 => k_is)
    (case l41 => k_is)
    (case c41 => k_is)
    (case k41 => k_is)
    (case a42 => k_is)
    (case l42 => k_is)
    (case c42 => k_is)
    (case k42 => k_is)
    (case a43 => k_is)
    (case l43 => k_is)
    (case c43 => k_is)
    (case k43 => k_is)
    (case z0 => k_is)
    (case z1 => k_is)
    (case z2 => k_is)
    (case z3 => k_is)
    (case z4 => k_is)
    (case z5 => k_is)
    (case z6 => k_is)
    (case z7 => k_is)
    (case z8 => k_is)
    (case z9 => k_is)
    (case z10 => k_is)
    (case z11 => k_is)
    (case z12 => k_is)
    (case z13 => k_is)
    (case z14 => k_is)
    (case z15 => k_is)
    (case z16 => k_is)
    (case mC0 => k_is)
    (case mC1 => k_is)
    (case mC2 => k_is)
    (case mC3 => k_is)
    (case mC4 => k_is)
    (case mC5 => k_is)
    (case mC6 => k_is)
    (case x0 => k_exc)
    (case x1 => k_exc)
    (case x2 => k_is)
    (case y1 => k_is)
    (case y2 => k_is)
    (case y3 => k_is)
    (case y4 => k_is)
    (case y5 => k_is)
    (case y6 => k_is)
    (case y7 => k_is)
    (case w0 => kit_is)
    (case wC1 => kit_is)
    (case wC2 => kit_is)
    (case wC3 => kit_is)
    (case wC4 => kit_is)
    (case wC5 => kit_is)
    (case wC6 => kit_is)
    (case x1r1 => k_exc)
    (case x2r1 => k_is)
    (case y1r1 => k_is)
    (case y2r1 => k_is)
    (case y3r1 => k_is)
    (case y4r1 => k_is)
    (case y5r1 => k_is)
    (case y6r1 => k_is)
    (case y7r1 => k_is)
    (case w0r1 => kit_is)
    (case wC1r1 => kit_is)
    (case wC2r1 => kit_is)
    (case wC3r1 => kit_is)
    (case wC4r1 => kit_is)
    (case wC5r1 => kit_is)
    (case wC6r1 => kit_is)
    (case pgNet => k_is)
    (case hdNet => k_is)
    (case poNet => k_is)
    (case saNet => k_is)
    (case mkNet => k_is)
    (case kcNet => k_is)
    (case naNet_many => k_is)
    (case naNet_units => k_is)
    (case naNet_outs => k_is)
    (case qMOST_FIGURES => k_is)
    (case qFIGURES => k_is)
    (case qMOST_BENDS => k_is)
    (case qMOST_UNITS => k_is)
    (case qMOST_OUTS => k_is)
    (case qMOST_INS => k_is)
end
namespace L2
open PySem PySem.Spec PyProof.Rows
abbrev Key := Sum Int Str
def keyIs : Key → Value → Bool
  | .inl k, v => Value.isInt k v
  | .inr x, v => Value.isStrOf x v
def keyH (w : World) : Key → Int
  | .inl k => hashInt k
  | .inr x => hashStr w x
theorem vY : ∀ {k : Key} {v : Value}, keyIs k v = true → (∃ i t, k = Sum.inl i ∧ v = Value.int i t) ∨ (∃ x t, k = Sum.inr x ∧ v = Value.str x t)
  | .inl i, v, h => by
    obtain ⟨t, e⟩ := Value.isInt_shape (k := i) (v := v) h
    exact .inl ⟨i, t, rfl, e⟩
  | .inr x, v, h => by
    obtain ⟨t, e⟩ := Value.isStrOf_shape (x := x) (v := v) h
    exact .inr ⟨x, t, rfl, e⟩
theorem key_ll (a b : Int) : decide ((Sum.inl a : Key) = Sum.inl b) = (a == b) := by
  by_cases e : a = b
  · subst e; simp
  · have h : ¬ (Sum.inl a : Key) = Sum.inl b := fun q => e (Sum.inl.inj q)
    rw [decide_eq_false h]
    exact (beq_eq_false_iff_ne.mpr e).symm
theorem key_rr (a b : Str) : decide ((Sum.inr a : Key) = Sum.inr b) = decide (a = b) := by
  by_cases e : a = b
  · subst e; simp
  · have h : ¬ (Sum.inr a : Key) = Sum.inr b := fun q => e (Sum.inr.inj q)
    rw [decide_eq_false h, decide_eq_false e]
theorem key_lr (a : Int) (b : Str) : decide ((Sum.inl a : Key) = Sum.inr b) = false := decide_eq_false (fun q => nomatch q)
theorem key_rl (a : Str) (b : Int) : decide ((Sum.inr a : Key) = Sum.inl b) = false := decide_eq_false (fun q => nomatch q)
def mixKind (prog : Program) (w : World) : PySem.KeyKind prog w Key where
  is := keyIs
  hash := keyH w
  inj := fun v a b ha hb => by
    rcases vY ha with ⟨i, t, rfl, rfl⟩ | ⟨x, t, rfl, rfl⟩
    · rcases vY hb with ⟨j, u, rfl, e⟩ | ⟨y, u, rfl, e⟩
      · injection e with e1 _; rw [e1]
      · exact nomatch e
    · rcases vY hb with ⟨j, u, rfl, e⟩ | ⟨y, u, rfl, e⟩
      · exact nomatch e
      · injection e with e1 _; rw [e1]
  byValue := fun k v h => by
    rcases vY h with ⟨i, t, rfl, rfl⟩ | ⟨x, t, rfl, rfl⟩ <;> rfl
  pyHash := fun hv h => by
    rcases vY hv with ⟨i, t, rfl, rfl⟩ | ⟨x, t, rfl, rfl⟩
    · exact wpAny_pyHash_int h
    · exact wpAny_pyHash_str h
  eqBool := fun hu hv h => by
    rcases vY hu with ⟨i, t, rfl, rfl⟩ | ⟨x, t, rfl, rfl⟩
    · rcases vY hv with ⟨j, u, rfl, rfl⟩ | ⟨y, u, rfl, rfl⟩
      · rw [key_ll] at h; exact wpAny_eqBool_int h
      · rw [key_lr] at h; exact SeqAt.EqAt.int_str i t y u _ _ _ _ h
    · rcases vY hv with ⟨j, u, rfl, rfl⟩ | ⟨y, u, rfl, rfl⟩
      · rw [key_rl] at h; exact SeqAt.EqAt.str_int x t j u _ _ _ _ h
      · rw [key_rr] at h; exact wpAny_eqBool_str h
  «strs» := fun k x t v h => by
    rcases vY h with ⟨i, u, rfl, e⟩ | ⟨y, u, rfl, e⟩
    · exact nomatch e
    · injection e with e1 _
      subst e1
      cases v <;> rfl
end L2
namespace L2
open PySem PySem.Spec PyProof.Rows
inductive V where
  | non | bl (b : Bool) | int (i : Int) | str (x : Str) | byt (b : Array UInt8) | flt (b : UInt64) | ref (a : Addr) | ty (n : String)
  deriving DecidableEq
def RelV : V → Value → Prop
  | .non, u => u = Value.none
  | .bl b, u => u = Value.bool b
  | .int i, u => ∃ t, u = Value.int i t
  | .str x, u => ∃ t, u = Value.str x t
  | .byt b, u => ∃ t, u = Value.bytes b t
  | .flt b, u => ∃ t, u = Value.float b t
  | .ref a, u => u = Value.ref a
  | .ty n, u => u = Value.type n
abbrev Vals : List V → List Value → Prop := Paired RelV
theorem Vals.length {xs : List V} {us : List Value} (r : Vals xs us) : xs.length = us.length := Paired.length r
theorem Vals.get : ∀ {xs : List V} {us : List Value} {i : Nat} {x : V}, Vals xs us → xs[i]? = some x → ∃ u, us[i]? = some u ∧ RelV x u
  | _, _, _, _, .nil, e => by simp at e
  | _, _, 0, _, .cons r _, e => by simp at e; subst e; exact ⟨_, rfl, r⟩
  | _, _, i + 1, x, .cons _ t, e => by
    obtain ⟨u, h1, h2⟩ := Vals.get (i := i) (x := x) t (by simpa using e)
    exact ⟨u, by simpa using h1, h2⟩
theorem Vals.set {x : V} {u : Value} (r : RelV x u) : ∀ {xs : List V} {us : List Value} (i : Nat), Vals xs us → Vals (xs.set i x) (us.set i u)
  | _, _, _, .nil => .nil
  | _, _, 0, .cons _ t => .cons r t
  | _, _, i + 1, .cons q t => .cons q (Vals.set r i t)
theorem Vals.append : ∀ {xs ys : List V} {us ws : List Value}, Vals xs us → Vals ys ws → Vals (xs ++ ys) (us ++ ws)
  | _, _, _, _, .nil, s => s
  | _, _, _, _, .cons r t, s => .cons r (Vals.append t s)
theorem Vals.take : ∀ {xs : List V} {us : List Value} (n : Nat), Vals xs us → Vals (xs.take n) (us.take n)
  | _, _, 0, _ => .nil
  | _, _, _ + 1, .nil => .nil
  | _, _, n + 1, .cons r t => .cons r (Vals.take n t)
theorem Vals.drop : ∀ {xs : List V} {us : List Value} (n : Nat), Vals xs us → Vals (xs.drop n) (us.drop n)
  | _, _, 0, r => r
  | _, _, _ + 1, .nil => .nil
  | _, _, n + 1, .cons _ t => Vals.drop n t
def RelO : Option V → Option Value → Prop
  | some v, some u => RelV v u
  | none, none => True
  | _, _ => False
def KV {κ : Type} : List (κ × V) → List (κ × Value) → Prop := Paired fun (p : κ × V) (q : κ × Value) => p.1 = q.1 ∧ RelV p.2 q.2
def kV : Key → V
  | .inl i => .int i
  | .inr x => .str x
inductive HO where
  | lst (xs : List V)
  | tup (xs : List V)
  | dK (kvs : List (Key × V)) | dT (kvs : List (List Key × V))
  | set (S : Int → Bool) (n : Nat)
  | ins (C dx : Addr) (fs : List (Str × V))
  | own (x : Addr)
  | xd (fs : List (Str × V))
  | met (f x : Addr)
  | rng (lo hi : Int)
  | frz (o : Obj) (u : HO)
  | tbl (ps : Array Value)
  | ext (φ : Heap → Prop)
abbrev Hp := Addr → Option HO
def upd (H : Hp) (a : Addr) (o : HO) : Hp := fun b => if b = a then some o else H b
theorem qz {H : Hp} {a : Addr} {o : HO} : upd H a o a = some o := by unfold upd; rw [if_pos rfl]
theorem zK {H : Hp} {a b : Addr} {o : HO} (h : b ≠ a) : upd H a o b = H b := by unfold upd; rw [if_neg h]
theorem ne_of {H : Hp} {a b : Addr} {o u : HO} (h : H a = some o) (h' : H b = some u) (d : o ≠ u) : a ≠ b := by
  intro e; subst e; rw [h] at h'; exact d (Option.some.inj h')
theorem zk {H : Hp} {a b : Addr} {o : HO} (h : H a = some o) (h' : H b = none) : a ≠ b := by
  intro e; subst e; rw [h] at h'; cases h'
section
variable (P : Program) (w : World)
def ObjOk (H : Hp) (h : Heap) (a : Addr) : HO → Prop
  | .lst xs => xs.length ≤ sizeLine ∧ ∃ (its : List Value) (n : Nat), Vals xs its ∧ h.get? a = some { cls := .type "list", data := .seq its.toArray n }
  | .tup xs => xs.length ≤ sizeLine ∧ ∃ its : List Value, Vals xs its ∧ IsTup h a its.toArray
  | .dK kvs => kvs.length ≤ sizeLine ∧ (a == sysModules) = false ∧ ∃ vs, KV kvs vs ∧ h.DictOf (mixKind P w) a vs
  | .dT kvs => kvs.length ≤ sizeLine ∧ (a == sysModules) = false ∧ ∃ xs : List (List Key × Addr × Value), Paired (fun (p : List Key × V) (q : List Key × Addr × Value) => p.1 = q.1 ∧ H q.2.1 = some (.tup (p.1.map kV)) ∧ RelV p.2 q.2.2) kvs xs ∧ ∃ o es ep, h.get? a = some o ∧ o.ExactDict ∧ o.data = .dict es ep ∧ es.toList = xs.map (entryOfKey (tupleKind (mixKind P w))) ∧ (xs.map (·.1)).Nodup
  | .set S n => h.SetOf (intKind P w) a S n
  | .ins C dx fs => H dx = some (.own a) ∧ fs.length ≤ 1000 ∧ dx ≠ a ∧ h.get? a = some (PySem.W.instObj C dx) ∧ ∃ mA, h.Ns1 dx mA ∧ (∀ f, RelO (fs.lookup f) (mA f)) ∧ PySem.Within mA (fs.map (·.1))
  | .own _ => ∃ o, h.get? a = some o
  | .xd fs => ∃ mA, h.Ns1 a mA ∧ ∀ f, RelO (fs.lookup f) (mA f)
  | .rng lo hi => ∃ t u v, h.get? a = some { cls := .type "range", data := .fields #[.int lo t, .int hi u, .int 1 v] }
  | .frz o u => h.get? a = some o ∧ ObjOk H h a u
  | .tbl ps => h.get? a = some { cls := .none, data := .fields ps }
  | .met f x => h.get? a = some (PySem.W.methodObj (.ref f) (.ref x))
  | .ext φ => φ h ∧ (∃ o, h.get? a = some o) ∧ ∀ h1 h2 : Heap, φ h1 → (∀ o, h1.get? a = some o → h2.get? a = some o) → φ h2
def HOk (H : Hp) (h : Heap) : Prop := ∀ a o, H a = some o → ObjOk P w H h a o
end
section
variable {P : Program} {w : World} {H H' : Hp} {h h' : Heap} {a : Addr} {o : HO}
theorem ObjOk.lt (x : ObjOk P w H h a o) : a < h.objs.size := by
  cases o with
  | lst xs => obtain ⟨_, _, _, _, e⟩ := x; exact Heap.lt_size e
  | tup xs => obtain ⟨_, _, _, p⟩ := x; exact p.lt
  | dK kvs => obtain ⟨_, _, _, _, o, _, _, e, _⟩ := x; exact Heap.lt_size e
  | dT kvs => obtain ⟨_, _, _, _, o, _, _, e, _⟩ := x; exact Heap.lt_size e
  | set S n => obtain ⟨o, _, _, _, e, _⟩ := x; exact Heap.lt_size e
  | ins C dx fs => obtain ⟨_, _, _, e, _⟩ := x; exact Heap.lt_size e
  | own y => obtain ⟨_, e⟩ := x; exact Heap.lt_size e
  | xd fs => obtain ⟨_, ⟨_, _, _, e, _⟩, _⟩ := x; exact Heap.lt_size e
  | rng lo hi => obtain ⟨_, _, _, e⟩ := x; exact Heap.lt_size e
  | frz ob u => obtain ⟨e, _⟩ := x; exact Heap.lt_size e
  | tbl ps => exact Heap.lt_size (show h.get? a = some _ from x)
  | met f y => exact Heap.lt_size (show h.get? a = some _ from x)
  | ext φ => obtain ⟨_, ⟨_, e⟩, _⟩ := x; exact Heap.lt_size e
theorem Paired.mapP {α β : Type} {F G : α → β → Prop} : ∀ {l₁ : List α} {l₂ : List β}, Paired F l₁ l₂ → (∀ a b, F a b → G a b) → Paired G l₁ l₂
  | _, _, .nil, _ => .nil
  | _, _, .cons r t, f => .cons (f _ _ r) (Paired.mapP t f)
theorem ObjOk.stay (x : ObjOk P w H h a o) (k : ∀ b u, (b = a ∨ H b = some (.own a)) → h.get? b = some u → h'.get? b = some u)
    (ho : ∀ b, H b = some (.own a) → H' b = some (.own a)) (ht : ∀ b xs, H b = some (.tup xs) → H' b = some (.tup xs)) : ObjOk P w H' h' a o := by
  induction o with
  | lst xs => obtain ⟨z, its, n, r, e⟩ := x; exact ⟨z, its, n, r, k _ _ (.inl rfl) e⟩
  | tup xs => obtain ⟨z, its, r, ob, e, c⟩ := x; exact ⟨z, its, r, ob, k _ _ (.inl rfl) e, c⟩
  | dK kvs => obtain ⟨z, y, vs, r, ob, es, ep, e, c⟩ := x; exact ⟨z, y, vs, r, ob, es, ep, k _ _ (.inl rfl) e, c⟩
  | dT kvs =>
    obtain ⟨z, y, xs, r, ob, es, ep, e, c⟩ := x
    exact ⟨z, y, xs, Paired.mapP r fun p q z => ⟨z.1, ht _ _ z.2.1, z.2.2⟩, ob, es, ep, k _ _ (.inl rfl) e, c⟩
  | set S n => obtain ⟨ob, es, ep, t, e, c⟩ := x; exact ⟨ob, es, ep, t, k _ _ (.inl rfl) e, c⟩
  | ins C dx fs =>
    obtain ⟨d, z, ne, e, mA, ⟨od, es, ep, e2, c⟩, r⟩ := x
    exact ⟨ho _ d, z, ne, k _ _ (.inl rfl) e, mA, ⟨od, es, ep, k _ _ (.inr d) e2, c⟩, r⟩
  | own y => obtain ⟨ob, e⟩ := x; exact ⟨ob, k _ _ (.inl rfl) e⟩
  | xd fs => obtain ⟨mA, ⟨od, es, ep, e, c⟩, r⟩ := x; exact ⟨mA, ⟨od, es, ep, k _ _ (.inl rfl) e, c⟩, r⟩
  | rng lo hi => obtain ⟨t, u, v, e⟩ := x; exact ⟨t, u, v, k _ _ (.inl rfl) e⟩
  | frz ob u ih => obtain ⟨e, q⟩ := x; exact ⟨k _ _ (.inl rfl) e, ih q⟩
  | tbl ps =>
    have e : h.get? a = some { cls := .none, data := .fields ps } := x
    show h'.get? a = some { cls := .none, data := .fields ps }
    exact k a _ (.inl rfl) e
  | met f y =>
    have e : h.get? a = some (PySem.W.methodObj (.ref f) (.ref y)) := x
    show h'.get? a = some (PySem.W.methodObj (.ref f) (.ref y))
    exact k a _ (.inl rfl) e
  | ext φ => obtain ⟨p, ⟨o, e⟩, st⟩ := x; exact ⟨st _ _ p fun o q => k _ _ (.inl rfl) q, ⟨o, k _ _ (.inl rfl) e⟩, st⟩
theorem HOk.lt (x : HOk P w H h) (e : H a = some o) : a < h.objs.size := (x a o e).lt
theorem HOk.fresh (x : HOk P w H h) (e : h.objs.size ≤ a) : H a = none := by
  cases q : H a with
  | none => rfl
  | some u => exact absurd (Nat.lt_of_lt_of_le (x.lt q) e) (Nat.lt_irrefl _)
theorem HOk.kept (x : HOk P w H h) (k : ∀ b u, h.get? b = some u → h'.get? b = some u) : HOk P w H h' := fun a o e =>
  (x a o e).stay (fun b u _ q => k b u q) (fun _ q => q) fun _ _ q => q
theorem HOk.laid (x : HOk P w H h) (k : ∀ b u, h.get? b = some u → h'.get? b = some u) (hp : h.objs.size ≤ a) (new : ObjOk P w (upd H a o) h' a o) : HOk P w (upd H a o) h' := fun b u e => by
  have hn := x.fresh hp
  by_cases hb : b = a
  · subst hb; rw [qz] at e; cases e; exact new
  · rw [zK hb] at e
    exact (x b u e).stay (fun c v _ q => k c v q) (fun c q => by rw [zK (zk q hn)]; exact q) fun c xs q => by rw [zK (zk q hn)]; exact q
end
def Rd (H : Hp) (a : Addr) (u : HO) : Prop := H a = some u ∨ ∃ o, H a = some (.frz o u)
theorem Rd.ok {P : Program} {w : World} {H : Hp} {h : Heap} {a : Addr} {u : HO} (r : Rd H a u) (x : HOk P w H h) : ObjOk P w H h a u := by
  rcases r with r | ⟨o, r⟩
  · exact x a u r
  · obtain ⟨_, q⟩ := x a _ r
    exact q
def Mut : Option HO → Prop
  | some (.lst _) => True
  | some (.dK _) => True
  | some (.dT _) => True
  | some (.set _ _) => True
  | some (.ins _ _ _) => True
  | some (.ext _) => True
  | _ => False
section
variable {P : Program} {w : World} {H : Hp} {h h' : Heap} {x e : Addr} {o' : HO}
theorem HOk.write (ok : HOk P w H h) (mu : Mut (H x)) (he : e = x ∨ H e = some (.own x)) (k : ∀ b u, b ≠ e → h.get? b = some u → h'.get? b = some u) (heo : ∃ u, h'.get? e = some u)
    (new : ObjOk P w (upd H x o') h' x o') : HOk P w (upd H x o') h' := fun b u q => by
  have nown : ∀ c y, H c = some (.own y) → c ≠ x := fun c y r z => by subst z; rw [r] at mu; exact mu
  have ntup : ∀ c xs, H c = some (.tup xs) → c ≠ x := fun c xs r z => by subst z; rw [r] at mu; exact mu
  by_cases hb : b = x
  · subst hb; rw [qz] at q; cases q; exact new
  · rw [zK hb] at q
    by_cases hbe : b = e
    · have q' : H b = some (.own x) := by
        rcases he with z | z
        · exact absurd (hbe.trans z) hb
        · rw [hbe]; exact z
      rw [q] at q'; cases q'
      obtain ⟨v, hv⟩ := heo
      exact ⟨v, by rw [hbe]; exact hv⟩
    · refine (ok b u q).stay (fun c v hc r => k c v ?_ r) (fun c r => by rw [zK (nown c b r)]; exact r) fun c xs r => by rw [zK (ntup c xs r)]; exact r
      rcases hc with rfl | hc
      · exact hbe
      · rintro rfl
        rcases he with z | z
        · exact nown c b hc z
        · rw [hc] at z; cases z; exact hb rfl
end
structure Un (fs ex : List Addr) (H H' : Hp) (h h' : Heap) : Prop where
  keep : ∀ b o, h.get? b = some o → H b = none → b ∉ fs → b ∉ ex → h'.get? b = some o
  slot : ∀ b o, h.get? b = some o → H b = none → b ∈ fs → b ∉ ex → ∃ sl, h'.get? b = some { o with slots := sl }
  free : ∀ b o, h.get? b = some o → H b = none → b ∉ ex → H' b = none
  there : ∀ b o, h.get? b = some o → b ∉ ex → ∃ o', h'.get? b = some o'
  tups : ∀ b xs, H b = some (.tup xs) → H' b = some (.tup xs)
  frzs : ∀ b o u, H b = some (.frz o u) → H' b = some (.frz o u)
  tbls : ∀ b ps, H b = some (.tbl ps) → ∃ more, H' b = some (.tbl (ps ++ more))
section
variable {fs fs' ex ex' : List Addr} {H H1 H2 : Hp} {h h1 h2 h' : Heap} {a x e : Addr} {o : HO}
theorem Un.any (u : Un fs ex H H1 h h1) {b : Addr} {ob : Obj} (q : h.get? b = some ob) (n : H b = none) (hx : b ∉ ex) : ∃ sl, h1.get? b = some { ob with slots := sl } := by
  by_cases hb : b ∈ fs
  · exact u.slot b ob q n hb hx
  · exact ⟨ob.slots, u.keep b ob q n hb hx⟩
theorem Un.kept (k : ∀ b u, h.get? b = some u → h'.get? b = some u) : Un fs ex H H h h' :=
  ⟨fun b ob q _ _ _ => k b ob q, fun b ob q _ _ _ => ⟨ob.slots, k b ob q⟩, fun _ _ _ n _ => n, fun b ob q _ => ⟨ob, k b ob q⟩, fun _ _ q => q, fun _ _ _ q => q, fun _ ps q => ⟨#[], by rw [q]; simp⟩⟩
theorem Un.refl : Un fs ex H H h h := Un.kept fun _ _ q => q
theorem Un.laid (k : ∀ b u, h.get? b = some u → h'.get? b = some u) (hp : h.objs.size ≤ a) (hn : H a = none) : Un fs ex H (upd H a o) h h' where
  keep := fun b u q _ _ _ => k b u q
  slot := fun b u q _ _ _ => ⟨u.slots, k b u q⟩
  free := fun b u q n _ => by rw [zK (Nat.ne_of_lt (Nat.lt_of_lt_of_le (Heap.lt_size q) hp))]; exact n
  there := fun b u q _ => ⟨u, k b u q⟩
  tups := fun b xs q => by rw [zK (zk q hn)]; exact q
  frzs := fun b u xs q => by rw [zK (zk q hn)]; exact q
  tbls := fun b ps q => ⟨#[], by rw [zK (zk q hn), q]; simp⟩
theorem Un.write (mu : Mut (H x)) (he : e = x ∨ H e = some (.own x)) (k : ∀ b u, b ≠ e → h.get? b = some u → h'.get? b = some u) (heo : ∃ u, h'.get? e = some u) : Un fs ex H (upd H x o) h h' := by
  have hx : ∀ b, H b = none → b ≠ x := fun b n z => by subst z; rw [n] at mu; exact mu
  have hb : ∀ b, H b = none → b ≠ e := fun b n z => by
    subst z
    rcases he with r | r
    · exact hx b n r
    · rw [n] at r; cases r
  have hm : ∀ b u, H b = some u → ¬ Mut (some u) → b ≠ x := fun b u q nm z => by subst z; rw [q] at mu; exact nm mu
  refine ⟨fun b u q n _ _ => k b u (hb b n) q, fun b u q n _ _ => ⟨u.slots, k b u (hb b n) q⟩, fun b u q n _ => by rw [zK (hx b n)]; exact n, fun b u q _ => ?_, fun b xs q => by rw [zK (hm b _ q fun z => z)]; exact q, fun b u xs q => by rw [zK (hm b _ q fun z => z)]; exact q, fun b ps q => ⟨#[], by rw [zK (hm b _ q fun z => z), q]; simp⟩⟩
  by_cases hbe : b = e
  · subst hbe; exact heo
  · exact ⟨u, k b u hbe q⟩
end
def trk (h : Heap) (H : Hp) : List Addr := (List.range h.objs.size).filter fun a => (H a).isSome
def hidT (h : Heap) (H : Hp) : Heap := PySem.W.hideAll h (trk h H)
theorem hidT_size (h : Heap) (H : Hp) : (hidT h H).objs.size = h.objs.size := PySem.W.hideAll_size _ _
theorem hidT_get {h : Heap} {H : Hp} {b : Addr} {o : Obj} (e : h.get? b = some o) (n : H b = none) : (hidT h H).get? b = some o :=
  PySem.W.hideAll_get _ e fun hm => by
    have q : (H b).isSome = true := (List.mem_filter.mp hm).2
    rw [n] at q; simp at q
theorem of_hidT {h : Heap} {H : Hp} {b : Addr} {o : Obj} (e : (hidT h H).get? b = some o) : h.get? b = some o ∧ H b = none := by
  have e' : h.get? b = some o := PySem.W.of_hideAll (trk h H) e
  refine ⟨e', ?_⟩
  cases q : H b with
  | none => rfl
  | some x =>
    have hm : b ∈ trk h H := List.mem_filter.mpr ⟨List.mem_range.mpr (Heap.lt_size e'), by simp [q]⟩
    have z : (hidT h H).get? b = none := PySem.W.hideAll_none (trk h H) hm
    rw [z] at e; cases e
def allNews (g h : Heap) (L : Addr) : List (Addr × Obj) := (List.range h.objs.size).filterMap fun a => if a = L ∨ (g.get? a).isSome = true then none else (h.get? a).map fun o => (a, o)
def rest (g h : Heap) (L d : Addr) : List (Addr × Obj) := (allNews g h L).filter fun p => decide (p.1 ≠ d)
end L2
namespace L2
open PySem PySem.Spec PyProof.Rows
structure Mod (K : PySem.W.Frag) (mg : Str → Option Value) (base : Heap) : Prop where
  kin : K.In base
  glob : base.Ns mainGlobals mg
  blt : ∃ mb, base.Ns builtinsNs mb ∧ ∀ x : Str, x ≠ "__name__" → mb x = bootBuiltins x
  nolimit : base.NoLimit
structure Cx where
  prog : Program
  w : World
  K : PySem.W.Frag
  mg : Str → Option Value
  base : Heap
  A : Around
  N : List Str
  s₀ : Shared
  H₀ : Hp
  env : Env
  outer : List Env
  stack : List Env
  ex : List Addr
  fn : Str → Bool
  calm : Bool
  pn : List (Addr × Obj)
  xe : Value → Shared → Prop
def frs (l : List Env) : List Addr := l.filterMap (·.frame)
abbrev Cx.fs (X : Cx) : List Addr := frs X.outer
def Vis (sc : Scope) (x : Str) : Prop := sc.names.lookup x = some .local ∨ sc.names.lookup x = some .cell ∨ sc.names.lookup x = some .free
def Loc (sc : Scope) (x : Str) : Prop := sc.names.lookup x = some .local ∨ sc.names.lookup x = some .cell
def Look (env : Env) (h : Heap) (m : Str → Option Value) (x : Str) (u : Value) : Prop :=
  (env.kindOf x = some .local ∧ m x = some u) ∨ ((env.kindOf x = some .cell ∨ env.kindOf x = some .free) ∧ ∃ c, env.cells.lookup x = some c ∧ h.IsCell c (some u))
structure Cx.Ok (X : Cx) : Prop where
  mod : Mod X.K X.mg X.base
  kind : X.env.scope.kind = .function
  glob : X.env.globals = mainGlobals
  blt : X.env.builtins = builtinsNs
  above : X.s₀.heap.objs.size ≤ X.env.locals
  inj : ∀ x y c, X.env.cells.lookup x = some c → X.env.cells.lookup y = some c → x = y
  has : ∀ x, (X.env.kindOf x = some .cell ∨ X.env.kindOf x = some .free) → ∃ c, X.env.cells.lookup x = some c
  cab : ∀ x c, X.fn x = true → X.env.cells.lookup x = some c → X.s₀.heap.objs.size ≤ c
  hd : X.calm = true → X.A.handled = none
  frames : X.A.frames = some X.stack
  stk : X.stack = X.outer ∨ (X.stack = X.env :: X.outer ∧ X.env.frame = some X.env.locals)
  exf : ∀ b ∈ X.ex, b ≠ X.env.locals ∧ ∀ x c, X.env.cells.lookup x = some c → c ≠ b
  bs : ∀ b o, X.base.get? b = some o → X.s₀.heap.get? b = some o ∧ X.H₀ b = none
  bsz : X.base.objs.size ≤ X.s₀.heap.objs.size
  noex : ∀ b o, X.base.get? b = some o → b ∉ X.ex
  exfs : ∀ b ∈ X.ex, b ∉ X.fs
  funs : X.s₀.heap.FunFrames X.base X.outer
  frf : ∀ b ∈ X.fs, X.H₀ b = none
structure Inv (X : Cx) (pins : List (Addr × Obj)) (σ : List (Option V)) (H : Hp) (s : Shared) : Prop where
  ok : X.Ok
  os : s.os = X.s₀.os
  bare : AllBare s.gens
  base : Un X.fs X.ex X.H₀ H X.s₀.heap s.heap
  loc : ∃ m, s.heap.Ns X.env.locals m ∧ ∀ (i : Nat) (x : Str) (v : V), X.N[i]? = some x → σ[i]? = some (some v) → Vis X.env.scope x → ∃ u, RelV v u ∧ Look X.env s.heap m x u
  cell : ∀ x c, X.env.cells.lookup x = some c → ∃ v, s.heap.IsCell c v
  free : H X.env.locals = none
  freeC : ∀ x c, X.env.cells.lookup x = some c → H c = none
  pin : ∀ p ∈ X.pn ++ pins, s.heap.get? p.1 = some p.2 ∧ H p.1 = none ∧ p.1 ≠ X.env.locals ∧ p.1 ∉ X.fs ∧ ∀ v, p.2.data ≠ .cell v
  hok : HOk X.prog X.w H s.heap
  len : σ.length = X.N.length
section
variable {X : Cx} {pins : List (Addr × Obj)} {σ : List (Option V)} {H H' : Hp} {s : Shared} {h' : Heap}
theorem Cx.Ok.nofr (ok : X.Ok) {b : Addr} {o : Obj} (e : X.base.get? b = some o) : b ∉ X.fs := fun hb => by
  have := (ok.funs.mem hb).1
  rw [e] at this; cases this
theorem Inv.bs (I : Inv X pins σ H s) : ∀ b o, X.base.get? b = some o → s.heap.get? b = some o ∧ H b = none := fun b o e =>
  ⟨I.base.keep b o (I.ok.bs b o e).1 (I.ok.bs b o e).2 (I.ok.nofr e) (I.ok.noex b o e), I.base.free b o (I.ok.bs b o e).1 (I.ok.bs b o e).2 (I.ok.noex b o e)⟩
theorem Inv.bk (I : Inv X pins σ H s) : ∀ b o, X.base.get? b = some o → s.heap.get? b = some o := fun b o e => (I.bs b o e).1
theorem Inv.mod (I : Inv X pins σ H s) : Mod X.K X.mg X.base := I.ok.mod
theorem Inv.kIn (I : Inv X pins σ H s) : X.K.In s.heap := I.ok.mod.kin.keeps I.bk
theorem Inv.lt (I : Inv X pins σ H s) : X.env.locals < s.heap.objs.size := let ⟨_, hn, _⟩ := I.loc; hn.lt
theorem Inv.sz (I : Inv X pins σ H s) : X.s₀.heap.objs.size ≤ s.heap.objs.size := Nat.le_trans I.ok.above (Nat.le_of_lt I.lt)
theorem Inv.nofs (I : Inv X pins σ H s) {a : Addr} (h : s.heap.objs.size ≤ a) : a ∉ X.fs := fun hb => by
  obtain ⟨_, o, ho, _⟩ := I.ok.funs.mem hb
  exact absurd (Nat.lt_of_lt_of_le (Heap.lt_size ho) (Nat.le_trans I.sz h)) (Nat.lt_irrefl _)
theorem Inv.cne (I : Inv X pins σ H s) : ∀ x c, X.env.cells.lookup x = some c → c ≠ X.env.locals := fun x c e z => by
  obtain ⟨v, o, ho, hd⟩ := I.cell x c e
  obtain ⟨m, ⟨o', es, ep, ho', hd', _⟩, _⟩ := I.loc
  rw [z, ho'] at ho; cases ho; rw [hd'] at hd; cases hd
theorem Inv.funs (I : Inv X pins σ H s) : s.heap.FunFrames X.base X.outer := by
  have all : ∀ (l : List Env), (∀ b ∈ frs l, b ∈ X.fs) → X.s₀.heap.FunFrames X.base l → s.heap.FunFrames X.base l := by
    intro l
    induction l with
    | nil => intro _ _; trivial
    | cons env r ih =>
      intro hs hl
      obtain ⟨hk, ⟨L, o, hf, hn, ho, hd⟩, hr⟩ := hl
      have hL : L ∈ X.fs := hs L (by unfold frs; rw [List.filterMap_cons, hf]; exact List.mem_cons_self)
      obtain ⟨sl, e⟩ := I.base.slot L o ho (I.ok.frf L hL) hL fun z => I.ok.exfs L z hL
      exact ⟨hk, ⟨L, _, hf, hn, e, hd⟩, ih (fun b hb => hs b (by unfold frs; rw [List.filterMap_cons, hf]; exact List.mem_cons_of_mem _ hb)) hr⟩
  exact all X.outer (fun _ hb => hb) I.ok.funs
theorem Inv.stack (I : Inv X pins σ H s) : s.heap.FunFrames X.base X.stack := by
  rcases I.ok.stk with e | ⟨e, hf⟩
  · rw [e]; exact I.funs
  · rw [e]
    obtain ⟨m, hn, _⟩ := I.loc
    refine .cons (by rw [I.ok.kind]; decide) hf hn ?_ I.funs
    exact Heap.get?_none_of_le (Nat.le_trans I.ok.bsz I.ok.above)
theorem Inv.stkSub (I : Inv X pins σ H s) : ∀ b ∈ frs X.stack, b ∈ X.env.locals :: X.fs := fun b hb => by
  rcases I.ok.stk with e | ⟨e, hf⟩
  · rw [e] at hb; exact List.mem_cons_of_mem _ hb
  · rw [e] at hb
    unfold frs at hb
    rw [List.filterMap_cons, hf] at hb
    exact hb
theorem Inv.stkFree (I : Inv X pins σ H s) : ∀ b ∈ frs X.stack, H b = none := fun b hb => by
  rcases List.mem_cons.mp (I.stkSub b hb) with e | hb
  · rw [e]; exact I.free
  · obtain ⟨_, o, ho, _⟩ := I.ok.funs.mem hb
    exact I.base.free b o ho (I.ok.frf b hb) fun z => I.ok.exfs b z hb
theorem Inv.step {g' : Array GenState} {t' : Nat} {d' : Drawn} {ch : List Addr} (I : Inv X pins σ H s)
    (hch : ∀ b ∈ ch, (b ∈ X.ex ∨ X.s₀.heap.objs.size ≤ b) ∧ b ≠ X.env.locals ∧ (∀ x c, X.env.cells.lookup x = some c → c ≠ b) ∧ ∀ p ∈ X.pn ++ pins, p.1 ≠ b)
    (keep : ∀ b o, b ≠ X.env.locals → b ∉ X.fs → b ∉ ch → s.heap.get? b = some o → H b = none → h'.get? b = some o)
    (slot : ∀ b o, b ≠ X.env.locals → b ∈ X.fs → b ∉ ch → s.heap.get? b = some o → H b = none → ∃ sl, h'.get? b = some { o with slots := sl }) (free : ∀ b o, b ∉ ch → s.heap.get? b = some o → H b = none → H' b = none)
    (there : ∀ b o, b ∉ ch → s.heap.get? b = some o → ∃ o', h'.get? b = some o')
    (tups : ∀ b xs, H b = some (.tup xs) → H' b = some (.tup xs)) (frzs : ∀ b o u, H b = some (.frz o u) → H' b = some (.frz o u)) (tbls : ∀ b ps, H b = some (.tbl ps) → ∃ more, H' b = some (.tbl (ps ++ more)))
    (ns : ∀ m, s.heap.Ns X.env.locals m → h'.Ns X.env.locals m) (hok : HOk X.prog X.w H' h') (hg : AllBare g') :
    Inv X pins σ H' { s with heap := h', gens := g', drawn := d', toks := t' } := by
  have neL : ∀ b o, X.s₀.heap.get? b = some o → b ≠ X.env.locals := fun b o e => Nat.ne_of_lt (Nat.lt_of_lt_of_le (Heap.lt_size e) I.ok.above)
  have neC : ∀ b o, X.s₀.heap.get? b = some o → b ∉ X.ex → b ∉ ch := fun b o e hx hb => by
    rcases (hch b hb).1 with z | z
    · exact hx z
    · exact absurd (Nat.lt_of_lt_of_le (Heap.lt_size e) z) (Nat.lt_irrefl _)
  have cellK : ∀ x c, X.env.cells.lookup x = some c → ∀ v, s.heap.IsCell c v → h'.IsCell c v := fun x c e v ⟨o, ho, hd⟩ => by
    have nch : c ∉ ch := fun z => (hch c z).2.2.1 x c e rfl
    by_cases hc : c ∈ X.fs
    · obtain ⟨sl, q⟩ := slot c o (I.cne x c e) hc nch ho (I.freeC x c e)
      exact ⟨_, q, hd⟩
    · exact ⟨o, keep c o (I.cne x c e) hc nch ho (I.freeC x c e), hd⟩
  refine ⟨I.ok, I.os, hg, ⟨fun b o e n hb hx => ?_, fun b o e n hb hx => ?_, fun b o e n hx => ?_, fun b o e hx => ?_, fun b xs e => tups b xs (I.base.tups b xs e), fun b o xs e => frzs b o xs (I.base.frzs b o xs e), fun b ps e => ?_⟩, ?_, fun x c e => ?_, ?_, fun x c e => ?_, fun p hp => ?_, hok, I.len⟩
  · exact keep b o (neL b o e) hb (neC b o e hx) (I.base.keep b o e n hb hx) (I.base.free b o e n hx)
  · obtain ⟨sl, e1⟩ := I.base.slot b o e n hb hx
    obtain ⟨sl', e2⟩ := slot b _ (neL b o e) hb (neC b o e hx) e1 (I.base.free b o e n hx)
    exact ⟨sl', e2⟩
  · obtain ⟨o', e1⟩ := I.base.there b o e hx
    exact free b o' (neC b o e hx) e1 (I.base.free b o e n hx)
  · obtain ⟨o', e1⟩ := I.base.there b o e hx
    exact there b o' (neC b o e hx) e1
  · obtain ⟨m1, e1⟩ := I.base.tbls b ps e
    obtain ⟨m2, e2⟩ := tbls b _ e1
    exact ⟨m1 ++ m2, by rw [e2, Array.append_assoc]⟩
  · obtain ⟨m, hn, hl⟩ := I.loc
    refine ⟨m, ns m hn, fun i x v e1 e2 e3 => ?_⟩
    obtain ⟨u, r, l⟩ := hl i x v e1 e2 e3
    refine ⟨u, r, ?_⟩
    rcases l with l | ⟨k, c, e, z⟩
    · exact .inl l
    · exact .inr ⟨k, c, e, cellK x c e _ z⟩
  · obtain ⟨v, z⟩ := I.cell x c e
    exact ⟨v, cellK x c e v z⟩
  · obtain ⟨m, ⟨o, _, _, ho, _⟩, _⟩ := I.loc
    exact free _ o (fun z => (hch _ z).2.1 rfl) ho I.free
  · obtain ⟨v, o, ho, hd⟩ := I.cell x c e
    exact free c o (fun z => (hch c z).2.2.1 x c e rfl) ho (I.freeC x c e)
  · obtain ⟨e, n, ne, nf, d⟩ := I.pin p hp
    have nch : p.1 ∉ ch := fun z => (hch p.1 z).2.2.2 p hp rfl
    exact ⟨keep p.1 p.2 ne nf nch e n, free p.1 p.2 nch e n, ne, nf, d⟩
theorem Inv.un {t' : Nat} (I : Inv X pins σ H s) (u : Un X.fs [] H H' s.heap h') (hok : HOk X.prog X.w H' h') : Inv X pins σ H' { s with heap := h', toks := t' } := by
  obtain ⟨m, ⟨o, es, ep, ho, r⟩, _⟩ := id I.loc
  obtain ⟨sl, hL⟩ := u.any ho I.free (by simp)
  exact I.step (g' := s.gens) (d' := s.drawn) (ch := []) (fun _ z => nomatch z) (fun b o _ hb _ e n => u.keep b o e n hb (by simp)) (fun b o _ hb _ e n => u.slot b o e n hb (by simp)) (fun b o _ e n => u.free b o e n (by simp)) (fun b o _ e => u.there b o e (by simp)) u.tups u.frzs u.tbls (fun m' hm => by
    obtain ⟨o', es', ep', ho', r'⟩ := hm
    rw [ho] at ho'; cases ho'
    exact ⟨_, es', ep', hL, r'⟩) hok I.bare
theorem Inv.call {g' : Array GenState} {t' : Nat} {d' : Drawn} {ch : List Addr} (I : Inv X pins σ H s) (u : Un (frs X.stack) ch H H' s.heap h') (hok : HOk X.prog X.w H' h') (hg : AllBare g')
    (hch : ∀ b ∈ ch, (b ∈ X.ex ∨ X.s₀.heap.objs.size ≤ b) ∧ b ≠ X.env.locals ∧ (∀ x c, X.env.cells.lookup x = some c → c ≠ b) ∧ ∀ p ∈ X.pn ++ pins, p.1 ≠ b) :
    Inv X pins σ H' { s with heap := h', gens := g', drawn := d', toks := t' } := by
  obtain ⟨m, ⟨o, es, ep, ho, r⟩, _⟩ := id I.loc
  obtain ⟨sl, hL⟩ := u.any ho I.free fun z => (hch _ z).2.1 rfl
  exact I.step (ch := ch) hch (fun b o hL hb hc e n => u.keep b o e n (fun z => (List.mem_cons.mp (I.stkSub b z)).elim hL hb) hc) (fun b o _ _ hc e n => u.any e n hc) (fun b o hc e n => u.free b o e n hc) (fun b o hc e => u.there b o e hc) u.tups u.frzs u.tbls (fun m' hm => by
    obtain ⟨o', es', ep', ho', r'⟩ := hm
    rw [ho] at ho'; cases ho'
    exact ⟨_, es', ep', hL, r'⟩) hok hg
theorem Inv.turned {t' : Nat} {it : Addr} (I : Inv X pins σ H s) (k : ∀ b o, b ≠ it → s.heap.get? b = some o → h'.get? b = some o) (hn : H it = none) (hL : it ≠ X.env.locals)
    (h1 : it ∈ X.ex ∨ X.s₀.heap.objs.size ≤ it) (h2 : ∀ x c, X.env.cells.lookup x = some c → c ≠ it) (h3 : ∀ p ∈ X.pn ++ pins, p.1 ≠ it) : Inv X pins σ H { s with heap := h', toks := t' } := by
  have nit : ∀ b u, H b = some u → b ≠ it := fun b u e z => by rw [z, hn] at e; cases e
  refine I.step (g' := s.gens) (d' := s.drawn) (ch := [it]) (fun b hb => ?_) (fun b o _ _ hc e _ => k b o (fun z => hc (by simp [z])) e) (fun b o _ _ hc e _ => ⟨o.slots, k b o (fun z => hc (by simp [z])) e⟩) (fun _ _ _ _ n => n)
    (fun b o hc e => ⟨o, k b o (fun z => hc (by simp [z])) e⟩) (fun _ _ e => e) (fun _ _ _ e => e) (fun b ps e => ⟨#[], by rw [e]; simp⟩) (fun m hm => ?_) (fun b u e => ?_) I.bare
  · have e : b = it := by simpa using hb
    subst e
    exact ⟨h1, hL, h2, h3⟩
  · obtain ⟨o, es, ep, ho, r⟩ := hm
    exact ⟨o, es, ep, k _ o (Ne.symm hL) ho, r⟩
  · refine (I.hok b u e).stay (fun c v hc q => k c v ?_ q) (fun _ q => q) fun _ _ q => q
    rcases hc with z | z
    · rw [z]; exact nit b u e
    · exact nit c _ z
theorem Inv.tok (I : Inv X pins σ H s) (t : Nat) : Inv X pins σ H { s with toks := t } := I.un (h' := s.heap) (t' := t) Un.refl I.hok
theorem Inv.kept {t' : Nat} (I : Inv X pins σ H s) (k : ∀ b u, s.heap.get? b = some u → h'.get? b = some u) : Inv X pins σ H { s with heap := h', toks := t' } := I.un (Un.kept k) (I.hok.kept k)
theorem Inv.laid {a : Addr} {o : HO} {t' : Nat} (I : Inv X pins σ H s) (k : ∀ b u, s.heap.get? b = some u → h'.get? b = some u) (hp : s.heap.objs.size ≤ a) (new : ObjOk X.prog X.w (upd H a o) h' a o) :
    Inv X pins σ (upd H a o) { s with heap := h', toks := t' } := I.un (Un.laid k hp (I.hok.fresh hp)) (I.hok.laid k hp new)
theorem Inv.write {x e : Addr} {o : HO} {t' : Nat} (I : Inv X pins σ H s) (mu : Mut (H x)) (he : e = x ∨ H e = some (.own x)) (k : ∀ b u, b ≠ e → s.heap.get? b = some u → h'.get? b = some u) (heo : ∃ u, h'.get? e = some u)
    (new : ObjOk X.prog X.w (upd H x o) h' x o) : Inv X pins σ (upd H x o) { s with heap := h', toks := t' } := I.un (Un.write mu he k heo) (I.hok.write mu he k heo new)
theorem Inv.weak {σ' : List (Option V)} (I : Inv X pins σ H s) (hl : σ'.length = σ.length) (w : ∀ (i : Nat) v, σ'[i]? = some (some v) → σ[i]? = some (some v)) : Inv X pins σ' H s :=
  ⟨I.ok, I.os, I.bare, I.base, let ⟨m, hn, hl'⟩ := I.loc; ⟨m, hn, fun i x v e1 e2 e3 => hl' i x v e1 (w i v e2) e3⟩, I.cell, I.free, I.freeC, I.pin, I.hok, hl.trans I.len⟩
theorem Inv.pins_of {pins' : List (Addr × Obj)} (I : Inv X pins σ H s) (h : ∀ p ∈ pins', s.heap.get? p.1 = some p.2 ∧ H p.1 = none ∧ p.1 ≠ X.env.locals ∧ p.1 ∉ X.fs ∧ ∀ v, p.2.data ≠ .cell v) : Inv X pins' σ H s :=
  ⟨I.ok, I.os, I.bare, I.base, I.loc, I.cell, I.free, I.freeC, fun p hp => (List.mem_append.mp hp).elim (fun z => I.pin p (List.mem_append_left _ z)) (h p), I.hok, I.len⟩
theorem nodup_ix {N : List Str} (hN : N.Nodup) {i j : Nat} {x : Str} (a : N[i]? = some x) (b : N[j]? = some x) : i = j := by
  obtain ⟨h1, e1⟩ := List.getElem?_eq_some_iff.mp a
  obtain ⟨h2, e2⟩ := List.getElem?_eq_some_iff.mp b
  exact (List.getElem_inj hN).mp (e1.trans e2.symm)
theorem store_ok2 {M : Model} {A : Around} {E : Value → Shared → Prop} {i : Nat} {x : Str} {v : V} {u : Value} {Q : Unit → Shared → Prop} (I : Inv X pins σ H s) (hN : X.N.Nodup) (hi : X.N[i]? = some x) (hx : Loc X.env.scope x) (r : RelV v u)
    (h : ∀ s', Inv X pins (σ.set i (some v)) H s' → (∃ a, Heap.SameBut a s.heap s'.heap ∧ (a = X.env.locals ∨ X.env.cells.lookup x = some a)) → Q () s') (hf : X.fn x = true ∨ X.env.scope.names.lookup x = some .local := by first | exact .inl rfl | exact .inr rfl | assumption) : wpAny M A (storeName X.env x u) Q E s := by
  obtain ⟨m, hn, hl⟩ := id I.loc
  have hcls : (X.env.scope.kind == .class || (X.env.scope.kind == .module && X.env.locals != X.env.globals)) = false := by rw [I.ok.kind]; rfl
  have hiσ : i < σ.length := by rw [I.len]; exact (List.getElem?_eq_some_iff.mp hi).1
  have cne := I.cne
  have tracked : ∀ {a : Addr} {h' : Heap}, (∃ o, s.heap.get? a = some o ∧ H a = none) → Heap.SameBut a s.heap h' → HOk X.prog X.w H h' := fun {a h'} ha hs b ob e => by
    obtain ⟨_, _, hfree⟩ := ha
    refine (I.hok b ob e).stay (fun c w' hc q => (hs.2 c ?_).trans q) (fun _ q => q) fun _ _ q => q
    rintro rfl
    rcases hc with rfl | hc
    · rw [hfree] at e; cases e
    · rw [hfree] at hc; cases hc
  rcases hx with hk | hk
  · refine wpAny_storeName_local hk hn (fun h' hn' hs => ?_) hcls
    obtain ⟨oL, _, _, hoL, _⟩ := id hn
    refine h _ ⟨I.ok, I.os, I.bare, ⟨fun b o e n hb hx => ?_, fun b o e n hb hx => ?_, I.base.free, fun b o e hx => ?_, I.base.tups, I.base.frzs, I.base.tbls⟩, ⟨_, hn', fun j y v' e1 e2 e3 => ?_⟩, fun y c e => ?_, I.free, I.freeC, fun p hp => ?_, tracked ⟨oL, hoL, I.free⟩ hs, by simpa using I.len⟩ ⟨_, hs, .inl rfl⟩
    · exact (hs.2 b (Nat.ne_of_lt (Nat.lt_of_lt_of_le (Heap.lt_size e) I.ok.above))).trans (I.base.keep b o e n hb hx)
    · obtain ⟨sl, e1⟩ := I.base.slot b o e n hb hx
      exact ⟨sl, (hs.2 b (Nat.ne_of_lt (Nat.lt_of_lt_of_le (Heap.lt_size e) I.ok.above))).trans e1⟩
    · obtain ⟨o', e1⟩ := I.base.there b o e hx
      exact ⟨o', (hs.2 b (Nat.ne_of_lt (Nat.lt_of_lt_of_le (Heap.lt_size e) I.ok.above))).trans e1⟩
    · by_cases hj : j = i
      · subst hj
        rw [hi] at e1; cases e1
        rw [List.getElem?_set_self hiσ] at e2
        cases e2
        exact ⟨u, r, .inl ⟨hk, by simp⟩⟩
      · rw [List.getElem?_set_ne (Ne.symm hj)] at e2
        obtain ⟨u', r', q⟩ := hl j y v' e1 e2 e3
        refine ⟨u', r', ?_⟩
        rcases q with ⟨k, e⟩ | ⟨k, c, e, z⟩
        · refine .inl ⟨k, ?_⟩
          have : y ≠ x := fun e => hj (nodup_ix hN e1 (e ▸ hi))
          simp [this, e]
        · exact .inr ⟨k, c, e, z.sameBut hs (cne y c e)⟩
    · obtain ⟨w', z⟩ := I.cell y c e
      exact ⟨w', z.sameBut hs (cne y c e)⟩
    · obtain ⟨e, n, ne, nf, d⟩ := I.pin p hp
      exact ⟨(hs.2 p.1 ne).trans e, n, ne, nf, d⟩
  · have hfn : X.fn x = true := by
      rcases hf with z | z
      · exact z
      · rw [z] at hk; cases hk
    obtain ⟨c, hc⟩ := I.ok.has x (.inl hk)
    obtain ⟨w', z⟩ := I.cell x c hc
    refine wpAny_storeName_cell I.ok.kind hk hc z (fun h' hc' hs => ?_)
    obtain ⟨oc, hoc, hocd⟩ := id z
    refine h { s with heap := h' } ⟨I.ok, I.os, I.bare, ⟨fun b o e n hb hx => ?_, fun b o e n hb hx => ?_, I.base.free, fun b o e hx => ?_, I.base.tups, I.base.frzs, I.base.tbls⟩, ⟨m, hn.sameBut hs (Ne.symm (cne x c hc)), fun j y v' e1 e2 e3 => ?_⟩, fun y c' e => ?_, I.free, I.freeC, fun p hp => ?_, tracked ⟨oc, hoc, I.freeC x c hc⟩ hs, by simpa using I.len⟩ ⟨c, hs, .inr hc⟩
    · exact (hs.2 b (Nat.ne_of_lt (Nat.lt_of_lt_of_le (Heap.lt_size e) (I.ok.cab x c hfn hc)))).trans (I.base.keep b o e n hb hx)
    · obtain ⟨sl, e1⟩ := I.base.slot b o e n hb hx
      exact ⟨sl, (hs.2 b (Nat.ne_of_lt (Nat.lt_of_lt_of_le (Heap.lt_size e) (I.ok.cab x c hfn hc)))).trans e1⟩
    · obtain ⟨o', e1⟩ := I.base.there b o e hx
      exact ⟨o', (hs.2 b (Nat.ne_of_lt (Nat.lt_of_lt_of_le (Heap.lt_size e) (I.ok.cab x c hfn hc)))).trans e1⟩
    · by_cases hj : j = i
      · subst hj
        rw [hi] at e1; cases e1
        rw [List.getElem?_set_self hiσ] at e2
        cases e2
        exact ⟨u, r, .inr ⟨.inl hk, c, hc, hc'⟩⟩
      · rw [List.getElem?_set_ne (Ne.symm hj)] at e2
        obtain ⟨u', r', q⟩ := hl j y v' e1 e2 e3
        refine ⟨u', r', ?_⟩
        rcases q with q | ⟨k, c', e, z'⟩
        · exact .inl q
        · refine .inr ⟨k, c', e, z'.sameBut hs ?_⟩
          rintro rfl
          exact hj (nodup_ix hN e1 (I.ok.inj _ _ _ e hc ▸ hi))
    · by_cases hcc : c' = c
      · subst hcc; exact ⟨_, hc'⟩
      · obtain ⟨w2, z2⟩ := I.cell y c' e
        exact ⟨w2, z2.sameBut hs hcc⟩
    · obtain ⟨e, n, ne, nf, d⟩ := I.pin p hp
      refine ⟨(hs.2 p.1 ?_).trans e, n, ne, nf, d⟩
      intro q
      rw [q, hoc] at e
      have q' : oc = p.2 := Option.some.inj e
      exact d w' (by rw [← q']; exact hocd)
theorem Y4 {M : Model} {A : Around} {E : Value → Shared → Prop} {i : Nat} {x : Str} {v : V} {u : Value} {Q : Unit → Shared → Prop} (I : Inv X pins σ H s) (hN : X.N.Nodup) (hi : X.N[i]? = some x) (hx : Loc X.env.scope x) (r : RelV v u)
    (h : ∀ s', Inv X pins (σ.set i (some v)) H s' → Q () s') (hf : X.fn x = true ∨ X.env.scope.names.lookup x = some .local := by first | exact .inl rfl | exact .inr rfl | assumption) : wpAny M A (storeName X.env x u) Q E s :=
  store_ok2 I hN hi hx r (fun s' I' _ => h s' I') hf
theorem Inv.call' {s' : Shared} {ch : List Addr} (I : Inv X pins σ H s) (ho : s'.os = s.os) (u : Un (frs X.stack) ch H H' s.heap s'.heap) (hok : HOk X.prog X.w H' s'.heap) (hg : AllBare s'.gens)
    (hch : ∀ b ∈ ch, (b ∈ X.ex ∨ X.s₀.heap.objs.size ≤ b) ∧ b ≠ X.env.locals ∧ (∀ x c, X.env.cells.lookup x = some c → c ≠ b) ∧ ∀ p ∈ X.pn ++ pins, p.1 ≠ b) : Inv X pins σ H' s' := by
  obtain ⟨h', g', d', t', o'⟩ := s'
  have e : o' = s.os := ho
  subst e
  exact I.call (g' := g') (t' := t') (d' := d') u hok hg hch
end
abbrev XK := Value → Option Addr → Hp → Prop
abbrev St := List (Option V)
abbrev VK := V → Hp → Prop
abbrev TE := St → Hp → VK → Prop
abbrev TT := St → Hp → (Bool → Hp → Prop) → Prop
abbrev TA := St → Hp → (List V → Hp → Prop) → Prop
structure Ends where
  nx : St → Hp → Prop
  rt : VK
  bk : St → Hp → Prop := fun _ _ => False
  ct : St → Hp → Prop := fun _ _ => False
abbrev TS := Ends → St → Hp → Prop
def EP (X : Cx) (pins : List (Addr × Obj)) (σ : St) (Q : VK) (u : Value) (s' : Shared) : Prop := ∃ v H', Inv X pins σ H' s' ∧ RelV v u ∧ Q v H'
def TP (X : Cx) (pins : List (Addr × Obj)) (σ : St) (Q : Bool → Hp → Prop) (b : Bool) (s' : Shared) : Prop := ∃ H', Inv X pins σ H' s' ∧ Q b H'
def AP (X : Cx) (pins : List (Addr × Obj)) (σ : St) (Q : List V → Hp → Prop) (us : List Value) (s' : Shared) : Prop := ∃ vs H', Inv X pins σ H' s' ∧ Vals vs us ∧ Q vs H'
def SP (X : Cx) (pins : List (Addr × Obj)) (D : Ends) (f : Flow) (s' : Shared) : Prop :=
  match f with
  | .next => ∃ σ' H', Inv X pins σ' H' s' ∧ D.nx σ' H'
  | .brk => ∃ σ' H', Inv X pins σ' H' s' ∧ D.bk σ' H'
  | .cont => ∃ σ' H', Inv X pins σ' H' s' ∧ D.ct σ' H'
  | .ret u => ∃ v σ' H', Inv X pins σ' H' s' ∧ RelV v u ∧ D.rt v H'
def PE (X : Cx) (e : Expr) (t : TE) : Prop :=
  ∀ (pins : List (Addr × Obj)) (s : Shared) (σ : St) (H : Hp) (Q : VK), Inv X pins σ H s → t σ H Q → wpAny (model X.prog X.w) X.A (eval e X.env) (EP X pins σ Q) X.xe s
def PT (X : Cx) (e : Expr) (t : TT) : Prop :=
  ∀ (pins : List (Addr × Obj)) (s : Shared) (σ : St) (H : Hp) (Q : Bool → Hp → Prop), Inv X pins σ H s → t σ H Q → wpAny (model X.prog X.w) X.A (isTrue e X.env (eval e X.env)) (TP X pins σ Q) X.xe s
def PW (X : Cx) (e : Expr) (t : TT) : Prop :=
  ∀ (whole : Sem Value) (pins : List (Addr × Obj)) (s : Shared) (σ : St) (H : Hp) (Q : Bool → Hp → Prop), Inv X pins σ H s → t σ H Q → wpAny (model X.prog X.w) X.A (isTrue e X.env whole) (TP X pins σ Q) X.xe s
theorem PW.pt {X : Cx} {e : Expr} {t : TT} (h : PW X e t) : PT X e t := h _
def PA (X : Cx) (es : List Expr) (t : TA) : Prop :=
  ∀ (pos : Pos) (pins : List (Addr × Obj)) (s : Shared) (σ : St) (H : Hp) (Q : List V → Hp → Prop), Inv X pins σ H s → t σ H Q → wpAny (model X.prog X.w) X.A (spliced (backTo pos (starEach es X.env))) (AP X pins σ Q) X.xe s
def PS (X : Cx) (st : Stmt) (t : TS) : Prop :=
  ∀ (pins : List (Addr × Obj)) (s : Shared) (σ : St) (H : Hp) (D : Ends), Inv X pins σ H s → t D σ H → wpAny (model X.prog X.w) X.A (exec st X.env) (SP X pins D) X.xe s
def PSs (X : Cx) (st : List Stmt) (t : TS) : Prop :=
  ∀ (pins : List (Addr × Obj)) (s : Shared) (σ : St) (H : Hp) (D : Ends), Inv X pins σ H s → t D σ H → wpAny (model X.prog X.w) X.A (execs st X.env) (SP X pins D) X.xe s
theorem thn {α : Type} {t : Sem α} {Q Q' : α → Shared → Prop} {M : Model} {A : Around} {E : Value → Shared → Prop} {s : Shared} (h : wpAny M A t Q E s) (hQ : ∀ a s, Q a s → Q' a s) : wpAny M A t Q' E s := wpAny_mono h hQ fun _ _ x => x
end L2
namespace L2
open PySem PySem.Spec PyProof.Rows
section
variable {X : Cx}
def tVar (i : Nat) : TE := fun σ H Q => ∃ v, σ[i]? = some (some v) ∧ Q v H
def tC (v : V) : TE := fun _ H Q => Q v H
theorem pe_var {i : Nat} {x : Str} {pos : Pos} (hN : X.N[i]? = some x) (hv : Vis X.env.scope x) (hd : (x == ("__debug__" : Str)) = false := by decide) (hcd : (x == ("__classdict__" : Str)) = false := by decide) : PE X (.Name x pos) (tVar i) := by
  intro pins s σ H Q I h
  obtain ⟨v, e, h⟩ := h
  obtain ⟨m, hn, hl⟩ := I.loc
  obtain ⟨u, r, l⟩ := hl i x v hN e hv
  have fin : EP X pins σ Q u s := ⟨v, H, I, r, h⟩
  rcases l with ⟨hk, hm⟩ | ⟨hk, c, hc, hcell⟩
  · exact wpAny_Name (wpAny_loadName_local I.ok.kind hk hn hm fin) hd
  · rcases hk with hk | hk
    · exact wpAny_Name (wpAny_loadName_cell I.ok.kind hk hc hcell fin) hd
    · exact wpAny_Name (wpAny_loadName_free I.ok.kind hk hc hcell fin hcd) hd
theorem qw {i j pos} : PE X (.Constant (.int i) j pos) (tC (.int i)) := fun _ _ _ H _ I h => wpAny_Constant_int ⟨.int i, H, I.tok _, ⟨_, rfl⟩, h⟩
theorem pe_bl {b j pos} : PE X (.Constant (.bool b) j pos) (tC (.bl b)) := fun _ _ _ H _ I h => Constant_bool ⟨.bl b, H, I, rfl, h⟩
theorem vX {j pos} : PE X (.Constant .none j pos) (tC .non) := fun _ _ _ H _ I h => Constant_none ⟨.non, H, I, rfl, h⟩
theorem qV {x j pos} : PE X (.Constant (.str x) j pos) (tC (.str x)) := fun _ _ _ H _ I h => Calls.Constant_str ⟨.str x, H, I.tok _, ⟨_, rfl⟩, h⟩
def Gl (X : Cx) (x : Str) : Prop := X.env.kindOf x = some .globalImplicit
theorem ld_glob {E : Value → Shared → Prop} {pins : List (Addr × Obj)} {s : Shared} {σ : St} {H : Hp} {x : Str} {u : Value} {pos : Pos} {Q : Value → Shared → Prop} (I : Inv X pins σ H s) (hg : Gl X x) (hm : X.mg x = some u) (h : Q u s)
    (hd : (x == ("__debug__" : Str)) = false := by decide) : wpAny (model X.prog X.w) X.A (eval (.Name x pos) X.env) Q E s :=
  Calls.Name_function_global I.ok.kind hg (Calls.loadGlobal_global (by rw [I.ok.glob]; exact I.mod.glob.keeps I.bk) hm h) hd
theorem ld_blt {E : Value → Shared → Prop} {pins : List (Addr × Obj)} {s : Shared} {σ : St} {H : Hp} {x : Str} {u : Value} {pos : Pos} {Q : Value → Shared → Prop} (I : Inv X pins σ H s) (hg : Gl X x) (hm : X.mg x = none) (hv : bootBuiltins x = some u) (h : Q u s)
    (hn : x ≠ "__name__" := by decide) (hd : (x == ("__debug__" : Str)) = false := by decide) : wpAny (model X.prog X.w) X.A (eval (.Name x pos) X.env) Q E s := by
  obtain ⟨mb, h1, h2⟩ := I.mod.blt
  exact Calls.Name_function_global I.ok.kind hg (Calls.loadGlobal_builtin (by rw [I.ok.glob]; exact I.mod.glob.keeps I.bk) hm (by rw [I.ok.blt]; exact h1.keeps I.bk) ((h2 x hn).trans hv) h) hd
theorem xq {x : Str} {v : V} {u : Value} {pos : Pos} (hg : Gl X x) (hm : X.mg x = some u) (r : RelV v u) (hd : (x == ("__debug__" : Str)) = false := by decide) : PE X (.Name x pos) (tC v) :=
  fun _ _ _ H _ I h => ld_glob I hg hm ⟨v, H, I, r, h⟩ hd
theorem x4 {x : Str} {v : V} {u : Value} {pos : Pos} (hg : Gl X x) (hm : X.mg x = none) (hv : bootBuiltins x = some u) (r : RelV v u) (hn : x ≠ "__name__" := by decide) (hd : (x == ("__debug__" : Str)) = false := by decide) : PE X (.Name x pos) (tC v) :=
  fun _ _ _ H _ I h => ld_blt I hg hm hv ⟨v, H, I, r, h⟩ hn hd
variable {a b : Expr} {ta tb : TE} {pos : Pos}
def tB (t : TE) : TT := fun σ H Q => t σ H fun x H1 => ∃ c, x = .bl c ∧ Q c H1
theorem jz {e : Expr} {t : TE} (h : PE X e t) (he : ∀ whole, isTrue e X.env whole = (do let v ← whole; standAt e.pos; holding [v] (truthy v)) := by intro _; rfl) : PT X e (tB t) := by
  intro pins s σ H Q I hw
  refine isTrue_plain (thn (h pins s σ H _ I hw) fun v s1 ⟨x, H1, I1, r1, q1⟩ => ?_) (he _)
  obtain ⟨d, rfl, q⟩ := q1
  cases r1
  exact wpAny_truthy_bool ⟨H1, I1, q⟩
variable {tA tB' : TT} {rest : List Expr}
def tAnd (t u : TT) : TT := fun σ H Q => t σ H fun c H1 => if c = true then u σ H1 Q else Q false H1
def tOr (t u : TT) : TT := fun σ H Q => t σ H fun c H1 => if c = true then Q true H1 else u σ H1 Q
def tNot (t : TT) : TT := fun σ H Q => t σ H fun c H1 => Q (!c) H1
theorem Qv (ha : PT X a tA) : PW X (.BoolOp .And [a] pos) tA := by
  intro wh pins s σ H Q I h
  refine isTrue_and (thn (ha pins s σ H Q I h) fun c s1 e => ?_)
  cases c with
  | true => exact isTrue_and_nil e
  | false => exact e
theorem wX (ha : PT X a tA) : PW X (.BoolOp .Or [a] pos) tA := by
  intro wh pins s σ H Q I h
  refine isTrue_or (thn (ha pins s σ H Q I h) fun c s1 e => ?_)
  cases c with
  | false => exact isTrue_or_nil e
  | true => exact e
theorem Y2 (ha : PT X a tA) (hb : PW X (.BoolOp .And (b :: rest) pos) tB') : PW X (.BoolOp .And (a :: b :: rest) pos) (tAnd tA tB') := by
  intro wh pins s σ H Q I h
  refine isTrue_and (thn (ha pins s σ H _ I h) fun c s1 ⟨H1, I1, q1⟩ => ?_)
  cases c with
  | true => exact hb wh pins s1 σ H1 Q I1 q1
  | false => exact ⟨H1, I1, q1⟩
theorem pw_or (ha : PT X a tA) (hb : PW X (.BoolOp .Or (b :: rest) pos) tB') : PW X (.BoolOp .Or (a :: b :: rest) pos) (tOr tA tB') := by
  intro wh pins s σ H Q I h
  refine isTrue_or (thn (ha pins s σ H _ I h) fun c s1 ⟨H1, I1, q1⟩ => ?_)
  cases c with
  | true => exact ⟨H1, I1, q1⟩
  | false => exact hb wh pins s1 σ H1 Q I1 q1
theorem vx (ha : PT X a tA) : PT X (.UnaryOp .Not a pos) (tNot tA) := by
  intro pins s σ H Q I h
  exact isTrue_not (ha pins s σ H (fun c H1 => Q (!c) H1) I h)
def tAndV (ta tb : TE) : TE := fun σ H Q => ta σ H fun x H1 => ∃ c, x = .bl c ∧ if c = true then tb σ H1 Q else Q (.bl false) H1
def tNotV (ta : TE) : TE := fun σ H Q => ta σ H fun x H1 => ∃ c, x = .bl c ∧ Q (.bl (!c)) H1
theorem pe_one {op} {t : TE} (h : PE X a t) : PE X (.BoolOp op [a] pos) t := fun pins s σ H Q I hw => BoolOp_one (h pins s σ H Q I hw)
theorem pe_and (ha : PE X a ta) (hb : PE X (.BoolOp .And (b :: rest) pos) tb) : PE X (.BoolOp .And (a :: b :: rest) pos) (tAndV ta tb) := by
  intro pins s σ H Q I h
  refine BoolOp_and (thn (ha pins s σ H _ I h) fun v s1 ⟨x, H1, I1, r1, q1⟩ => ?_)
  obtain ⟨c, rfl, q1⟩ := q1
  cases r1
  refine wpAny_truthy_bool ?_
  cases c with
  | true => exact hb pins s1 σ H1 Q I1 q1
  | false => exact ⟨.bl false, H1, I1, rfl, q1⟩
theorem pe_not (ha : PE X a ta) : PE X (.UnaryOp .Not a pos) (tNotV ta) := by
  intro pins s σ H Q I h
  refine UnaryOp_ (thn (ha pins s σ H _ I h) fun v s1 ⟨x, H1, I1, r1, q1⟩ => ?_)
  obtain ⟨c, rfl, q1⟩ := q1
  cases r1
  exact not_of (wpAny_truthy_bool ⟨.bl (!c), H1, I1, rfl, q1⟩)
def tIf (t : TT) (ta tb : TE) : TE := fun σ H Q => t σ H fun c H1 => if c = true then ta σ H1 Q else tb σ H1 Q
theorem pe_ifExp {c : Expr} (hc : PT X c tA) (ha : PE X a ta) (hb : PE X b tb) : PE X (.IfExp c a b pos) (tIf tA ta tb) := by
  intro pins s σ H Q I h
  refine wpAny_IfExp (thn (hc pins s σ H _ I h) fun d s1 ⟨H1, I1, q1⟩ => ?_)
  cases d with
  | true => exact ha pins s1 σ H1 Q I1 q1
  | false => exact hb pins s1 σ H1 Q I1 q1
end
end L2
namespace L2
open PySem PySem.Spec PyProof.Rows
def SqL (K : PySem.W.Frag) (H : Hp) (a : Addr) (xs : List V) : Prop :=
  Rd H a (.lst xs) ∨
    ∃ (o : Obj) (its : Array Value) (n : Nat), K.lookup a = some o ∧ o.cls = .type "list" ∧ o.dict = none ∧ o.data = .seq its n ∧ its.size ≤ sizeLine ∧ Vals xs its.toList
def SqT (K : PySem.W.Frag) (H : Hp) (a : Addr) (xs : List V) : Prop :=
  Rd H a (.tup xs) ∨
    ∃ (o : Obj) (its : Array Value) (n : Nat), K.lookup a = some o ∧ o.cls = .type "tuple" ∧ o.data = .seq its n ∧ its.size ≤ sizeLine ∧ Vals xs its.toList
def absV : Value → Option V
  | .none => some .non
  | .bool b => some (.bl b)
  | .int i _ => some (.int i)
  | .str x _ => some (.str x)
  | .bytes b _ => some (.byt b)
  | .float b _ => some (.flt b)
  | .ref a => some (.ref a)
  | .type n => some (.ty n)
  | _ => none
theorem RelV.abs {x : V} {u : Value} (r : RelV x u) : absV u = some x := by
  cases x with
  | non => cases r; rfl
  | bl _ => cases r; rfl
  | int _ => obtain ⟨t, rfl⟩ := r; rfl
  | str _ => obtain ⟨t, rfl⟩ := r; rfl
  | byt _ => obtain ⟨t, rfl⟩ := r; rfl
  | flt _ => obtain ⟨t, rfl⟩ := r; rfl
  | ref _ => cases r; rfl
  | ty _ => cases r; rfl
theorem RelV.inj {x y : V} {u : Value} (r : RelV x u) (q : RelV y u) : x = y := Option.some.inj (r.abs.symm.trans q.abs)
theorem Vals.inj : ∀ {xs ys : List V} {us : List Value}, Vals xs us → Vals ys us → xs = ys
  | _, _, _, .nil, .nil => rfl
  | _, _, _, .cons r t, .cons r' t' => by rw [r.inj r', Vals.inj t t']
section
variable {X : Cx} {pins : List (Addr × Obj)} {σ : St} {H : Hp} {s : Shared} {a : Addr} {xs ys : List V}
theorem SqL.of {K : PySem.W.Frag} (h : H a = some (.lst xs)) : SqL K H a xs := .inl (.inl h)
theorem SqT.of {K : PySem.W.Frag} (h : H a = some (.tup xs)) : SqT K H a xs := .inl (.inl h)
theorem Inv.list (I : Inv X pins σ H s) (h : SqL X.K H a xs) : ∃ its : List Value, Vals xs its ∧ PlainL s.heap a its.toArray ∧ xs.length ≤ sizeLine := by
  rcases h with h | ⟨o, its, n, hk, hc, hd, hs, hz, r⟩
  · obtain ⟨z, its, n, r, e⟩ := h.ok I.hok
    exact ⟨its, r, ⟨_, n, e, rfl, rfl, rfl⟩, z⟩
  · refine ⟨its.toList, r, ⟨o, n, I.kIn a o hk, hc, hd, by simpa using hs⟩, ?_⟩
    have e := r.length
    simp only [Array.length_toList] at e
    omega
theorem Inv.tuple (I : Inv X pins σ H s) (h : SqT X.K H a xs) : ∃ its : List Value, Vals xs its ∧ IsTup s.heap a its.toArray ∧ xs.length ≤ sizeLine := by
  rcases h with h | ⟨o, its, n, hk, hc, hs, hz, r⟩
  · obtain ⟨z, its, r, p⟩ := h.ok I.hok
    exact ⟨its, r, p, z⟩
  · refine ⟨its.toList, r, ⟨o, I.kIn a o hk, hc, n, by simpa using hs⟩, ?_⟩
    have e := r.length
    simp only [Array.length_toList] at e
    omega
theorem Inv.list_inj (I : Inv X pins σ H s) (h : SqL X.K H a xs) (h' : SqL X.K H a ys) : xs = ys := by
  obtain ⟨its, r, ⟨o, n, e, _, _, d⟩, _⟩ := I.list h
  obtain ⟨its', r', ⟨o', n', e', _, _, d'⟩, _⟩ := I.list h'
  rw [e] at e'; cases e'
  rw [d] at d'
  injection d' with d1 _
  have : its = its' := by simpa using congrArg Array.toList d1
  subst this
  exact r.inj r'
end
abbrev Cx.wish (X : Cx) (E : Value → Shared → Prop) : Cx := { X with xe := E }
abbrev Cx.nox (X : Cx) : Cx := X.wish fun _ _ => False
theorem Cx.Ok.wish {X : Cx} (ok : X.Ok) (E : Value → Shared → Prop) : (X.wish E).Ok :=
  ⟨ok.mod, ok.kind, ok.glob, ok.blt, ok.above, ok.inj, ok.has, ok.cab, ok.hd, ok.frames, ok.stk, ok.exf, ok.bs, ok.bsz, ok.noex, ok.exfs, ok.funs, ok.frf⟩
theorem Cx.Ok.unwish {X : Cx} {E : Value → Shared → Prop} (ok : (X.wish E).Ok) : X.Ok :=
  ⟨ok.mod, ok.kind, ok.glob, ok.blt, ok.above, ok.inj, ok.has, ok.cab, ok.hd, ok.frames, ok.stk, ok.exf, ok.bs, ok.bsz, ok.noex, ok.exfs, ok.funs, ok.frf⟩
section
variable {X : Cx} {pins : List (Addr × Obj)} {σ : St} {H : Hp} {s : Shared} {E : Value → Shared → Prop}
theorem Inv.wish (I : Inv X pins σ H s) (E : Value → Shared → Prop) : Inv (X.wish E) pins σ H s := ⟨I.ok.wish E, I.os, I.bare, I.base, I.loc, I.cell, I.free, I.freeC, I.pin, I.hok, I.len⟩
theorem Inv.unwish (I : Inv (X.wish E) pins σ H s) : Inv X pins σ H s := ⟨I.ok.unwish, I.os, I.bare, I.base, I.loc, I.cell, I.free, I.freeC, I.pin, I.hok, I.len⟩
theorem SP.unwish {D : Ends} {f : Flow} {s' : Shared} (h : SP (X.wish E) pins D f s') : SP X pins D f s' := by
  cases f with
  | next => obtain ⟨σ', H', I, q⟩ := h; exact ⟨σ', H', I.unwish, q⟩
  | brk => obtain ⟨σ', H', I, q⟩ := h; exact ⟨σ', H', I.unwish, q⟩
  | cont => obtain ⟨σ', H', I, q⟩ := h; exact ⟨σ', H', I.unwish, q⟩
  | ret u => obtain ⟨v, σ', H', I, r, q⟩ := h; exact ⟨v, σ', H', I.unwish, r, q⟩
theorem PSs.nox {st : List Stmt} {t : TS} (h : PSs X.nox st t) : PSs X st t := fun pins s σ H D I hw =>
  wpAny_mono (h pins s σ H D (I.wish _) hw) (fun _ _ q => q.unwish) fun _ _ z => False.elim z
end
section
variable {X : Cx} {st : Stmt} {rest : List Stmt} {t u : TS} {e : Expr} {te : TE} {pos : Pos}
def tNext : TS := fun D σ H => D.nx σ H
def tSeq (t u : TS) : TS := fun D σ H => t { D with nx := u D } σ H
theorem zv : PSs X [] tNext := fun _ _ σ H _ I h => wpAny_execs_nil ⟨σ, H, I, h⟩
theorem qZ (h1 : PS X st t) (h2 : PSs X rest u) : PSs X (st :: rest) (tSeq t u) := by
  intro pins s σ H D I h
  refine wpAny_execs_cons (thn (h1 pins s σ H { D with nx := u D } I h) fun f s1 q => ?_)
  cases f with
  | next =>
    obtain ⟨σ', H', I', q⟩ := q
    exact h2 pins s1 σ' H' D I' q
  | ret v => exact q
  | brk => exact q
  | cont => exact q
theorem qJ (h1 : PS X st t) : PSs X [st] t := by
  intro pins s σ H D I h
  refine wpAny_execs_cons (thn (h1 pins s σ H D I h) fun f s1 q => ?_)
  cases f with
  | next => exact wpAny_execs_nil q
  | ret v => exact q
  | brk => exact q
  | cont => exact q
theorem Inv.quiet {pins : List (Addr × Obj)} {σ : St} {H : Hp} {s : Shared} (I : Inv X pins σ H s) : interactive X.env = false := by simp [interactive, I.ok.kind]
def tDrop (te : TE) : TS := fun D σ H => te σ H fun _ H1 => D.nx σ H1
theorem ZQ (he : PE X e te) (hs : swapsWith e none pos.line X.env = pure false := by rfl) : PS X (.Expr e pos) (tDrop te) := by
  intro pins s σ H D I h
  exact wpAny_Expr_any (thn (he pins s σ H _ I h) fun v s1 ⟨x, H1, I1, r1, q1⟩ => ⟨σ, H1, I1, q1⟩) I.quiet hs
def tRet (te : TE) : TS := fun D σ H => te σ H D.rt
theorem zw (he : PE X e te) : PS X (.Return (some e) pos) (tRet te) := by
  intro pins s σ H D I h
  exact wpAny_Return_some (thn (he pins s σ H _ I h) fun v s1 ⟨x, H1, I1, r1, q1⟩ => ⟨x, σ, H1, I1, r1, q1⟩)
def tIfS (c : TT) (t u : TS) : TS := fun D σ H => c σ H fun b H1 => if b = true then t D σ H1 else u D σ H1
theorem ps_if {c : Expr} {a b : List Stmt} {tc : TT} (hc : PT X c tc) (ha : PSs X a t) (hb : PSs X b u) : PS X (.If c a b pos) (tIfS tc t u) := by
  intro pins s σ H D I h
  refine wpAny_If (thn (hc pins s σ H _ I h) fun d s1 ⟨H1, I1, q1⟩ => ?_)
  cases d with
  | true => exact ha pins s1 σ H1 D I1 q1
  | false => exact hb pins s1 σ H1 D I1 q1
def tNever : TS := fun _ _ _ => False
theorem ps_never : PS X st tNever := fun _ _ _ _ _ _ h => h.elim
theorem pss_never {sts : List Stmt} : PSs X sts tNever := fun _ _ _ _ _ _ h => h.elim
end
abbrev TG := V → St → Hp → (St → Hp → Prop) → Prop
abbrev TGs := List V → St → Hp → (St → Hp → Prop) → Prop
def PG (X : Cx) (target : Expr) (t : TG) : Prop :=
  ∀ (pins : List (Addr × Obj)) (s : Shared) (σ : St) (H : Hp) (v : V) (u : Value) (Q : St → Hp → Prop), Inv X pins σ H s → RelV v u → t v σ H Q → wpAny (model X.prog X.w) X.A (assign target X.env u) (fun _ s' => ∃ σ' H', Inv X pins σ' H' s' ∧ Q σ' H') X.xe s
def PGs (X : Cx) (ts : List Expr) (t : TGs) : Prop :=
  ∀ (pins : List (Addr × Obj)) (s : Shared) (σ : St) (H : Hp) (vs : List V) (us : List Value) (Q : St → Hp → Prop), Inv X pins σ H s → Vals vs us → t vs σ H Q → wpAny (model X.prog X.w) X.A (assignInOrder ((assignEach ts X.env).map (·.2)) us) (fun _ s' => ∃ σ' H', Inv X pins σ' H' s' ∧ Q σ' H') X.xe s
abbrev TSet := V → V → V → Hp → (Hp → Prop) → Prop
def PSet (X : Cx) (t : TSet) : Prop :=
  ∀ (pins : List (Addr × Obj)) (s : Shared) (σ : St) (H : Hp) (o i v : V) (ov iv u : Value) (Q : Hp → Prop), Inv X pins σ H s → RelV o ov → RelV i iv → RelV v u → t o i v H Q → wpAny (model X.prog X.w) X.A (setItem ov iv u) (fun _ s' => ∃ H', Inv X pins σ H' s' ∧ Q H') X.xe s
section
variable {X : Cx} {pos : Pos}
def gName (i : Nat) : TG := fun v σ H Q => Q (σ.set i (some v)) H
theorem zq {i : Nat} {x : Str} (hN : X.N.Nodup) (hi : X.N[i]? = some x) (hx : Loc X.env.scope x) (hf : X.fn x = true ∨ X.env.scope.names.lookup x = some .local := by first | exact .inl rfl | exact .inr rfl | assumption) : PG X (.Name x pos) (gName i) := by
  intro pins s σ H v u Q I r h
  exact wpAny_assign_Name (Y4 I hN hi hx r (fun s' I' => ⟨_, H, I', h⟩) hf)
def gNil : TGs := fun vs σ H Q => vs = [] ∧ Q σ H
def gCons (t : TG) (u : TGs) : TGs := fun vs σ H Q => ∃ v r, vs = v :: r ∧ t v σ H fun σ' H' => u r σ' H' Q
theorem v6 : PGs X [] gNil := by
  intro pins s σ H vs us Q I r h
  obtain ⟨e, h⟩ := h
  subst e
  cases r
  exact assignInOrder_nil ⟨σ, H, I, h⟩
theorem zy {e : Expr} {es : List Expr} {t : TG} {u : TGs} (h1 : PG X e t) (h2 : PGs X es u)
    (hs : (assignEach (e :: es) X.env).map (·.2) = assign e X.env :: (assignEach es X.env).map (·.2) := by rfl) : PGs X (e :: es) (gCons t u) := by
  intro pins s σ H vs us Q I r h
  obtain ⟨v, vr, e1, h⟩ := h
  subst e1
  cases r with
  | cons r rr =>
    rw [hs]
    refine assignInOrder_cons (thn (h1 pins s σ H _ _ _ I r h) fun _ s1 ⟨σ1, H1, I1, q1⟩ => ?_)
    exact h2 pins s1 σ1 H1 _ _ Q I1 rr q1
def gTup (K : PySem.W.Frag) (n : Nat) (t : TGs) : TG := fun v σ H Q => ∃ a xs, v = .ref a ∧ SqT K H a xs ∧ xs.length = n ∧ t xs σ H Q
theorem wj {es : List Expr} {k : Nat} {t : TGs} {n : Nat} (hc : X.calm = true) (h : PGs X es t)
    (hn : (assignEach es X.env).length = n := by rfl) (hst : (assignEach es X.env).findIdx? (·.1) = none := by rfl) : PG X (.Tuple es k pos) (gTup X.K n t) := by
  intro pins s σ H v u Q I r hw
  obtain ⟨a, xs, e1, hq, hl, hw⟩ := hw
  subst e1
  cases r
  obtain ⟨its, rv, ht, hz⟩ := I.tuple hq
  refine assign_Tuple_tuple (I.ok.hd hc) ht (by simp [hn, ← hl, rv.length]) hst fun h' hx => ?_
  have I1 : Inv X pins σ H { s with heap := h' } := I.kept (t' := s.toks) fun b o e => hx b o (Nat.ne_of_lt (Heap.lt_size e)) e
  exact h pins _ σ H xs _ Q I1 (by simpa using rv) hw
def gSub (to ti : TE) (t : TSet) : TG := fun v σ H Q => to σ H fun o H1 => ti σ H1 fun i H2 => t o i v H2 fun H3 => Q σ H3
theorem pg_sub {o i : Expr} {to ti : TE} {t : TSet} (ho : PE X o to) (hi : PE X i ti) (hs : PSet X t)
    (ha : ∀ v, assign (.Subscript o i pos) X.env v = (do
      let ov ← holding [v] (eval o X.env)
      let iv ← holding [v, ov] (eval i X.env)
      standAt pos
      holding [v, ov, iv] (setItem ov iv v)
      release [v, ov, iv] []) := by intro _; rfl) : PG X (.Subscript o i pos) (gSub to ti t) := by
  intro pins s σ H v u Q I r h
  rw [ha]
  refine wpAny_bind (wpAny_holding (thn (ho pins s σ H _ I h) fun ov s1 ⟨x, H1, I1, r1, q1⟩ => ?_))
  refine wpAny_bind (wpAny_holding (thn (hi pins s1 σ H1 _ I1 q1) fun iv s2 ⟨y, H2, I2, r2, q2⟩ => ?_))
  refine wpAny_bind (wpAny_standAt (wpAny_bind (wpAny_holding (thn (hs pins s2 σ H2 x y v ov iv u _ I2 r1 r2 r q2) fun _ s3 ⟨H3, I3, q3⟩ => ?_))))
  exact wpAny_release ⟨σ, H3, I3, q3⟩
def tAsg (te : TE) (g : TG) : TS := fun D σ H => te σ H fun x H1 => g x σ H1 D.nx
theorem xx {tg e : Expr} {te : TE} {g : TG} (he : PE X e te) (hg : PG X tg g) (hs : swapsWithSole [tg] e pos.line X.env = pure false := by rfl) (hw : swappedStores [tg] e X.env = pure none := by rfl)
    (h1 : (assignEach [tg] X.env).map (·.2) = [assign tg X.env] := by rfl) : PS X (.Assign [tg] e pos) (tAsg te g) := by
  intro pins s σ H D I h
  refine wpAny_Assign_stores (thn (he pins s σ H _ I h) fun v s1 ⟨x, H1, I1, r1, q1⟩ => ?_) hs hw
  rw [h1]
  exact thn (hg pins s1 σ H1 x v _ I1 r1 q1) fun _ s2 q => q
theorem zj {i : Nat} {x : Str} {e : Expr} {te : TE} {pos' : Pos} (hN : X.N.Nodup) (hi : X.N[i]? = some x) (hx : Loc X.env.scope x) (he : PE X e te) (hs : swapsWith e (some (.Name x pos')) pos.line X.env = pure false := by rfl) (hf : X.fn x = true ∨ X.env.scope.names.lookup x = some .local := by first | exact .inl rfl | exact .inr rfl | assumption) :
    PS X (.Assign [.Name x pos'] e pos) (tAsg te (gName i)) := by
  intro pins s σ H D I h
  refine wpAny_Assign_Name (thn (he pins s σ H _ I h) fun v s1 ⟨y, H1, I1, r1, q1⟩ => ?_) hs
  exact Y4 I1 hN hi hx r1 (fun s2 I2 => ⟨_, H1, I2, q1⟩) hf
def tPar (i j : Nat) (ta : TA) : TS := fun D σ H => ta σ H fun vs H1 => ∃ v w, vs = [v, w] ∧ D.nx ((σ.set i (some v)).set j (some w)) H1
theorem ps_par {i j : Nat} {x y : Str} {a b : Expr} {ta : TA} {px py pt : Pos} {kt k2 pt2} (hc : X.calm = true) (hN : X.N.Nodup) (hi : X.N[i]? = some x) (hj : X.N[j]? = some y) (hij : i ≠ j)
    (hx : X.env.scope.names.lookup x = some .local) (hy : X.env.scope.names.lookup y = some .local) (ha : PA X [a, b] ta)
    (hw : swappedStores [.Tuple [.Name x px, .Name y py] kt pt] (.Tuple [a, b] k2 pt2) X.env = pure (some [x, y]))
    (hs : swapsWithSole [.Tuple [.Name x px, .Name y py] kt pt] (.Tuple [a, b] k2 pt2) pos.line X.env = pure false := by rfl) :
    PS X (.Assign [.Tuple [.Name x px, .Name y py] kt pt] (.Tuple [a, b] k2 pt2) pos) (tPar i j ta) := by
  intro pins s σ H D I h
  rw [exec_Assign_arm]
  refine wpAny_bind (wpAny_standAt ?_)
  rw [hs]
  refine wpAny_bind (wpAny_pure ?_)
  rw [if_neg (by decide)]
  refine wpAny_bind (Tuple_ (thn (ha _ pins s σ H _ I h) fun us s1 ⟨vs, H1, I1, r1, q1⟩ => ?_))
  obtain ⟨v, w, e1, q1⟩ := q1
  subst e1
  obtain ⟨u1, u2, rfl, rv, rw'⟩ : ∃ u1 u2, us = [u1, u2] ∧ RelV v u1 ∧ RelV w u2 := by
    cases r1 with
    | cons p q =>
      cases q with
      | cons p' q' =>
        cases q'
        exact ⟨_, _, rfl, p, p'⟩
  refine wpAny_newObj_type ?_ (by show 2 ≤ sizeLine; decide)
  have I2 : Inv X pins σ H1 { s1 with heap := s1.heap.push { cls := .type "tuple", data := .seq [u1, u2].toArray } } := I1.kept (t' := s1.toks) fun b o e => Heap.get?_push_of_some _ e
  rw [hw]
  refine wpAny_bind (wpAny_pure ?_)
  show wpAny (model X.prog X.w) X.A (do rule "assign.swapped-stores"; let items ← unpackItems (.ref s1.heap.objs.size) 2 none; assignInOrder [fun v => bindName X.env y v, fun v => bindName X.env x v] items.reverse; pure Flow.next) _ _ _
  refine wpAny_bind (wpAny_rule (wpAny_bind (unpackItems_tuple (items := #[u1, u2]) (I.ok.hd hc) (IsTup.new s1.heap _) fun h' hx' => ?_)))
  have I3 := I2.kept (h' := h') (t' := s1.toks) fun b o e => hx' b o (Nat.ne_of_lt (Heap.lt_size e)) e
  show wpAny _ _ (assignInOrder [fun v => bindName X.env y v, fun v => bindName X.env x v] [u2, u1] >>= fun _ => pure Flow.next) _ _ _
  refine wpAny_bind (assignInOrder_cons (wpAny_bindName (Y4 I3 hN hj (.inl hy) rw' (fun s2 I4 => ?_) (.inr hy))))
  refine assignInOrder_cons (wpAny_bindName (Y4 I4 hN hi (.inl hx) rv (fun s3 I5 => assignInOrder_nil (wpAny_pure ?_)) (.inr hx)))
  rw [List.set_comm _ _ (Ne.symm hij)] at I5
  exact ⟨_, H1, I5, q1⟩
end
section
variable {X : Cx} {pos : Pos}
def tWhile (c : TT) (tb : TS) : TS := fun D σ H => ∃ W : Nat → St → Hp → Prop, (∃ m, W m σ H) ∧ ∀ m σ H, W m σ H → c σ H fun b H1 => if b = true then ∃ N : St → Hp → Prop, (∀ σ' H', N σ' H' → ∃ m', m' < m ∧ W m' σ' H') ∧ tb { D with nx := N, ct := N, bk := D.nx } σ H1 else D.nx σ H1
theorem ps_while {c : Expr} {body : List Stmt} {tc : TT} {tb : TS} (hp : PassesOwn (model X.prog X.w) X.A X.env X.xe) (hc : PT X c tc) (hb : PSs X body tb) : PS X (.While c body [] pos) (tWhile tc tb) := by
  intro pins s σ H D I h
  obtain ⟨W, ⟨m0, w0⟩, turn⟩ := h
  refine wpAny_While (codeAny_whileLoop (fun n s' => ∃ σ' H', Inv X pins σ' H' s' ∧ W n σ' H') ?_ m0 ⟨σ, H, I, w0⟩)
  rintro n s1 ⟨σ1, H1, I1, w1⟩
  refine wpAny_passesOwn hp (thn (hc pins s1 σ1 H1 _ I1 (turn n σ1 H1 w1)) fun b s2 ⟨H2, I2, q2⟩ => ?_)
  cases b with
  | true =>
    obtain ⟨N, hN, q2⟩ := q2
    rw [if_pos rfl]
    refine wpAny_passesOwn hp (thn (hb pins s2 σ1 H2 _ I2 q2) fun f s3 q3 => ?_)
    cases f with
    | next =>
      obtain ⟨σ3, H3, I3, n3⟩ := q3
      obtain ⟨m', hm, w3⟩ := hN σ3 H3 n3
      exact ⟨m', hm, σ3, H3, I3, w3⟩
    | cont =>
      obtain ⟨σ3, H3, I3, n3⟩ := q3
      obtain ⟨m', hm, w3⟩ := hN σ3 H3 n3
      exact ⟨m', hm, σ3, H3, I3, w3⟩
    | brk => exact q3
    | ret v => exact q3
  | false =>
    rw [if_neg Bool.false_ne_true]
    exact wpAny_execs_nil ⟨σ1, H2, I2, q2⟩
end
structure It where
  go : Nat → Hp → Prop
  yld : Nat → Hp → V → Hp → Prop
  stop : Nat → Hp → Prop
def FpOk (X : Cx) (pins : List (Addr × Obj)) (H : Hp) (b : Addr) : Prop :=
  H b = none ∧ b ≠ X.env.locals ∧ b ∉ X.fs ∧ (b ∈ X.ex ∨ X.s₀.heap.objs.size ≤ b) ∧ (∀ x c, X.env.cells.lookup x = some c → c ≠ b) ∧ ∀ p ∈ X.pn ++ pins, p.1 ≠ b
theorem Inv.fpOk {X : Cx} {pins : List (Addr × Obj)} {σ : St} {H H' : Hp} {s : Shared} {b : Addr} (I : Inv X pins σ H s) (hb : s.heap.objs.size ≤ b) (hn : H' b = none) : FpOk X pins H' b := by
  refine ⟨hn, Nat.ne_of_gt (Nat.lt_of_lt_of_le I.lt hb), I.nofs hb, .inr (Nat.le_trans I.sz hb), fun x c e z => ?_, fun p hp z => ?_⟩
  · obtain ⟨v, q⟩ := I.cell x c e
    exact absurd (Nat.lt_of_lt_of_le q.lt (by rw [z]; exact hb)) (Nat.lt_irrefl _)
  · exact absurd (Nat.lt_of_lt_of_le (Heap.lt_size (I.pin p hp).1) (by rw [z]; exact hb)) (Nat.lt_irrefl _)
structure Turn (P : Program) (w : World) (K : PySem.W.Frag) (tg : Expr) (J : It) (fp : List Addr) (it : Addr) (tn : Nat → Heap → Prop) : Prop where
  mem : it ∈ fp
  obj : ∀ i h, tn i h → ∀ b ∈ fp, ∃ o, h.get? b = some o ∧ ∀ v, o.data ≠ .cell v
  keep : ∀ i h h', tn i h → (∀ b ∈ fp, ∀ o, h.get? b = some o → h'.get? b = some o) → tn i h'
  item : ∀ (X : Cx), X.prog = P → X.w = w → X.K = K → X.calm = true → ∀ (i : Nat) (pins : List (Addr × Obj)) (s : Shared) (σ : St) (H : Hp) (E : Value → Shared → Prop), Inv X pins σ H s → (∀ b ∈ fp, FpOk X pins H b) → tn i s.heap → J.go i H → wpAny (model P w) X.A (pyNext (.ref it)) (fun r s1 => ∃ u, r = some u ∧ wpAny (model P w) X.A (letOwnedTupleGo tg (.ref it) u) (fun _ s2 => ∃ x H', Inv X pins σ H' s2 ∧ RelV x u ∧ J.yld i H x H' ∧ tn (i + 1) s2.heap ∧ ∀ b ∈ fp, H' b = none) E s1) E s
  done : ∀ (X : Cx), X.prog = P → X.w = w → X.K = K → X.calm = true → ∀ (i : Nat) (pins : List (Addr × Obj)) (s : Shared) (σ : St) (H : Hp) (E : Value → Shared → Prop), Inv X pins σ H s → (∀ b ∈ fp, FpOk X pins H b) → tn i s.heap → J.stop i H → wpAny (model P w) X.A (pyNext (.ref it)) (fun r s1 => r = none ∧ Inv X pins σ H s1) E s
  self : ∀ (A : Around) (i : Nat) (s : Shared) (Q : Value → Shared → Prop) (E : Value → Shared → Prop), tn i s.heap → Q (.ref it) s → wpAny (model P w) A (pyIter (.ref it)) Q E s
abbrev TI := St → Hp → (It → Hp → Prop) → Prop
def PIE (X : Cx) (pins : List (Addr × Obj)) (σ : St) (tg : Expr) (R : It → Hp → Prop) (itv : Value) (s2 : Shared) : Prop :=
  ∃ (it : Addr) (fp : List Addr) (tn : Nat → Heap → Prop) (J : It) (H' : Hp), itv = .ref it ∧ Inv X pins σ H' s2 ∧ Turn X.prog X.w X.K tg J fp it tn ∧ tn 0 s2.heap ∧ (∀ b ∈ fp, FpOk X pins H' b) ∧ R J H'
def PI (X : Cx) (tg iter : Expr) (wi : TI) : Prop :=
  ∀ (pins : List (Addr × Obj)) (s : Shared) (σ : St) (H : Hp) (R : It → Hp → Prop), Inv X pins σ H s → wi σ H R → wpAny (model X.prog X.w) X.A (eval iter X.env) (fun v s1 => wpAny (model X.prog X.w) X.A (pyIter v) (PIE X pins σ tg R) X.xe s1) X.xe s
theorem go_of {M : Model} {A : Around} {E : Value → Shared → Prop} {s : Shared} {tg : Expr} {it : Addr} {u : Value} {o : Obj} {n : String} {vs : Array Value} {Q : Unit → Shared → Prop} (ho : s.heap.get? it = some o) (hc : o.cls = .type n) (hd : o.data = .fields vs)
    (hn : ["enumerate", "zip", "dict_itemiterator", "dict_reverseitemiterator", "odict_iterator", "itertools.zip_longest", "itertools.pairwise"].contains n = false) (hQ : Q () s) : wpAny M A (letOwnedTupleGo tg (.ref it) u) Q E s := by
  unfold letOwnedTupleGo
  cases tg <;> first
    | exact wpAny_pure hQ
    | (cases u <;> first
        | exact wpAny_pure hQ
        | (refine wpAny_bind (wpAny_load ho ?_)
           rw [hc, hd]
           show wpAny M A (if (["enumerate", "zip", "dict_itemiterator", "dict_reverseitemiterator", "odict_iterator", "itertools.zip_longest", "itertools.pairwise"].contains n && vs[0]? == some (rawInt _)) = true then _ else _) Q E s
           rw [if_neg (by intro h; rw [hn, Bool.false_and] at h; cases h)]
           exact wpAny_pure hQ))
def Itl (K : PySem.W.Frag) (a : Addr) : It :=
  ⟨fun i H => ∃ xs x, SqL K H a xs ∧ xs[i]? = some x, fun i H x H' => H' = H ∧ ∀ xs, SqL K H a xs → xs[i]? = some x, fun i H => ∃ xs, SqL K H a xs ∧ xs.length ≤ i⟩
def Itr (lo : Int) (n : Nat) : It := ⟨fun i _ => i < n, fun i H x H' => H' = H ∧ x = .int (lo + i), fun i _ => n ≤ i⟩
theorem turn_list {P : Program} {w : World} {K : PySem.W.Frag} {tg : Expr} (a it : Addr) : Turn P w K tg (Itl K a) [it] it (fun i h => h.IsListIter it a i) where
  mem := by simp
  obj := fun i h st b hb => by
    have e : b = it := by simpa using hb
    subst e
    obtain ⟨o, e, c, d⟩ := st
    exact ⟨o, e, fun v z => by rw [d] at z; cases z⟩
  keep := fun i h h' st k => st.at fun o e => k it (by simp) o e
  item := by
    intro X hP hw hK hc i pins s σ H E I hf st hg
    subst hP hw hK
    obtain ⟨xs, x, hq, hx⟩ := hg
    obtain ⟨its, rv, p, hz⟩ := I.list hq
    obtain ⟨u, hu, ru⟩ := rv.get hx
    obtain ⟨f0, f1, f2, f3, f4, f5⟩ := hf it (by simp)
    refine wpAny_pyNext_list_item st p.isList (x := u) (by simpa using hu) fun h' st' sb => ?_
    have I1 : Inv X pins σ H { s with heap := h' } := I.turned (t' := s.toks) (fun b o hb e => (sb.2 b hb).trans e) f0 f1 f3 f4 f5
    obtain ⟨o, e, c, d⟩ := id st'
    exact ⟨u, rfl, go_of (s := { s with heap := h' }) e c d (by decide) ⟨x, H, I1, ru, ⟨rfl, fun ys hy => by rw [I.list_inj hy hq]; exact hx⟩, st', fun b hb => (hf b hb).1⟩⟩
  done := by
    intro X hP hw hK hc i pins s σ H E I hf st hg
    subst hP hw hK
    obtain ⟨xs, hq, hx⟩ := hg
    obtain ⟨its, rv, p, hz⟩ := I.list hq
    obtain ⟨f0, f1, f2, f3, f4, f5⟩ := hf it (by simp)
    have hl := rv.length
    exact wpAny_pyNext_list_end (I.ok.hd hc) st p.isList (by simp; omega) fun h' eb => ⟨rfl, I.turned (t' := s.toks) (fun b o hb e => eb b o hb e) f0 f1 f3 f4 f5⟩
  self := fun _ _ _ _ _ st h => wpAny_pyIter_listiter st h
theorem turn_range {P : Program} {w : World} {K : PySem.W.Frag} {tg : Expr} (it : Addr) (lo : Int) (n : Nat) : Turn P w K tg (Itr lo n) [it] it (fun i h => IsRangeIter h it (lo + (i : Nat) * 1) ((n : Int) - (i : Nat)) 1) where
  mem := by simp
  obj := fun i h st b hb => by
    have e : b = it := by simpa using hb
    subst e
    exact ⟨_, st, fun v z => by
      have z' : Data.fields _ = Data.cell v := z
      cases z'⟩
  keep := fun i h h' st k => k it (by simp) _ st
  item := by
    intro X hP hw hK hc i pins s σ H E I hf st hg
    subst hP hw hK
    obtain ⟨f0, f1, f2, f3, f4, f5⟩ := hf it (by simp)
    have W := Walks.range (prog := X.prog) (w := X.w) (I.ok.hd hc) it lo 1 n
    refine W.item i s _ _ hg st fun v h' tk hv st' kk => ?_
    obtain ⟨t, rfl⟩ := hv
    have I1 : Inv X pins σ H { s with heap := h', toks := tk } := I.turned (fun b o hb e => kk b o (by simpa using hb) e) f0 f1 f3 f4 f5
    refine ⟨_, rfl, go_of (s := { s with heap := h', toks := tk }) (n := "range_iterator") st' rfl rfl (by decide) ⟨.int (lo + i), H, I1, ⟨t, ?_⟩, ⟨rfl, rfl⟩, st', fun b hb => (hf b hb).1⟩⟩
    rw [Int.mul_one]
  done := by
    intro X hP hw hK hc i pins s σ H E I hf st hg
    subst hP hw hK
    obtain ⟨f0, f1, f2, f3, f4, f5⟩ := hf it (by simp)
    exact wpAny_pyNext_range_end (I.ok.hd hc) st (by have : n ≤ i := hg; omega) fun h' eb => ⟨rfl, I.turned (t' := s.toks) (fun b o hb e => eb b o hb e) f0 f1 f3 f4 f5⟩
  self := fun _ _ _ _ _ st h => wpAny_pyIter_rangeiter st h
end L2
namespace L2
open PySem PySem.Spec PyProof.Rows
section
variable {X : Cx} {tg : Expr}
def iList (K : PySem.W.Frag) (tl : TE) : TI := fun σ H R => tl σ H fun x H1 => ∃ a, x = .ref a ∧ (∃ xs, SqL K H1 a xs) ∧ R (Itl K a) H1
theorem jv {l : Expr} {tl : TE} (hl : PE X l tl) : PI X tg l (iList X.K tl) := by
  intro pins s σ H R I h
  refine thn (hl pins s σ H _ I h) fun v s1 ⟨x, H1, I1, r1, q1⟩ => ?_
  obtain ⟨a, e, ⟨xs, hq⟩, q⟩ := q1
  subst e
  cases r1
  obtain ⟨its, rv, p, hz⟩ := I1.list hq
  refine wpAny_pyIter_list p.isList ?_
  refine ⟨s1.heap.objs.size, [s1.heap.objs.size], _, _, H1, rfl, I1.kept (t' := s1.toks) fun b o e => Heap.get?_push_of_some _ e, turn_list a _, ⟨_, Heap.get?_push_size _ rfl, rfl, rfl⟩, fun b hb => ?_, q⟩
  have e : b = s1.heap.objs.size := by simpa using hb
  subst e
  exact I1.fpOk (Nat.le_refl _) (I1.hok.fresh (Nat.le_refl _))
theorem range_it {pins : List (Addr × Obj)} {σ : St} {H : Hp} {s : Shared} {R : It → Hp → Prop} {E : Value → Shared → Prop} {lo hi : Int} {t u v : Tok} {tk : Nat} (I : Inv X pins σ H s) (h1 : -(2 ^ 62) ≤ lo) (h2 : lo < 2 ^ 62) (h3 : -(2 ^ 62) ≤ hi) (h4 : hi < 2 ^ 62)
    (q : R (Itr lo (hi - lo).toNat) H) : wpAny (model X.prog X.w) X.A (pyIter (.ref s.heap.objs.size)) (PIE X pins σ tg R) E { s with heap := s.heap.push { cls := .type "range", data := .fields #[.int lo t, .int hi u, .int 1 v] }, toks := tk } := by
  refine wpAny_pyIter_range (IsRange.new ..) (small_one h1 h2 h3 h4) ?_
  have I1 : Inv X pins σ H { s with heap := s.heap.push { cls := .type "range", data := .fields #[.int lo t, .int hi u, .int 1 v] }, toks := tk } := I.kept fun b o e => Heap.get?_push_of_some _ e
  refine ⟨(s.heap.push { cls := .type "range", data := .fields #[.int lo t, .int hi u, .int 1 v] }).objs.size, [(s.heap.push { cls := .type "range", data := .fields #[.int lo t, .int hi u, .int 1 v] }).objs.size], _, _, H, rfl, I1.kept (t' := tk) fun b o e => Heap.get?_push_of_some _ e, turn_range _ lo (hi - lo).toNat, ?_, fun b hb => ?_, q⟩
  · have e1 : lo + ((0 : Nat) : Int) * 1 = lo := by simp
    have e2 : (((hi - lo).toNat : Nat) : Int) - ((0 : Nat) : Int) = Builtin.Range.rangeSize lo hi 1 := by rw [rangeSize_one]; split <;> omega
    show IsRangeIter _ _ (lo + ((0 : Nat) : Int) * 1) ((((hi - lo).toNat : Nat) : Int) - ((0 : Nat) : Int)) 1
    rw [e1, e2]
    exact Heap.get?_push_size _ rfl
  · have e : b = (s.heap.push { cls := .type "range", data := .fields #[.int lo t, .int hi u, .int 1 v] }).objs.size := by simpa using hb
    subst e
    exact I1.fpOk (Nat.le_refl _) (I1.hok.fresh (Nat.le_refl _))
def iRng1 (ta : TA) : TI := fun σ H R => ta σ H fun vs H1 => ∃ j : Int, vs = [.int j] ∧ -(2 ^ 62) ≤ j ∧ j < 2 ^ 62 ∧ R (Itr 0 j.toNat) H1
theorem pi_range1 {a : Expr} {ta : TA} {p pos : Pos} (hg : Gl X "range") (hm : X.mg "range" = none) (ha : PA X [a] ta) (hs : starEach [a] X.env = [(false, eval a X.env)] := by rfl) : PI X tg (.Call (.Name "range" p) [a] [] pos) (iRng1 ta) := by
  intro pins s σ H R I h
  refine Call_ (ld_blt I hg hm boot_range (PyProof.Rows.callWith_type1 (thn (ha pos pins s σ H _ I h) fun us s1 ⟨vs, H1, I1, r1, q1⟩ => ?_) hs rfl))
  obtain ⟨j, e, q1, q2, q⟩ := q1
  subst e
  cases r1 with
  | cons r rr =>
    cases rr
    obtain ⟨t, rfl⟩ := r
    exact call_range_1 (range_it I1 (by omega) (by omega) q1 q2 (by simpa using q))
def tFor (wi : TI) (g : TG) (tb : TS) : TS := fun D σ H => wi σ H fun J H1 => ∃ W : Nat → Nat → St → Hp → Prop, (∃ m, W 0 m σ H1) ∧ ∀ i m σ H, W i m σ H → (J.stop i H ∧ D.nx σ H) ∨ (J.go i H ∧ ∃ N : St → Hp → Prop, (∀ σ' H', N σ' H' → ∃ m', m' < m ∧ W (i + 1) m' σ' H') ∧ ∀ x H', J.yld i H x H' → g x σ H' fun σ2 H2 => tb { D with nx := N, ct := N, bk := D.nx } σ2 H2)
def pinsAt (fp : List Addr) (h : Heap) : List (Addr × Obj) := fp.filterMap fun b => (h.get? b).map fun o => (b, o)
theorem YX {fp : List Addr} {h : Heap} {b : Addr} {o : Obj} (hb : b ∈ fp) (e : h.get? b = some o) : (b, o) ∈ pinsAt fp h := List.mem_filterMap.mpr ⟨b, hb, by rw [e]; rfl⟩
theorem of_pinsAt {fp : List Addr} {h : Heap} {p : Addr × Obj} (hp : p ∈ pinsAt fp h) : p.1 ∈ fp ∧ h.get? p.1 = some p.2 := by
  obtain ⟨b, hb, e⟩ := List.mem_filterMap.mp hp
  cases q : h.get? b with
  | none => rw [q] at e; cases e
  | some o =>
    rw [q] at e
    have e' : (b, o) = p := Option.some.inj e
    subst e'
    exact ⟨hb, q⟩
theorem Inv.pinned {pins : List (Addr × Obj)} {σ : St} {H : Hp} {s : Shared} {fp : List Addr} (I : Inv X pins σ H s) (hf : ∀ b ∈ fp, FpOk X pins H b) (ho : ∀ b ∈ fp, ∃ o, s.heap.get? b = some o ∧ ∀ v, o.data ≠ .cell v) : Inv X (pins ++ pinsAt fp s.heap) σ H s :=
  I.pins_of fun p hp => (List.mem_append.mp hp).elim (fun z => I.pin p (List.mem_append_right _ z)) fun z => by
    obtain ⟨hb, e⟩ := of_pinsAt z
    obtain ⟨f0, f1, f2, _⟩ := hf p.1 hb
    obtain ⟨o, e', d⟩ := ho p.1 hb
    rw [e] at e'; cases e'
    exact ⟨e, f0, f1, f2, d⟩
theorem Inv.unpinned {pins pl : List (Addr × Obj)} {σ : St} {H : Hp} {s : Shared} (I : Inv X (pins ++ pl) σ H s) : Inv X pins σ H s := I.pins_of fun p hp => I.pin p (List.mem_append_right _ (List.mem_append_left _ hp))
theorem Yv {iter : Expr} {body : List Stmt} {wi : TI} {g : TG} {tb : TS} {pos : Pos} (hp : PassesOwn (model X.prog X.w) X.A X.env X.xe) (hc : X.calm = true) (hi : PI X tg iter wi) (hg : PG X tg g) (hb : PSs X body tb)
    (hs : ∀ x, foldedSetIterable iter X.env x = pure x := by intro _; rfl) : PS X (.For tg iter body [] pos) (tFor wi g tb) := by
  intro pins s σ H D I h
  refine wpAny_For (thn (hi pins s σ H _ I h) fun v s1 h1 => thn h1 fun itv s2 h2 => ?_) hs
  obtain ⟨it, fp, tn, J, H2, e, I2, T, st2, f2, W, ⟨m0, w0⟩, turn⟩ := h2
  subst e
  have stat : ∀ {H' : Hp}, (∀ b ∈ fp, H' b = none) → ∀ b ∈ fp, FpOk X pins H' b := fun hn b hb => ⟨hn b hb, (f2 b hb).2⟩
  refine codeAny_forLoop_any (fun n s' => ∃ i σ' H', Inv X pins σ' H' s' ∧ tn i s'.heap ∧ (∀ b ∈ fp, H' b = none) ∧ W i n σ' H') ?_ m0 ⟨0, σ, H2, I2, st2, fun b hb => (f2 b hb).1, w0⟩
  rintro n s3 ⟨i, σ3, H3, I3, st3, fr3, w3⟩
  rcases turn i n σ3 H3 w3 with ⟨stop, qn⟩ | ⟨go, N, hN, step⟩
  · refine wpAny_passesOwn hp (thn (T.done X rfl rfl rfl hc i pins s3 σ3 H3 X.xe I3 (stat fr3) st3 stop) fun r s4 ⟨hr, I4⟩ => ?_)
    subst hr
    exact wpAny_execs_nil ⟨σ3, H3, I4, qn⟩
  · refine wpAny_passesOwn hp (thn (T.item X rfl rfl rfl hc i pins s3 σ3 H3 X.xe I3 (stat fr3) st3 go) fun r s4 ⟨u, hr, h4⟩ => ?_)
    subst hr
    refine wpAny_passesOwn hp (thn h4 fun _ s5 ⟨x, H5, I5, r5, y5, st5, fr5⟩ => ?_)
    have I5' := I5.pinned (stat fr5) (T.obj _ _ st5)
    refine wpAny_passesOwn hp (thn (hg _ s5 σ3 H5 x u _ I5' r5 (step x H5 y5)) fun _ s6 ⟨σ6, H6, I6, q6⟩ => ?_)
    refine wpAny_passesOwn hp (thn (hb _ s6 σ6 H6 _ I6 q6) fun f s7 q7 => ?_)
    have again : ∀ {σ7 : St} {H7 : Hp}, Inv X (pins ++ pinsAt fp s5.heap) σ7 H7 s7 → N σ7 H7 → ∃ m, m < n ∧ ∃ i σ' H', Inv X pins σ' H' s7 ∧ tn i s7.heap ∧ (∀ b ∈ fp, H' b = none) ∧ W i m σ' H' := fun {σ7 H7} I7 n7 => by
      obtain ⟨m', hm, w7⟩ := hN σ7 H7 n7
      refine ⟨m', hm, i + 1, σ7, H7, I7.unpinned, T.keep _ _ _ st5 fun b hb o e => (I7.pin (b, o) (List.mem_append_right _ (List.mem_append_right _ (YX hb e)))).1, fun b hb => ?_, w7⟩
      obtain ⟨o, e, d⟩ := T.obj _ _ st5 b hb
      exact (I7.pin (b, o) (List.mem_append_right _ (List.mem_append_right _ (YX hb e)))).2.1
    cases f with
    | next => obtain ⟨σ7, H7, I7, n7⟩ := q7; exact again I7 n7
    | cont => obtain ⟨σ7, H7, I7, n7⟩ := q7; exact again I7 n7
    | brk => obtain ⟨σ7, H7, I7, q7⟩ := q7; exact ⟨σ7, H7, I7.unpinned, q7⟩
    | ret v => obtain ⟨x7, σ7, H7, I7, r7, q7⟩ := q7; exact ⟨x7, σ7, H7, I7.unpinned, r7, q7⟩
end
theorem while_by {c : TT} {tb : TS} {D : Ends} {σ : St} {H : Hp} (Pv : St → Hp → Prop) (μ : St → Hp → Nat) (h0 : Pv σ H)
    (hs : ∀ σ H, Pv σ H → c σ H fun b H1 => if b = true then tb { D with nx := fun σ' H' => Pv σ' H' ∧ μ σ' H' < μ σ H, ct := fun σ' H' => Pv σ' H' ∧ μ σ' H' < μ σ H, bk := D.nx } σ H1 else D.nx σ H1)
    (mono : ∀ σ H Q Q', (∀ b H1, Q b H1 → Q' b H1) → c σ H Q → c σ H Q') : tWhile c tb D σ H := by
  refine ⟨fun m σ H => m = μ σ H ∧ Pv σ H, ⟨_, rfl, h0⟩, ?_⟩
  rintro m σ H ⟨rfl, p⟩
  refine mono σ H _ _ (fun b H1 q => ?_) (hs σ H p)
  cases b with
  | true => exact ⟨_, fun σ' H' ⟨p', l⟩ => ⟨_, l, rfl, p'⟩, q⟩
  | false => exact q
end L2
namespace L2
open PySem PySem.Spec PyProof.Rows
abbrev R2 := V → V → Hp → VK → Prop
def OpR (X : Cx) (f : Value → Value → Sem Value) (r : R2) : Prop :=
  ∀ (pins : List (Addr × Obj)) (s : Shared) (σ : St) (H : Hp) (x y : V) (v u : Value) (Q : VK), Inv X pins σ H s → RelV x v → RelV y u → r x y H Q → wpAny (model X.prog X.w) X.A (f v u) (EP X pins σ Q) X.xe s
def UnR (X : Cx) (f : Value → Sem Value) (r : V → Hp → VK → Prop) : Prop :=
  ∀ (pins : List (Addr × Obj)) (s : Shared) (σ : St) (H : Hp) (x : V) (v : Value) (Q : VK), Inv X pins σ H s → RelV x v → r x H Q → wpAny (model X.prog X.w) X.A (f v) (EP X pins σ Q) X.xe s
def CallR (X : Cx) (f : Value) (r : List V → Hp → VK → Prop) : Prop :=
  ∀ (pins : List (Addr × Obj)) (s : Shared) (σ : St) (H : Hp) (xs : List V) (us : List Value) (Q : VK), Inv X pins σ H s → Vals xs us → r xs H Q → wpAny (model X.prog X.w) X.A (call f us) (EP X pins σ Q) X.xe s
def tOp (r : R2) (ta tb : TE) : TE := fun σ H Q => ta σ H fun x H1 => tb σ H1 fun y H2 => r x y H2 Q
def tUn (r : V → Hp → VK → Prop) (ta : TE) : TE := fun σ H Q => ta σ H fun x H1 => r x H1 Q
def rI (C : Int → Int → Prop) (g : Int → Int → V) : R2 := fun x y H Q => ∃ i j, x = .int i ∧ y = .int j ∧ C i j ∧ Q (g i j) H
def rI0 (g : Int → Int → V) : R2 := fun x y H Q => ∃ i j, x = .int i ∧ y = .int j ∧ Q (g i j) H
def rU (g : Int → V) : V → Hp → VK → Prop := fun x H Q => ∃ i, x = .int i ∧ Q (g i) H
section
variable {X : Cx} {a b c : Expr} {ta tb tc : TE} {pos : Pos}
theorem binT (ha : PE X a ta) (hb : PE X b tb) {pins : List (Addr × Obj)} {s : Shared} {σ : St} {H : Hp} {R : V → V → Hp → Prop} (I : Inv X pins σ H s)
    (h : ta σ H fun x H1 => tb σ H1 fun y H2 => R x y H2) {Q : Value → Shared → Prop} {f : Value → Value → Sem Value}
    (hf : ∀ v u s2 x y H2, Inv X pins σ H2 s2 → RelV x v → RelV y u → R x y H2 → wpAny (model X.prog X.w) X.A (f v u) Q X.xe s2) :
    wpAny (model X.prog X.w) X.A (eval a X.env) (fun v s₁ => wpAny (model X.prog X.w) X.A (eval b X.env) (fun u s₂ => wpAny (model X.prog X.w) X.A (f v u) Q X.xe s₂) X.xe s₁) X.xe s := by
  refine thn (ha pins s σ H _ I h) fun v s1 ⟨x, H1, I1, r1, q1⟩ => ?_
  refine thn (hb pins s1 σ H1 _ I1 q1) fun u s2 ⟨y, H2, I2, r2, q2⟩ => ?_
  exact hf v u s2 x y H2 I2 r1 r2 q2
theorem pe_op {op : Operator} {r : R2} (ho : OpR X (binaryOp op) r) (ha : PE X a ta) (hb : PE X b tb) : PE X (.BinOp a op b pos) (tOp r ta tb) := by
  intro pins s σ H Q I h
  exact wpAny_BinOp (binT ha hb I h fun v u s2 x y H2 I2 rx ry q => ho pins s2 σ H2 x y v u Q I2 rx ry q)
theorem pe_un {op : UnaryOp} {r : V → Hp → VK → Prop} (ho : UnR X (unaryOp op) r) (ha : PE X a ta) : PE X (.UnaryOp op a pos) (tUn r ta) := by
  intro pins s σ H Q I h
  exact UnaryOp_ (thn (ha pins s σ H _ I h) fun v s1 ⟨x, H1, I1, r1, q1⟩ => ho pins s1 σ H1 x v Q I1 r1 q1)
theorem opI {f : Value → Value → Sem Value} {C : Int → Int → Prop} {g : Int → Int → Int}
    (rule : ∀ (i j : Int) (t u : Tok) (s : Shared) (Q : Value → Shared → Prop) (E : Value → Shared → Prop), C i j → Q (.int (g i j) s.toks) { s with toks := s.toks + 1 } → wpAny (model X.prog X.w) X.A (f (.int i t) (.int j u)) Q E s) :
    OpR X f (rI C fun i j => .int (g i j)) := by
  intro pins s σ H x y v u Q I rx ry h
  obtain ⟨i, j, rfl, rfl, hc, q⟩ := h
  obtain ⟨t, rfl⟩ := rx
  obtain ⟨t', rfl⟩ := ry
  exact rule i j t t' s _ _ hc ⟨.int (g i j), H, I.tok _, ⟨_, rfl⟩, q⟩
theorem opI0 {f : Value → Value → Sem Value} {g : Int → Int → Int}
    (rule : ∀ (i j : Int) (t u : Tok) (s : Shared) (Q : Value → Shared → Prop) (E : Value → Shared → Prop), Q (.int (g i j) s.toks) { s with toks := s.toks + 1 } → wpAny (model X.prog X.w) X.A (f (.int i t) (.int j u)) Q E s) :
    OpR X f (rI0 fun i j => .int (g i j)) := by
  intro pins s σ H x y v u Q I rx ry h
  obtain ⟨i, j, rfl, rfl, q⟩ := h
  obtain ⟨t, rfl⟩ := rx
  obtain ⟨t', rfl⟩ := ry
  exact rule i j t t' s _ _ ⟨.int (g i j), H, I.tok _, ⟨_, rfl⟩, q⟩
theorem opB0 {f : Value → Value → Sem Value} {g : Int → Int → Bool}
    (rule : ∀ (i j : Int) (t u : Tok) (s : Shared) (Q : Value → Shared → Prop) (E : Value → Shared → Prop), Q (.bool (g i j)) s → wpAny (model X.prog X.w) X.A (f (.int i t) (.int j u)) Q E s) :
    OpR X f (rI0 fun i j => .bl (g i j)) := by
  intro pins s σ H x y v u Q I rx ry h
  obtain ⟨i, j, rfl, rfl, q⟩ := h
  obtain ⟨t, rfl⟩ := rx
  obtain ⟨t', rfl⟩ := ry
  exact rule i j t t' s _ _ ⟨.bl (g i j), H, I, rfl, q⟩
def CDiv (i j : Int) : Prop := 0 < j ∧ j < 1073741824
def CPow (i j : Int) : Prop := 0 ≤ j ∧ j ≤ 1000000 ∧ i.natAbs < 2 ^ 64
theorem j8 : OpR X (binaryOp .Add) (rI0 fun i j => .int (i + j)) := opI0 fun _ _ _ _ _ _ _ q => add_int q
theorem op_sub : OpR X (binaryOp .Sub) (rI0 fun i j => .int (i - j)) := opI0 fun _ _ _ _ _ _ _ q => sub_int q
theorem vv : OpR X (binaryOp .Mod) (rI (fun _ j => 0 < j) fun i j => .int (i % j)) := opI fun i j _ _ _ _ _ hc q => by
  have h1 : (0 : Int) < j := hc
  exact mod_int' (by omega) (by rw [Int.fmod_eq_emod_of_nonneg i (by omega)]; exact q)
theorem YQ : OpR X (binaryOp .Pow) (rI CPow fun i j => .int (i ^ j.toNat)) := opI fun _ _ _ _ _ _ _ hc q => pow_int_small hc.1 hc.2.1 hc.2.2 q
theorem unI {f : Value → Sem Value} {g : Int → Int}
    (rule : ∀ (i : Int) (t : Tok) (s : Shared) (Q : Value → Shared → Prop) (E : Value → Shared → Prop), Q (.int (g i) s.toks) { s with toks := s.toks + 1 } → wpAny (model X.prog X.w) X.A (f (.int i t)) Q E s) :
    UnR X f (rU fun i => .int (g i)) := by
  intro pins s σ H x v Q I rx h
  obtain ⟨i, rfl, q⟩ := h
  obtain ⟨t, rfl⟩ := rx
  exact rule i t s _ _ ⟨.int (g i), H, I.tok _, ⟨_, rfl⟩, q⟩
theorem un_neg : UnR X (unaryOp .USub) (rU fun i => .int (-i)) := unI fun _ _ _ _ _ q => neg_int q
end
def scal : V → V → Bool
  | .non, .non => true | .non, .int _ => true | .int _, .non => true | .non, .bl _ => true | .bl _, .non => true | .non, .str _ => true | .str _, .non => true
  | .int _, .int _ => true | .bl _, .bl _ => true | .str _, .str _ => true | .byt _, .byt _ => true
  | .int _, .str _ => true | .str _, .int _ => true | .bl _, .str _ => true | .str _, .bl _ => true
  | _, _ => false
def rEq : R2 := fun x y H Q => scal x y = true ∧ Q (.bl (decide (x = y))) H
def rNe : R2 := fun x y H Q => scal x y = true ∧ Q (.bl (!decide (x = y))) H
theorem dec_int {i j : Int} : decide (V.int i = V.int j) = (i == j) := by
  rw [Bool.eq_iff_iff]
  simp
theorem dec_bl {i j : Bool} : decide (V.bl i = V.bl j) = (i == j) := by
  rw [Bool.eq_iff_iff]
  simp
theorem dec_str {i j : Str} : decide (V.str i = V.str j) = (i == j) := by
  rw [Bool.eq_iff_iff]
  simp
theorem dec_byt {i j : Array UInt8} : decide (V.byt i = V.byt j) = (i.toList == j.toList) := by
  rw [Bool.eq_iff_iff]
  cases i
  cases j
  simp
section
variable {X : Cx} {a b c : Expr} {ta tb tc : TE} {pos : Pos}
theorem j9 {pins : List (Addr × Obj)} {σ : St} {H : Hp} {s : Shared} {Q : VK} {k k' : Bool} (I : Inv X pins σ H s) (q : Q (.bl k) H) (e : k = k') : EP X pins σ Q (.bool k') s := by
  subst e
  exact ⟨.bl k, H, I, rfl, q⟩
theorem op_eq : OpR X (compareOp .Eq) rEq := by
  intro pins s σ H x y v u Q I rx ry h
  obtain ⟨hs, q⟩ := h
  cases x with
  | non =>
    cases rx
    cases y with
    | non => cases ry; exact PySem.EqNone.eq_none_none (j9 I q (by simp))
    | bl j => cases ry; exact PySem.EqNone.eq_none_bool (j9 I q (by simp))
    | int j => obtain ⟨t', rfl⟩ := ry; exact PySem.EqNone.eq_none_int (j9 I q (by simp))
    | str j => obtain ⟨t', rfl⟩ := ry; exact PySem.EqNone.eq_none_str (j9 I q (by simp))
    | _ => exact absurd (show false = true from hs) Bool.false_ne_true
  | bl i =>
    cases rx
    cases y with
    | non => cases ry; exact PySem.EqNone.eq_bool_none (j9 I q (by simp))
    | bl j => cases ry; exact eq_bool (j9 I q dec_bl)
    | str j => obtain ⟨t', rfl⟩ := ry; exact PySem.EqMixed.eq_bool_str (j9 I q (by simp))
    | _ => exact absurd (show false = true from hs) Bool.false_ne_true
  | int i =>
    obtain ⟨t, rfl⟩ := rx
    cases y with
    | non => cases ry; exact PySem.EqNone.eq_int_none (j9 I q (by simp))
    | int j => obtain ⟨t', rfl⟩ := ry; exact eq_int (j9 I q dec_int)
    | str j => obtain ⟨t', rfl⟩ := ry; exact PySem.EqMixed.eq_int_str (j9 I q (by simp))
    | _ => exact absurd (show false = true from hs) Bool.false_ne_true
  | str i =>
    obtain ⟨t, rfl⟩ := rx
    cases y with
    | non => cases ry; exact PySem.EqNone.eq_str_none (j9 I q (by simp))
    | bl j => cases ry; exact PySem.EqMixed.eq_str_bool (j9 I q (by simp))
    | int j => obtain ⟨t', rfl⟩ := ry; exact PySem.EqMixed.eq_str_int (j9 I q (by simp))
    | str j => obtain ⟨t', rfl⟩ := ry; exact eq_str (j9 I q dec_str)
    | _ => exact absurd (show false = true from hs) Bool.false_ne_true
  | byt i =>
    obtain ⟨t, rfl⟩ := rx
    cases y with
    | byt j => obtain ⟨t', rfl⟩ := ry; exact PySem.W.eq_bytes (j9 I q dec_byt)
    | _ => exact absurd (show false = true from hs) Bool.false_ne_true
  | _ => cases y <;> exact absurd (show false = true from hs) Bool.false_ne_true
theorem op_ne : OpR X (compareOp .NotEq) rNe := by
  intro pins s σ H x y v u Q I rx ry h
  obtain ⟨hs, q⟩ := h
  cases x with
  | non =>
    cases rx
    cases y with
    | non => cases ry; exact PySem.EqNone.ne_none_none (j9 I q (by simp))
    | bl j => cases ry; exact PySem.EqNone.ne_none_bool (j9 I q (by simp))
    | int j => obtain ⟨t', rfl⟩ := ry; exact PySem.EqNone.ne_none_int (j9 I q (by simp))
    | str j => obtain ⟨t', rfl⟩ := ry; exact PySem.EqNone.ne_none_str (j9 I q (by simp))
    | _ => exact absurd (show false = true from hs) Bool.false_ne_true
  | bl i =>
    cases rx
    cases y with
    | non => cases ry; exact PySem.EqNone.ne_bool_none (j9 I q (by simp))
    | bl j => cases ry; exact ne_bool (j9 I q (congrArg not dec_bl))
    | str j => obtain ⟨t', rfl⟩ := ry; exact PySem.EqMixed.ne_bool_str (j9 I q (by simp))
    | _ => exact absurd (show false = true from hs) Bool.false_ne_true
  | int i =>
    obtain ⟨t, rfl⟩ := rx
    cases y with
    | non => cases ry; exact PySem.EqNone.ne_int_none (j9 I q (by simp))
    | int j => obtain ⟨t', rfl⟩ := ry; exact ne_int (j9 I q (congrArg not dec_int))
    | str j => obtain ⟨t', rfl⟩ := ry; exact PySem.EqMixed.ne_int_str (j9 I q (by simp))
    | _ => exact absurd (show false = true from hs) Bool.false_ne_true
  | str i =>
    obtain ⟨t, rfl⟩ := rx
    cases y with
    | non => cases ry; exact PySem.EqNone.ne_str_none (j9 I q (by simp))
    | bl j => cases ry; exact PySem.EqMixed.ne_str_bool (j9 I q (by simp))
    | int j => obtain ⟨t', rfl⟩ := ry; exact PySem.EqMixed.ne_str_int (j9 I q (by simp))
    | str j => obtain ⟨t', rfl⟩ := ry; exact ne_str (j9 I q (congrArg not dec_str))
    | _ => exact absurd (show false = true from hs) Bool.false_ne_true
  | byt i =>
    obtain ⟨t, rfl⟩ := rx
    cases y with
    | byt j => obtain ⟨t', rfl⟩ := ry; exact PySem.W.ne_bytes (j9 I q (congrArg not dec_byt))
    | _ => exact absurd (show false = true from hs) Bool.false_ne_true
  | _ => cases y <;> exact absurd (show false = true from hs) Bool.false_ne_true
theorem op_lt : OpR X (compareOp .Lt) (rI0 fun i j => .bl (decide (i < j))) := opB0 fun _ _ _ _ _ _ _ q => lt_int q
theorem op_le : OpR X (compareOp .LtE) (rI0 fun i j => .bl (decide (i ≤ j))) := opB0 fun _ _ _ _ _ _ _ q => le_int q
theorem op_gt : OpR X (compareOp .Gt) (rI0 fun i j => .bl (decide (j < i))) := opB0 fun _ _ _ _ _ _ _ q => gt_int q
theorem op_ge : OpR X (compareOp .GtE) (rI0 fun i j => .bl (decide (j ≤ i))) := opB0 fun _ _ _ _ _ _ _ q => ge_int q
theorem op_in_str : OpR X (compareOp .In) (fun x y H Q => ∃ i j, x = .str i ∧ y = .str j ∧ Q (.bl (!(Builtin.Str.occurrences j i 0 j.length 1).isEmpty)) H) := by
  intro pins s σ H x y v u Q I rx ry h
  obtain ⟨i, j, rfl, rfl, q⟩ := h
  obtain ⟨t, rfl⟩ := rx
  obtain ⟨t', rfl⟩ := ry
  exact in_str (j9 I q rfl)
theorem op_isN : OpR X (compareOp .Is) (fun x y H Q => y = .non ∧ Q (.bl (decide (x = .non))) H) := by
  intro pins s σ H x y v u Q I rx ry h
  obtain ⟨rfl, q⟩ := h
  cases ry
  refine is_none_gen (j9 I q ?_)
  cases x <;> first
    | (cases rx; rfl)
    | (obtain ⟨t, rfl⟩ := rx; rfl)
theorem qY (b : Expr) {op : CmpOp} (h : op ≠ .In := by decide) (h2 : op ≠ .NotIn := by decide) : behindInMarks op b = false := by
  have e1 : (op == CmpOp.In) = false := by cases op <;> first | rfl | exact absurd rfl h
  have e2 : (op == CmpOp.NotIn) = false := by cases op <;> first | rfl | exact absurd rfl h2
  cases b <;> simp [behindInMarks, e1, e2]
theorem kv {op : CmpOp} {r : R2} (ho : OpR X (compareOp op) r) (ha : PE X a ta) (hb : PE X b tb) (hm : behindInMarks op b = false) : PE X (.Compare a [op] [b] pos) (tOp r ta tb) := by
  intro pins s σ H Q I h
  exact wpAny_Compare1 (binT ha hb I h fun v u s2 x y H2 I2 rx ry q => ho pins s2 σ H2 x y v u Q I2 rx ry q) hm
def tTest (t : TE) : TT := fun σ H Q => t σ H fun x H' => ∃ k, x = .bl k ∧ Q k H'
theorem qK {op : CmpOp} {r : R2} (ho : OpR X (compareOp op) r) (ha : PE X a ta) (hb : PE X b tb) (hm : behindInMarks op b = false) : PT X (.Compare a [op] [b] pos) (tTest (tOp r ta tb)) := by
  intro pins s σ H Q I h
  refine wpAny_isTrue_Compare1 (thn (ha pins s σ H _ I h) fun v s1 ⟨x, H1, I1, r1, q1⟩ => thn (hb pins s1 σ H1 _ I1 q1) fun u s2 ⟨y, H2, I2, r2, q2⟩ =>
    thn (ho pins s2 σ H2 x y v u _ I2 r1 r2 q2) fun c s3 ⟨z, H3, I3, r3, k, e, q3⟩ => ?_) hm
  subst e
  cases r3
  exact wpAny_truthy_bool ⟨H3, I3, q3⟩
def tChain (r r' : R2) (ta tb tc : TE) : TE := fun σ H Q => ta σ H fun x H1 => tb σ H1 fun y H2 => r x y H2 fun z H3 => ∃ k, z = .bl k ∧ (if k = true then tc σ H3 fun w' H4 => r' y w' H4 Q else Q (.bl false) H3)
theorem pe_chain {op op' : CmpOp} {r r' : R2} (ho : OpR X (compareOp op) r) (ho' : OpR X (compareOp op') r') (ha : PE X a ta) (hb : PE X b tb) (hc : PE X c tc)
    (hm : lastMarks [op, op'] [b, c] = false := by with_unfolding_all rfl) : PE X (.Compare a [op, op'] [b, c] pos) (tChain r r' ta tb tc) := by
  intro pins s σ H Q I h
  refine Compare_chain (thn (ha pins s σ H _ I h) fun v s1 ⟨x, H1, I1, r1, q1⟩ => chain_link (thn (hb pins s1 σ H1 _ I1 q1) fun u s2 ⟨y, H2, I2, r2, q2⟩ =>
    thn (ho pins s2 σ H2 x y v u _ I2 r1 r2 q2) fun d s3 ⟨z, H3, I3, r3, k, e, q3⟩ => ?_)) hm
  subst e
  cases r3
  refine wpAny_truthy_bool ?_
  cases k with
  | false => exact ite_ff ⟨.bl false, H3, I3, rfl, q3⟩
  | true => exact ite_tt (chain_last (thn (hc pins s3 σ H3 _ I3 q3) fun w' s4 ⟨z', H4, I4, r4, q4⟩ => ho' pins s4 σ H4 y z' u w' Q I4 r2 r4 q4))
theorem pt_chain {op op' : CmpOp} {r r' : R2} (ho : OpR X (compareOp op) r) (ho' : OpR X (compareOp op') r') (ha : PE X a ta) (hb : PE X b tb) (hc : PE X c tc)
    (hm : lastMarks [op, op'] [b, c] = false := by with_unfolding_all rfl) : PT X (.Compare a [op, op'] [b, c] pos) (tTest (tChain r r' ta tb tc)) := by
  intro pins s σ H Q I h
  refine isTrue_chain (thn (ha pins s σ H _ I h) fun v s1 ⟨x, H1, I1, r1, q1⟩ => test_link (thn (hb pins s1 σ H1 _ I1 q1) fun u s2 ⟨y, H2, I2, r2, q2⟩ =>
    thn (ho pins s2 σ H2 x y v u _ I2 r1 r2 q2) fun d s3 ⟨z, H3, I3, r3, k, e, q3⟩ => ?_)) hm
  subst e
  cases r3
  refine wpAny_truthy_bool ?_
  cases k with
  | false =>
    obtain ⟨k', e', q'⟩ := q3
    cases e'
    exact ite_ff ⟨H3, I3, q'⟩
  | true =>
    refine ite_tt (test_last (thn (hc pins s3 σ H3 _ I3 q3) fun w' s4 ⟨z', H4, I4, r4, q4⟩ => thn (ho' pins s4 σ H4 y z' u w' _ I4 r2 r4 q4) fun d' s5 ⟨z2, H5, I5, r5, k2, e2, q5⟩ => ?_))
    subst e2
    cases r5
    exact wpAny_truthy_bool ⟨H5, I5, q5⟩
theorem line63 : (sizeLine : Nat) < 2 ^ 63 := by rw [sizeLine_eq]; decide
theorem kZ : OpR X (binaryOp .Add) (fun x y H Q => ∃ i j, x = .str i ∧ y = .str j ∧ i.length + j.length ≤ sizeLine ∧ Q (.str (i ++ j)) H) := by
  intro pins s σ H x y v u Q I rx ry h
  obtain ⟨i, j, rfl, rfl, hz, q⟩ := h
  obtain ⟨t, rfl⟩ := rx
  obtain ⟨t', rfl⟩ := ry
  exact add_str (fun t' tk => ⟨.str (i ++ j), H, I.tok _, ⟨_, rfl⟩, q⟩) hz
theorem vals1 {x : V} {us : List Value} (r : Vals [x] us) : ∃ u, us = [u] ∧ RelV x u := by
  cases r with
  | cons r1 r2 => cases r2; exact ⟨_, rfl, r1⟩
theorem vals2 {x y : V} {us : List Value} (r : Vals [x, y] us) : ∃ u w', us = [u, w'] ∧ RelV x u ∧ RelV y w' := by
  cases r with
  | cons r1 r2 =>
    cases r2 with
    | cons r3 r4 => cases r4; exact ⟨_, _, rfl, r1, r3⟩
theorem Yq : CallR X (.builtin "abs") (fun xs H Q => ∃ i, xs = [.int i] ∧ Q (.int (if i < 0 then -i else i)) H) := by
  intro pins s σ H xs us Q I r h
  obtain ⟨i, rfl, q⟩ := h
  obtain ⟨u, rfl, t, rfl⟩ := vals1 r
  exact call_abs_int fun u tk => ⟨.int (if i < 0 then -i else i), H, I.tok _, ⟨_, rfl⟩, q⟩
theorem call_min2 (hc : X.calm = true) : CallR X (.builtin "min") (fun xs H Q => ∃ i j, xs = [.int i, .int j] ∧ Q (.int (if j < i then j else i)) H) := by
  intro pins s σ H xs us Q I r h
  obtain ⟨i, j, rfl, q⟩ := h
  obtain ⟨u, w', rfl, ⟨t, rfl⟩, ⟨t', rfl⟩⟩ := vals2 r
  refine min_two_ints (I.ok.hd hc) fun h' tk k => ⟨_, H, I.kept k, ?_, q⟩
  by_cases hj : j < i
  · rw [if_pos hj, if_pos hj]; exact ⟨_, rfl⟩
  · rw [if_neg hj, if_neg hj]; exact ⟨_, rfl⟩
theorem xW : CallR X (.type "int") (fun xs H Q => (∃ i, xs = [.int i] ∧ Q (.int i) H) ∨ ∃ k, xs = [.bl k] ∧ Q (.int (if k then 1 else 0)) H) := by
  intro pins s σ H xs us Q I r h
  rcases h with ⟨i, rfl, q⟩ | ⟨k, rfl, q⟩
  · obtain ⟨u, rfl, t, rfl⟩ := vals1 r
    exact call_int_int ⟨.int i, H, I, ⟨_, rfl⟩, q⟩
  · obtain ⟨u, rfl, r1⟩ := vals1 r
    cases r1
    exact call_int_bool ⟨.int (if k then 1 else 0), H, I.tok _, ⟨_, rfl⟩, q⟩
theorem wz : CallR X (.type "str") (fun xs H Q => ∃ i, xs = [.int i] ∧ i.natAbs.log2 < 1920 ∧ Q (.str (toString i)) H) := by
  intro pins s σ H xs us Q I r h
  obtain ⟨i, rfl, hz, q⟩ := h
  obtain ⟨u, rfl, t, rfl⟩ := vals1 r
  exact PySem.P.str_of_int hz ⟨.str _, H, I.tok _, ⟨_, rfl⟩, q⟩
theorem vy : CallR X (.builtin "divmod") (fun xs H Q => ∃ i j, xs = [.int i, .int j] ∧ CDiv i j ∧ ∀ p, H p = none → Q (.ref p) (upd H p (.tup [.int (i / j), .int (i % j)]))) := by
  intro pins s σ H xs us Q I r h
  obtain ⟨i, j, rfl, ⟨h1, h2⟩, q⟩ := h
  obtain ⟨u, w', rfl, ⟨t, rfl⟩, ⟨t', rfl⟩⟩ := vals2 r
  refine divmod_int (by omega) ?_ (.inl (PyProof.noPylong_small (by omega)))
  rw [Int.fdiv_eq_ediv_of_nonneg i (by omega), Int.fmod_eq_emod_of_nonneg i (by omega)]
  have hn : H s.heap.objs.size = none := I.hok.fresh (Nat.le_refl _)
  refine ⟨.ref s.heap.objs.size, _, ?_, rfl, q _ hn⟩
  refine I.laid (fun b o e => Heap.get?_push_of_some _ e) (Nat.le_refl _) ⟨by simp only [List.length_cons, List.length_nil]; rw [sizeLine_eq]; decide, [.int (i / j) s.toks, .int (i % j) (s.toks + 1)], .cons ⟨_, rfl⟩ (.cons ⟨_, rfl⟩ .nil), ?_⟩
  exact ⟨_, Heap.get?_push_size s.heap rfl, rfl, 0, rfl⟩
end
end L2
namespace L2
open PySem PySem.Spec PyProof.Rows
structure ObjM (h : Heap) (x dx C : Addr) (mA : Str → Option Value) : Prop where
  obj : h.get? x = some (PySem.W.instObj C dx)
  ns : h.Ns1 dx mA
  ne : dx ≠ x
theorem lookIn_ns {h : Heap} {dx : Addr} {mA : Str → Option Value} (n : h.Ns1 dx mA) : ∃ od, h.get? dx = some od ∧ ∀ name, PySem.W.lookIn name od = some (mA name) := by
  obtain ⟨o, es, ep, ho, hd, hk, _, hm⟩ := n
  refine ⟨o, ho, fun name => ?_⟩
  have e := hm name
  unfold nsFind findBy at e
  rw [← Array.find?_toList] at e
  unfold PySem.W.lookIn
  rw [hd]
  dsimp only
  split
  · rename_i y q
    rw [q] at e
    exact congrArg some e
  · rename_i q
    rw [q] at e
    have a : es.toList.any (·.refKey) = false := by
      rw [List.any_eq_false]
      intro y hy
      obtain ⟨z, t, hkey⟩ := hk y (Array.mem_toList_iff.mp hy)
      simp [DictEntry.refKey, hkey]
    have a' : ¬ es.toList.any (·.refKey) = true := by rw [a]; exact Bool.false_ne_true
    rw [if_neg a']
    exact congrArg some e
theorem ObjM.look {h : Heap} {x dx C : Addr} {mA : Str → Option Value} (I : ObjM h x dx C mA) : ∃ od, PySem.W.InstAt h x (PySem.W.instObj C dx) C (some od) ∧ ∀ name, PySem.W.lookIn name od = some (mA name) :=
  let ⟨od, ho, hl⟩ := lookIn_ns I.ns
  ⟨od, ⟨I.obj, rfl, rfl, ho⟩, hl⟩
section
variable {prog : Program} {w : World} {A : Around} {E : Value → Shared → Prop} {s : Shared} {K : PySem.W.Frag} {x dx C f : Addr} {mA : Str → Option Value} {name : Str} {v : Value}
theorem get_map {expr : Bool} {Q : Value → Shared → Prop} (X : K.In s.heap) (I : ObjM s.heap x dx C mA) (hg : PySem.W.plainGet K C name = true) (hh : PySem.W.hasDictIn K C = true)
    (ha : PySem.W.findIn K (.ref C) name = some none) (hv : mA name = some v) (hv' : PySem.W.handedIn v = true) (h : Q v { s with toks := s.toks + 1 }) :
    wpAny (model prog w) A (getAttr (.ref x) name expr) Q E s := by
  obtain ⟨od, J, hl⟩ := I.look
  exact PySem.W.get_value X J (PySem.W.plainGet_of hg).1 (PySem.W.findObj_own hh ha rfl (by rw [hl, hv])) hv' h
theorem get_meth {pl : Sem Bool} {Q : Value × List Value → Shared → Prop} (X : K.In s.heap) (I : ObjM s.heap x dx C mA) (hg : PySem.W.plainGet K C name = true)
    (hf : PySem.W.findIn K (.ref C) name = some (some (.ref f))) (ht : PySem.W.isFn K (.ref f) = true) (hv : mA name = none) (h : Q (.ref f, [.ref x]) s) :
    wpAny (model prog w) A (getMethod (.ref x) name pl) Q E s := by
  obtain ⟨od, J, hl⟩ := I.look
  exact PySem.W.method_fn X J (PySem.W.plainGet_of hg).1 (PySem.W.plainGet_of hg).2 hf (beq_iff_eq.mp ht) (by show (PySem.W.lookIn name od).map (·.isSome) = some false; rw [hl, hv]; rfl) h
theorem set_map {ns : List Str} {Q : Unit → Shared → Prop} (X : K.In s.heap) (I : ObjM s.heap x dx C mA)
    (hs : PySem.W.findIn K (.ref C) "__setattr__" = some (some (.builtin "object.__setattr__"))) (hp : PySem.W.plainOver K C = true) (ht : PySem.W.takerIn K C name = some none) (hh : PySem.W.hasDictIn K C = true)
    (hw : PySem.Within mA ns) (hsz : ns.length ≤ sizeLine)
    (h : ∀ h', ObjM h' x dx C (fun y => if y = name then some v else mA y) → Heap.SameBut dx s.heap h' → Q () { s with heap := h', toks := s.toks + 2 }) :
    wpAny (model prog w) A (setAttr (.ref x) name v) Q E s := by
  obtain ⟨od, J, hl⟩ := I.look
  refine PySem.W.set_plain X J hs (PySem.W.osa_open (s := { s with toks := s.toks + 1 }) (r := none) X J hp ht fun b => ?_)
  obtain ⟨cd, hc, hd'⟩ := PySem.W.any_some hh
  have hx : s.heap.get? x = some ⟨.ref C, some dx, .plain, #[]⟩ := I.obj
  refine wpAny_bind (wpAny_pure (wpAny_bind (wpAny_bind (wpAny_loadPart hx (wpAny_bind (PySem.W.Looks.here (s := { s with toks := s.toks + 1 }) (PySem.W.looks_clsIn X hc) ?_))))))
  rw [hd']
  refine wpAny_pure (a := some dx) (wpAny_bind (wpAny_pure (wpAny_bind ?_)))
  refine wpAny_nsSet1 (s := { s with toks := s.toks + 1 }) I.ns fun h' hn2 hs2 => ?_
  obtain ⟨oD, esD, epD, hoD, hdD, hcD⟩ := hn2.count (PySem.Within.cons name v hw)
  refine wpAny_bind (wpAny_lookBehind hoD (by rw [hdD]; exact pastItsLine_dict (Nat.le_trans hcD (by rw [List.length_cons]; omega))) ?_)
  exact wpAny_pure (h _ ⟨(hs2.2 _ (Ne.symm I.ne)).trans I.obj, hn2, I.ne⟩ hs2)
theorem make_map {R : Result → Shared → Prop} {vs : List Value} {kw : List (Str × Value)} (X : K.In s.heap) (hm : PySem.W.makesIn K C = true)
    (hi : PySem.W.findIn K (.ref C) "__init__" = some (some (.ref f))) (hf : PySem.W.typeIn K (.ref f) = some (.type "function"))
    (h : codeAny (model prog w) (A.under (.builtin "type.__call__" ⟨.ref C :: vs, kw⟩)) (.call (.ref f) ⟨.ref (s.heap.objs.size + 1) :: vs, kw⟩) (PySem.W.InitBack (s.heap.objs.size + 1) R)
      { s with heap := (s.heap.push PySem.W.emptyDict).push (PySem.W.instObj C s.heap.objs.size) }) :
    codeAny (model prog w) A (.call (.ref C) ⟨vs, kw⟩) R s := by
  obtain ⟨hh, g, d, t, os⟩ := s
  exact PySem.W.make_core (PySem.W.makes_of X hm) (PySem.W.looks_findIn X hi) (fun self => PySem.W.bind_fn X self hf) (.inl rfl) h
end
def putF (f : Str) (v : V) : List (Str × V) → List (Str × V)
  | [] => [(f, v)]
  | (g, x) :: r => if g = f then (g, v) :: r else (g, x) :: putF f v r
theorem lookup_putF (f g : Str) (v : V) : ∀ fs : List (Str × V), (putF f v fs).lookup g = if g = f then some v else fs.lookup g
  | [] => by
    show List.lookup g [(f, v)] = _
    by_cases h : g = f
    · have hb : (g == f) = true := beq_iff_eq.mpr h
      simp only [List.lookup, hb, if_pos h]
    · have hb : (g == f) = false := beq_eq_false_iff_ne.mpr h
      simp only [List.lookup, hb, if_neg h]
  | (k, x) :: r => by
    have ih := lookup_putF f g v r
    rw [show putF f v ((k, x) :: r) = (if k = f then (k, v) :: r else (k, x) :: putF f v r) from rfl]
    by_cases hk : k = f
    · rw [if_pos hk]
      by_cases h : g = k
      · have hb : (g == k) = true := beq_iff_eq.mpr h
        simp only [List.lookup, hb, if_pos (h.trans hk)]
      · have hb : (g == k) = false := beq_eq_false_iff_ne.mpr h
        simp only [List.lookup, hb, if_neg (fun e : g = f => h (e.trans hk.symm))]
    · rw [if_neg hk]
      by_cases h : g = k
      · have hb : (g == k) = true := beq_iff_eq.mpr h
        simp only [List.lookup, hb, if_neg (fun e : g = f => hk (h.symm.trans e))]
      · have hb : (g == k) = false := beq_eq_false_iff_ne.mpr h
        simp only [List.lookup, hb]
        exact ih
theorem keys_putF (f : Str) (v : V) : ∀ fs : List (Str × V), f ∈ (putF f v fs).map (·.1) ∧ ∀ g, g ∈ fs.map (·.1) → g ∈ (putF f v fs).map (·.1)
  | [] => ⟨by simp [putF], fun g h => by simp at h⟩
  | (k, x) :: r => by
    obtain ⟨i1, i2⟩ := keys_putF f v r
    rw [show putF f v ((k, x) :: r) = (if k = f then (k, v) :: r else (k, x) :: putF f v r) from rfl]
    by_cases hk : k = f
    · rw [if_pos hk]
      subst hk
      exact ⟨by simp, fun g h => by simpa using h⟩
    · rw [if_neg hk]
      refine ⟨?_, fun g h => ?_⟩
      · rw [List.map_cons]
        exact List.mem_cons_of_mem _ i1
      · rw [List.map_cons] at h ⊢
        rcases List.mem_cons.mp h with e | e
        · exact List.mem_cons.mpr (.inl e)
        · exact List.mem_cons_of_mem _ (i2 g e)
theorem length_putF (f : Str) (v : V) : ∀ fs : List (Str × V), (putF f v fs).length ≤ fs.length + 1
  | [] => by simp [putF]
  | (k, x) :: r => by
    have ih := length_putF f v r
    rw [show putF f v ((k, x) :: r) = (if k = f then (k, v) :: r else (k, x) :: putF f v r) from rfl]
    by_cases hk : k = f
    · rw [if_pos hk, List.length_cons, List.length_cons]; omega
    · rw [if_neg hk, List.length_cons, List.length_cons]; omega
theorem RelO.some_of {v : V} {o : Option Value} (r : RelO (some v) o) : ∃ u, o = some u ∧ RelV v u := by
  cases o with
  | none => exact (show False from r).elim
  | some u => exact ⟨u, rfl, r⟩
theorem RelO.none_of {o : Option Value} (r : RelO none o) : o = none := by
  cases o with
  | none => rfl
  | some u => exact (show False from r).elim
theorem handed_of {v : V} {u : Value} (r : RelV v u) : PySem.W.handedIn u = true := by
  cases v with
  | non => cases (show u = Value.none from r); rfl
  | bl b => cases (show u = Value.bool b from r); rfl
  | int i => obtain ⟨t, e⟩ := (show ∃ t, u = Value.int i t from r); cases e; rfl
  | str x => obtain ⟨t, e⟩ := (show ∃ t, u = Value.str x t from r); cases e; rfl
  | byt b => obtain ⟨t, e⟩ := (show ∃ t, u = Value.bytes b t from r); cases e; rfl
  | flt b => obtain ⟨t, e⟩ := (show ∃ t, u = Value.float b t from r); cases e; rfl
  | ref a => cases (show u = Value.ref a from r); rfl
  | ty n => cases (show u = Value.type n from r); rfl
section
variable {P : Program} {w : World} {H H' : Hp} {h h' : Heap} {a C dx : Addr} {fs fs' : List (Str × V)}
theorem ins_get (hok : HOk P w H h) (e : H a = some (.ins C dx fs)) : ∃ mA, ObjM h a dx C mA ∧ (∀ f, RelO (fs.lookup f) (mA f)) ∧ PySem.Within mA (fs.map (·.1)) ∧ fs.length ≤ 1000 ∧ H dx = some (.own a) := by
  obtain ⟨d, z, ne, ob, mA, n, r, q⟩ := (show ObjOk P w H h a (.ins C dx fs) from hok a _ e)
  exact ⟨mA, ⟨ob, n, ne⟩, r, q, z, d⟩
end
structure Cls (K : PySem.W.Frag) (C : Addr) : Prop where
  pg : PySem.W.plainGet K C Str.empty = true
  hd : PySem.W.hasDictIn K C = true
  po : PySem.W.plainOver K C = true
  sa : PySem.W.findIn K (.ref C) "__setattr__" = some (some (.builtin "object.__setattr__"))
theorem Cls.get {K : PySem.W.Frag} {C : Addr} (c : Cls K C) (f : Str) : PySem.W.plainGet K C f = true := c.pg
def J0 (K : PySem.W.Frag) (C : Addr) (f : Str) : Prop := PySem.W.findIn K (.ref C) f = some none
theorem J0.taker {K : PySem.W.Frag} {C : Addr} {f : Str} (n : J0 K C f) : PySem.W.takerIn K C f = some none := by
  unfold PySem.W.takerIn
  rw [show PySem.W.findIn K (.ref C) f = some none from n]
  rfl
structure Con (K : PySem.W.Frag) (C : Addr) (f : Str) (v : V) (u : Value) : Prop where
  at_ : PySem.W.findIn K (.ref C) f = some (some u)
  rel : RelV v u
  get : PySem.W.specialIn K u "__get__" = some none
  cp : PySem.W.copiedNames.contains f = false
structure Meth (K : PySem.W.Frag) (C : Addr) (m : Str) (f : Addr) : Prop where
  at_ : PySem.W.findIn K (.ref C) m = some (some (.ref f))
  fn : PySem.W.isFn K (.ref f) = true
  kp : PySem.W.keepIn K (.ref f) = true
section
variable {X : Cx} {pins : List (Addr × Obj)} {σ : St} {H : Hp} {s : Shared} {a C dx : Addr} {fs : List (Str × V)} {f : Str} {v : V} {A : Around} {E : Value → Shared → Prop}
theorem getattr_ok {b : Bool} {Q : Value → Shared → Prop} (I : Inv X pins σ H s) (e : H a = some (.ins C dx fs)) (c : Cls X.K C) (n : J0 X.K C f) (l : fs.lookup f = some v)
    (h : ∀ u s', Inv X pins σ H s' → RelV v u → Q u s') : wpAny (model X.prog X.w) A (getAttr (.ref a) f b) Q E s := by
  obtain ⟨mA, O, r, _, _, _⟩ := ins_get I.hok e
  obtain ⟨u, hu, ru⟩ := RelO.some_of (v := v) (o := mA f) (by rw [← l]; exact r f)
  exact get_map I.kIn O (c.get f) c.hd n hu (handed_of ru) (h u _ (I.tok _) ru)
theorem getmeth_ok {m : Str} {g : Addr} {pl : Sem Bool} {Q : Value × List Value → Shared → Prop} (I : Inv X pins σ H s) (e : H a = some (.ins C dx fs)) (c : Cls X.K C) (k : Meth X.K C m g) (l : fs.lookup m = none)
    (h : Q (.ref g, [.ref a]) s) : wpAny (model X.prog X.w) A (getMethod (.ref a) m pl) Q E s := by
  obtain ⟨mA, O, r, _, _, _⟩ := ins_get I.hok e
  have hn : mA m = none := RelO.none_of (by rw [← l]; exact r m)
  exact get_meth I.kIn O (c.get m) k.at_ k.fn hn h
theorem setattr_ok {y : V} {u : Value} {Q : Unit → Shared → Prop} (I : Inv X pins σ H s) (e : H a = some (.ins C dx fs)) (c : Cls X.K C) (n : J0 X.K C f) (hl : fs.length < 1000) (ry : RelV y u)
    (h : ∀ s', Inv X pins σ (upd H a (.ins C dx (putF f y fs))) s' → Q () s') : wpAny (model X.prog X.w) A (setAttr (.ref a) f u) Q E s := by
  obtain ⟨mA, O, r, wi, _, ho⟩ := ins_get I.hok e
  have hz : (fs.map (·.1)).length ≤ sizeLine := by rw [List.length_map, sizeLine_eq]; omega
  refine set_map I.kIn O c.sa c.po n.taker c.hd wi hz fun h' O' sb => h _ ?_
  have hd : ∃ o, h'.get? dx = some o := let ⟨o, _, _, e', _⟩ := O'.ns; ⟨o, e'⟩
  refine I.write (x := a) (e := dx) (by rw [e]; exact True.intro) (.inr ho) (fun b q hb z => (sb.2 b hb).trans z) hd ?_
  refine ⟨by rw [zK O.ne]; exact ho, ?_, O.ne, O'.obj, _, O'.ns, fun g => ?_, fun g hg => ?_⟩
  · have := length_putF f y fs; omega
  · show RelO ((putF f y fs).lookup g) (if g = f then some u else mA g)
    rw [lookup_putF]
    by_cases q : g = f
    · rw [if_pos q, if_pos q]; exact ry
    · rw [if_neg q, if_neg q]; exact r g
  · by_cases q : g = f
    · rw [q]; exact (keys_putF f y fs).1
    · refine (keys_putF f y fs).2 g (wi g fun z => hg ?_)
      show (if g = f then some u else mA g) = none
      rw [if_neg q]; exact z
theorem Inv.made (I : Inv X pins σ H s) : Inv X pins σ (upd (upd H s.heap.objs.size (.own (s.heap.objs.size + 1))) (s.heap.objs.size + 1) (.ins C s.heap.objs.size []))
    { s with heap := (s.heap.push PySem.W.emptyDict).push (PySem.W.instObj C s.heap.objs.size) } := by
  have e1 : (s.heap.push PySem.W.emptyDict).get? s.heap.objs.size = some PySem.W.emptyDict := Heap.get?_push_size s.heap rfl
  have e2 : ((s.heap.push PySem.W.emptyDict).push (PySem.W.instObj C s.heap.objs.size)).get? (s.heap.objs.size + 1) = some (PySem.W.instObj C s.heap.objs.size) := by
    have := Heap.get?_push_size (s.heap.push PySem.W.emptyDict) (o := PySem.W.instObj C s.heap.objs.size) rfl
    rwa [Heap.size_push] at this
  have e3 : (s.heap.push PySem.W.emptyDict).Ns s.heap.objs.size (fun _ => none) := ⟨PySem.W.emptyDict, #[], _, e1, rfl, (fun e he => absurd he (by simp)), fun _ => rfl⟩
  have I1 := I.laid (a := s.heap.objs.size) (o := .own (s.heap.objs.size + 1)) (h' := s.heap.push PySem.W.emptyDict) (t' := s.toks) (fun b u q => Heap.get?_push_of_some _ q) (Nat.le_refl _) ⟨_, e1⟩
  refine I1.laid (a := s.heap.objs.size + 1) (o := .ins C s.heap.objs.size []) (t' := s.toks) (fun b u q => Heap.get?_push_of_some _ q) (Nat.le_of_eq (Heap.size_push _ _)) ?_
  have ne : s.heap.objs.size ≠ s.heap.objs.size + 1 := Nat.ne_of_lt (Nat.lt_succ_self _)
  refine ⟨by rw [zK ne, qz], Nat.zero_le _, ne, e2, fun _ => none, (Heap.Ns1.of_empty e3).at fun o q => Heap.get?_push_of_some _ q, fun _ => True.intro, fun y hy => absurd rfl hy⟩
theorem attr_of {prog : Program} {w : World} {env : Env} {e : Expr} {f : Str} {pos : Pos} {s : Shared} {Q : Value → Shared → Prop} (hb : attributeBase e f env (eval e env) = eval e env)
    (h : wpAny (model prog w) A (eval e env) (fun o s₁ => wpAny (model prog w) A (getAttr o f true) Q E s₁) E s) : wpAny (model prog w) A (eval (.Attribute e f pos) env) Q E s :=
  Attribute_any_ h (by rw [arm_eval_Attribute, hb])
end
def tFld (K : PySem.W.Frag) (ta : TE) (f : Str) : TE := fun σ H Q => ta σ H fun x H1 => ∃ a C dx fs v, x = .ref a ∧ H1 a = some (.ins C dx fs) ∧ Cls K C ∧ J0 K C f ∧ fs.lookup f = some v ∧ Q v H1
def sFld (K : PySem.W.Frag) (ta tv : TE) (f : Str) : TS := fun D σ H => tv σ H fun y H1 => ta σ H1 fun x H2 => ∃ a C dx fs, x = .ref a ∧ H2 a = some (.ins C dx fs) ∧ Cls K C ∧ J0 K C f ∧ fs.length < 1000 ∧ D.nx σ (upd H2 a (.ins C dx (putF f y fs)))
section
variable {X : Cx} {o e value : Expr} {f : Str} {pos pos' tpos : Pos} {ta tv : TE}
theorem pe_fld (he : PE X e ta) (hb : attributeBase e f X.env (eval e X.env) = eval e X.env) : PE X (.Attribute e f pos) (tFld X.K ta f) := by
  intro pins s σ H Q I h
  refine attr_of hb (thn (he pins s σ H _ I h) fun u s1 ⟨x, H1, I1, rx, a, C, dx, fs, v, ex, ea, c, n, l, q⟩ => ?_)
  subst ex
  obtain rfl : u = Value.ref a := rx
  exact getattr_ok I1 ea c n l fun u' s2 I2 ru => ⟨v, H1, I2, ru, q⟩
theorem ps_fld (ha : PE X o ta) (hv : PE X value tv) (hs : swapsWith value (some (.Attribute o f pos')) pos.line X.env = pure false) : PS X (.Assign [.Attribute o f pos'] value pos) (sFld X.K ta tv f) := by
  intro pins s σ H D I h
  refine plainObj_wpAny_Assign_Attribute (thn (hv pins s σ H _ I h) fun u s1 ⟨y, H1, I1, ry, q⟩ => thn (ha pins s1 σ H1 _ I1 q) fun ov s2 ⟨x, H2, I2, rx, a, C, dx, fs, ex, ea, c, n, l, q2⟩ => ?_) hs
  subst ex
  obtain rfl : ov = Value.ref a := rx
  exact setattr_ok I2 ea c n l ry fun s3 I3 => ⟨σ, _, I3, q2⟩
end
section
variable {X : Cx} {pins : List (Addr × Obj)} {σ : St} {H : Hp} {s : Shared} {A : Around} {E : Value → Shared → Prop} {Q : Value → Shared → Prop} {c : Value} {b : Bool}
inductive TyOf (K : PySem.W.Frag) (H : Hp) : V → Value → Prop where
  | non : TyOf K H .non (.type "NoneType")
  | bl (x : Bool) : TyOf K H (.bl x) (.type "bool")
  | int (i : Int) : TyOf K H (.int i) (.type "int")
  | str (x : Str) : TyOf K H (.str x) (.type "str")
  | flt (x : UInt64) : TyOf K H (.flt x) (.type "float")
  | lst {a : Addr} {xs : List V} (e : H a = some (.lst xs)) : TyOf K H (.ref a) (.type "list")
  | frz {a : Addr} {o : Obj} {xs : List V} (e : H a = some (.frz o (.lst xs))) : TyOf K H (.ref a) (.type "list")
  | tup {a : Addr} {xs : List V} (e : H a = some (.tup xs)) : TyOf K H (.ref a) (.type "tuple")
  | dK {a : Addr} {kvs : List (Key × V)} (e : H a = some (.dK kvs)) : TyOf K H (.ref a) (.type "dict")
  | dT {a : Addr} {kvs : List (List Key × V)} (e : H a = some (.dT kvs)) : TyOf K H (.ref a) (.type "dict")
  | ins {a C dx : Addr} {fs : List (Str × V)} (e : H a = some (.ins C dx fs)) (cl : Cls K C) (ha : PySem.W.findIn K (.ref C) "__class__" = some (some (.builtin "object.__class__")))
      (hn : PySem.W.specialIn K (.builtin "object.__class__") "__get__" = some (some (.builtin "getset_descriptor.__get__"))) (htk : PySem.W.takesIn K (.builtin "object.__class__") = some true)
      (hm : PySem.W.mroIn K C (.type "object") = some true) : TyOf K H (.ref a) (.ref C)
end
end L2
namespace L2
open PySem PySem.Spec PyProof.Rows
structure Room (k : Nat) (A : Around) : Prop where
  hd : A.handled = none
  dp : A.depth + 3 * k + 5 < recursionLimit
  un : A.units + 16 * k + 200 < cLine
theorem Room.mono {j k : Nat} {A : Around} (r : Room k A) (h : j ≤ k) : Room j A := ⟨r.hd, by have := r.dp; omega, by have := r.un; omega⟩
theorem Room.deeper {k : Nat} {A : Around} (r : Room (k + 1) A) (env : Env) : Room k (A.deeper env) :=
  ⟨r.hd, by have := r.dp; show A.depth + 1 + 3 * k + 5 < _; omega, by have := r.un; show A.units + 3 + 16 * k + 200 < _; omega⟩
theorem make_depth {A : Around} {C : Addr} {us : List Value} {kw : List (Str × Value)} : (A.under (.builtin "type.__call__" ⟨.ref C :: us, kw⟩)).depth = A.depth + 1 := by
  first | rfl | simp [Around.under, Code.weight, Code.isCreation, Code.isGuard, Code.isCaller, Code.frames, Code.isFrame, guardIds]
theorem make_units {A : Around} {C : Addr} {us : List Value} {kw : List (Str × Value)} : (A.under (.builtin "type.__call__" ⟨.ref C :: us, kw⟩)).units = A.units + 1 := by
  first | rfl | simp [Around.under, Code.cUnits, Code.frames, Code.isFrame]
theorem Room.make {k : Nat} {A : Around} (r : Room (k + 1) A) (C : Addr) (us : List Value) (kw : List (Str × Value)) : Room k (A.under (.builtin "type.__call__" ⟨.ref C :: us, kw⟩)) :=
  ⟨r.hd, by have := r.dp; rw [make_depth]; omega, by have := r.un; rw [make_units]; omega⟩
theorem Room.depth {k : Nat} {A : Around} (r : Room k A) : A.depth < recursionLimit := by have := r.dp; omega
theorem Room.units {k : Nat} {A : Around} (r : Room k A) : A.units + 64 < cLine := by have := r.un; omega
def tNil : TA := fun _ H Q => Q [] H
def tCons (ta : TE) (tr : TA) : TA := fun σ H Q => ta σ H fun x H1 => tr σ H1 fun xs H2 => Q (x :: xs) H2
section
variable {X : Cx} {e : Expr} {es : List Expr} {te : TE} {t : TA} {pos : Pos}
theorem qj : PA X [] tNil := fun _ _ _ _ H Q I h => Calls.spliced_nil ⟨[], H, I, .nil, h⟩
theorem pa_cons (ha : PE X e te) (hr : PA X es t) (hs : starEach (e :: es) X.env = (false, eval e X.env) :: starEach es X.env := by rfl) : PA X (e :: es) (tCons te t) := by
  intro pos pins s σ H Q I h
  rw [hs]
  show wpAny _ _ (spliced ((false, eval e X.env) :: backTo pos (starEach es X.env))) _ _ s
  refine Calls.spliced_cons (thn (ha pins s σ H _ I h) fun u s1 ⟨x, H1, I1, r1, q1⟩ => ?_)
  exact thn (hr pos pins s1 σ H1 _ I1 q1) fun us s2 ⟨xs, H2, I2, r2, q2⟩ => ⟨x :: xs, H2, I2, .cons r1 r2, q2⟩
def tTup (t : TA) : TE := fun σ H Q => t σ H fun xs H1 => xs.length ≤ sizeLine ∧ ∀ p, H1 p = none → Q (.ref p) (upd H1 p (.tup xs))
def tLst (t : TA) : TE := fun σ H Q => t σ H fun xs H1 => xs.length ≤ sizeLine ∧ ∀ p, H1 p = none → Q (.ref p) (upd H1 p (.lst xs))
theorem vq {x1} (h : PA X es t) : PE X (.Tuple es x1 pos) (tTup t) := by
  intro pins s σ H Q I hq
  refine wpAny_Tuple_spliced (thn (h pos pins s σ H _ I hq) fun us s1 ⟨xs, H1, I1, r, z, q⟩ => ⟨by rw [← r.length]; exact z, ?_⟩)
  have hf : H1 s1.heap.objs.size = none := I1.hok.fresh (Nat.le_refl _)
  refine ⟨.ref s1.heap.objs.size, upd H1 s1.heap.objs.size (.tup xs), I1.laid (t' := s1.toks) (fun b u e => Heap.get?_push_of_some _ e) (Nat.le_refl _) ?_, rfl, q _ hf⟩
  exact ⟨z, us, r, ⟨_, Heap.get?_push_size _ rfl, rfl, _, rfl⟩⟩
theorem jj (h : PA X es t) : PE X (.List es pos) (tLst t) := by
  intro pins s σ H Q I hq
  refine wpAny_List_spliced (thn (h pos pins s σ H _ I hq) fun us s1 ⟨xs, H1, I1, r, z, q⟩ => ⟨by rw [← r.length]; exact z, ?_⟩)
  have hf : H1 s1.heap.objs.size = none := I1.hok.fresh (Nat.le_refl _)
  refine ⟨.ref s1.heap.objs.size, upd H1 s1.heap.objs.size (.lst xs), I1.laid (t' := s1.toks) (fun b u e => Heap.get?_push_of_some _ e) (Nat.le_refl _) ?_, rfl, q _ hf⟩
  exact ⟨z, us, 0, r, Heap.get?_push_size _ rfl⟩
end
abbrev Sp := List V → Hp → VK → XK → Prop
abbrev CXT := List Env → Hp → Shared → XK → Value → Shared → Prop
structure Env0 (P : Program) (w : World) (K : PySem.W.Frag) (mg : Str → Option Value) (base : Heap) (A : Around) (outer : List Env) (s : Shared) (H : Hp) : Prop where
  frames : A.frames = some outer
  mod : Mod K mg base
  bs : ∀ b o, base.get? b = some o → s.heap.get? b = some o ∧ H b = none
  bsz : base.objs.size ≤ s.heap.objs.size
  funs : s.heap.FunFrames base outer
  frf : ∀ b ∈ frs outer, H b = none
  hok : HOk P w H s.heap
  bare : AllBare s.gens
def CE (outer : List Env) (P : Program) (w : World) (H : Hp) (s : Shared) (Q : VK) (u : Value) (s' : Shared) : Prop :=
  ∃ v H', s'.os = s.os ∧ AllBare s'.gens ∧ Un (frs outer) [] H H' s.heap s'.heap ∧ HOk P w H' s'.heap ∧ RelV v u ∧ Q v H'
def CR (CX : CXT) (outer : List Env) (P : Program) (w : World) (H : Hp) (s : Shared) (Q : VK) (E : XK) (r : Result) (s' : Shared) : Prop :=
  match r with
  | .ok (.ret u) => CE outer P w H s Q u s'
  | .ok _ => False
  | .error e => CX outer H s E e s'
structure FnOk (P : Program) (w : World) (K : PySem.W.Frag) (mg : Str → Option Value) (base : Heap) (CX : CXT) (k : Nat) (f : Addr) (fd : FuncData) (ps : List Str) (sp : Sp) : Prop where
  len : ∀ vs H Q E, sp vs H Q E → vs.length = ps.length
  run : ∀ (A : Around) (outer : List Env) (s : Shared) (H : Hp) (args : Args) (us : List Value) (vs : List V) (Q : VK) (E : XK), Room k A → Env0 P w K mg base A outer s H → BindsTo s fd args (ps.zip us) → Vals vs us → sp vs H Q E → codeAny (model P w) A (.call (.ref f) args) (CR CX outer P w H s Q E) s
theorem Env0.make {P : Program} {w : World} {K : PySem.W.Frag} {mg : Str → Option Value} {base : Heap} {A : Around} {outer : List Env} {s : Shared} {H : Hp} (e : Env0 P w K mg base A outer s H) (C : Addr) (us : List Value) (kw : List (Str × Value)) :
    Env0 P w K mg base (A.under (.builtin "type.__call__" ⟨.ref C :: us, kw⟩)) outer s H := ⟨by first | exact e.frames | (simpa [Around.under, Code.envs, Code.isFrame, pushEnvs] using e.frames), e.mod, e.bs, e.bsz, e.funs, e.frf, e.hok, e.bare⟩
section
variable {X : Cx} {pins : List (Addr × Obj)} {σ : St} {H : Hp} {s s' : Shared}
theorem Inv.env0 (I : Inv X pins σ H s) : Env0 X.prog X.w X.K X.mg X.base X.A X.stack s H :=
  ⟨I.ok.frames, I.ok.mod, I.bs, Nat.le_trans I.ok.bsz I.sz, I.stack, I.stkFree, I.hok, I.bare⟩
theorem Inv.after {Q : VK} {u : Value} (I : Inv X pins σ H s) (h : CE X.stack X.prog X.w H s Q u s') : EP X pins σ Q u s' := by
  obtain ⟨v, H', os, bare, un, hok, r, q⟩ := h
  obtain ⟨hh, g, d, t, os'⟩ := s'
  obtain rfl : os' = s.os := os
  exact ⟨v, H', I.call (h' := hh) (g' := g) (d' := d) (t' := t) (ch := []) un hok bare (fun b z => absurd z (by simp)), r, q⟩
end
def tCall (sp : Sp) (dvs : List V) (E : XK) (t : TA) : TE := fun σ H Q => t σ H fun vs H1 => sp (vs ++ dvs) H1 Q E
def tMake (C : Addr) (sp : Sp) (dvs : List V) (E : XK) (t : TA) : TE := fun σ H Q => t σ H fun vs H1 => ∀ x dx, H1 x = none → H1 dx = none → dx ≠ x → sp (.ref x :: (vs ++ dvs)) (upd (upd H1 dx (.own x)) x (.ins C dx [])) (fun v H2 => v = .non ∧ Q (.ref x) H2) E
def Binds (K : PySem.W.Frag) (fd : FuncData) (ps : List Str) (ds : List Value) : Prop :=
  ∀ (s : Shared) (us : List Value), K.In s.heap → (us ++ ds).length = ps.length → BindsTo s fd ⟨us, []⟩ (ps.zip (us ++ ds))
theorem Binds.all {K : PySem.W.Frag} {fd : FuncData} {ps : List Str} (h : ∀ us : List Value, us.length = ps.length → bindArgs fd ⟨us, []⟩ = pure (ps.zip us)) : Binds K fd ps [] := fun s us _ hl => by
  rw [List.append_nil] at hl ⊢
  exact .of_eq (h us hl)
def Passes (CX : CXT) (X : Cx) (E : XK) : Prop := ∀ (pins : List (Addr × Obj)) (σ : St) (H : Hp) (s : Shared) (e : Value) (s' : Shared), Inv X pins σ H s → CX X.stack H s E e s' → X.xe e s'
section
variable {X : Cx} {CX : CXT} {k : Nat} {f C : Addr} {fd : FuncData} {ps : List Str} {sp : Sp} {dvs : List V} {ds : List Value} {E : XK} {x m : Str} {p pos apos : Pos} {e o : Expr} {es : List Expr} {ta : TE} {t : TA}
theorem run_fn {pins : List (Addr × Obj)} {σ : St} {H : Hp} {s : Shared} {Q : VK} {us : List Value} {vs : List V} (F : FnOk X.prog X.w X.K X.mg X.base CX k f fd ps sp) (hr : Room k X.A) (hb : Binds X.K fd ps ds) (hd : Vals dvs ds) (hx : Passes CX X E)
    (I : Inv X pins σ H s) (r : Vals vs us) (h : sp (vs ++ dvs) H Q E) : wpAny (model X.prog X.w) X.A (call (.ref f) us) (EP X pins σ Q) X.xe s := by
  have r2 : Vals (vs ++ dvs) (us ++ ds) := r.append hd
  have hl : (us ++ ds).length = ps.length := by rw [← r2.length]; exact F.len _ _ _ _ h
  refine wpAny_call (codeAny_mono (F.run X.A X.stack s H ⟨us, []⟩ (us ++ ds) (vs ++ dvs) Q E hr I.env0 (hb s us I.kIn hl) r2 h) fun r s' hq => ?_)
  cases r with
  | error e => exact hx pins σ H s e s' I hq
  | ok fl =>
    cases fl with
    | ret u => exact I.after hq
    | next => exact False.elim hq
    | brk => exact False.elim hq
    | cont => exact False.elim hq
theorem qW (F : FnOk X.prog X.w X.K X.mg X.base CX k f fd ps sp) (hr : Room k X.A) (hg : Gl X x) (hm : X.mg x = some (.ref f)) (hk : PySem.W.keepIn X.K (.ref f) = true) (hb : Binds X.K fd ps ds) (hd : Vals dvs ds) (hx : Passes CX X E)
    (ha : PA X (e :: es) t) (hdb : (x == ("__debug__" : Str)) = false := by decide) (he : starEach (e :: es) X.env = (false, eval e X.env) :: starEach es X.env := by rfl) (hpl : (backTo pos (starEach es X.env)).any (·.1) = false := by rfl) :
    PE X (.Call (.Name x p) (e :: es) [] pos) (tCall sp dvs E t) := by
  intro pins s σ H Q I h
  refine wpAny_Call_Name_kw (ld_glob I hg hm ?_ hdb)
  refine PySem.W.callWith_K (h₀ := X.base) I.ok.mod.kin hk (thn (ha pos pins s σ H _ I h) fun us s1 ⟨vs, H1, I1, r, q⟩ => ⟨I1.kIn, ?_⟩) he hpl
  exact run_fn F hr hb hd hx I1 r q
structure Mk (K : PySem.W.Frag) (C f : Addr) : Prop where
  makes : PySem.W.makesIn K C = true
  init : PySem.W.findIn K (.ref C) "__init__" = some (some (.ref f))
  fn : PySem.W.isFn K (.ref f) = true
  kp : PySem.W.keepIn K (.ref C) = true
theorem run_make {pins : List (Addr × Obj)} {σ : St} {H : Hp} {s : Shared} {Q : VK} {us : List Value} {vs : List V} (M : Mk X.K C f) (F : FnOk X.prog X.w X.K X.mg X.base CX k f fd ps sp) (hr : Room (k + 1) X.A) (hb : Binds X.K fd ps ds) (hd : Vals dvs ds)
    (hx : Passes CX X E) (I : Inv X pins σ H s) (r : Vals vs us)
    (h : ∀ x dx, H x = none → H dx = none → dx ≠ x → sp (.ref x :: (vs ++ dvs)) (upd (upd H dx (.own x)) x (.ins C dx [])) (fun v H2 => v = .non ∧ Q (.ref x) H2) E) :
    wpAny (model X.prog X.w) X.A (call (.ref C) us) (EP X pins σ Q) X.xe s := by
  have hq := h (s.heap.objs.size + 1) s.heap.objs.size (I.hok.fresh (Nat.le_succ _)) (I.hok.fresh (Nat.le_refl _)) (Nat.ne_of_lt (Nat.lt_succ_self _))
  have I2 := Inv.made (C := C) I
  have r2 : Vals (V.ref (s.heap.objs.size + 1) :: (vs ++ dvs)) (Value.ref (s.heap.objs.size + 1) :: (us ++ ds)) := .cons rfl (r.append hd)
  have hl : (Value.ref (s.heap.objs.size + 1) :: us ++ ds).length = ps.length := by
    have e := r2.length
    rw [F.len _ _ _ _ hq] at e
    exact e.symm
  refine wpAny_call (make_map (f := f) I.kIn M.makes M.init (beq_iff_eq.mp M.fn) (codeAny_mono (F.run _ X.stack _ _ ⟨Value.ref (s.heap.objs.size + 1) :: us, []⟩ (Value.ref (s.heap.objs.size + 1) :: (us ++ ds)) _ _ E (hr.make C us [])
    (I2.env0.make C us []) (hb _ (Value.ref (s.heap.objs.size + 1) :: us) I2.kIn hl) r2 hq) fun r s' hq' => ?_))
  cases r with
  | error e => exact hx pins σ _ _ e s' I2 hq'
  | ok fl =>
    cases fl with
    | ret u =>
      obtain ⟨v, H', I3, rv, ev, q3⟩ := I2.after hq'
      subst ev
      exact ⟨rv, ⟨V.ref (s.heap.objs.size + 1), H', I3, rfl, q3⟩⟩
    | next => exact False.elim hq'
    | brk => exact False.elim hq'
    | cont => exact False.elim hq'
theorem pe_make (M : Mk X.K C f) (F : FnOk X.prog X.w X.K X.mg X.base CX k f fd ps sp) (hr : Room (k + 1) X.A) (hg : Gl X x) (hm : X.mg x = some (.ref C)) (hb : Binds X.K fd ps ds) (hd : Vals dvs ds) (hx : Passes CX X E)
    (ha : PA X (e :: es) t) (hdb : (x == ("__debug__" : Str)) = false := by decide) (he : starEach (e :: es) X.env = (false, eval e X.env) :: starEach es X.env := by rfl) (hpl : (backTo pos (starEach es X.env)).any (·.1) = false := by rfl) :
    PE X (.Call (.Name x p) (e :: es) [] pos) (tMake C sp dvs E t) := by
  intro pins s σ H Q I h
  refine wpAny_Call_Name_kw (ld_glob I hg hm ?_ hdb)
  refine PySem.W.callWith_K (h₀ := X.base) I.ok.mod.kin M.kp (thn (ha pos pins s σ H _ I h) fun us s1 ⟨vs, H1, I1, r, q⟩ => ⟨I1.kIn, ?_⟩) he hpl
  exact run_make M F hr hb hd hx I1 r q
end
section
variable {X : Cx} {CX : CXT} {k : Nat} {f C : Addr} {fd : FuncData} {ps ks : List Str} {sp : Sp} {E : XK} {x m : Str} {p pos apos kpos : Pos} {e o : Expr} {es : List Expr} {kws : List Keyword} {te ta : TE} {t tk : TA} {nm : Option Str}
structure KBinds (K : PySem.W.Frag) (fd : FuncData) (ps ks : List Str) (g : List Value → List Value → List Value) (gV : List V → List V → List V) : Prop where
  to : ∀ (s : Shared) (us ws : List Value), K.In s.heap → (g us ws).length = ps.length → BindsTo s fd ⟨us, ks.zip ws⟩ (ps.zip (g us ws))
  rel : ∀ {vs : List V} {us : List Value} {zs : List V} {ws : List Value}, Vals vs us → Vals zs ws → Vals (gV vs zs) (g us ws)
variable {g : List Value → List Value → List Value} {gV : List V → List V → List V}
end
structure FnScope (N P : List Str) (sc : Scope) : Prop where
  kind : sc.kind = .function
  co : sc.isCoroutine = false
  gen : sc.isGenerator = false
  nd : N.Nodup
  pre : N.take P.length = P
  par : ∀ x ∈ P, sc.names.lookup x = some .local ∨ sc.names.lookup x = some .cell
  nofree : ∀ y ∈ sc.names, y.2 ≠ .free
theorem bindL_out {kindOf : Str → Option NameKind} {x : Str} : ∀ {binds : List (Str × Value)} {m : Str → Option Value}, (∀ v, (x, v) ∉ binds) → bindL kindOf binds m x = m x
  | [], _, _ => rfl
  | (n, v) :: r, m, h => by
    unfold bindL
    rw [bindL_out fun w hw => h w (List.mem_cons_of_mem _ hw)]
    split
    · have : x ≠ n := by rintro rfl; exact h v List.mem_cons_self
      simp [this]
    · rfl
theorem bindC_out {kindOf : Str → Option NameKind} {x : Str} : ∀ {binds : List (Str × Value)} {m : Str → Option Value}, (∀ v, (x, v) ∉ binds) → bindC kindOf binds m x = m x
  | [], _, _ => rfl
  | (n, v) :: r, m, h => by
    unfold bindC
    rw [bindC_out fun w hw => h w (List.mem_cons_of_mem _ hw)]
    split
    · rfl
    · have : x ≠ n := by rintro rfl; exact h v List.mem_cons_self
      simp [this]
theorem bindL_get {kindOf : Str → Option NameKind} {x : Str} {v : Value} : ∀ {P : List Str} {vs : List Value} {i : Nat} {m : Str → Option Value}, P.Nodup → P[i]? = some x → vs[i]? = some v → kindOf x = some .local → bindL kindOf (P.zip vs) m x = some v
  | [], _, _, _, _, h, _, _ => by simp at h
  | _ :: _, [], _, _, _, _, h, _ => by simp at h
  | p :: P, w :: vs, 0, m, nd, h1, h2, hk => by
    simp at h1 h2; subst h1; subst h2
    show bindL kindOf ((p, w) :: P.zip vs) m p = _
    unfold bindL
    rw [bindL_out fun v hv => (List.nodup_cons.mp nd).1 (List.of_mem_zip hv).1, if_pos hk]
    simp
  | p :: P, w :: vs, i + 1, m, nd, h1, h2, hk => by
    show bindL kindOf ((p, w) :: P.zip vs) m x = _
    unfold bindL
    exact bindL_get (i := i) (List.nodup_cons.mp nd).2 (by simpa using h1) (by simpa using h2) hk
theorem bindC_get {kindOf : Str → Option NameKind} {x : Str} {v : Value} : ∀ {P : List Str} {vs : List Value} {i : Nat} {m : Str → Option Value}, P.Nodup → P[i]? = some x → vs[i]? = some v → kindOf x ≠ some .local → bindC kindOf (P.zip vs) m x = some v
  | [], _, _, _, _, h, _, _ => by simp at h
  | _ :: _, [], _, _, _, _, h, _ => by simp at h
  | p :: P, w :: vs, 0, m, nd, h1, h2, hk => by
    simp at h1 h2; subst h1; subst h2
    show bindC kindOf ((p, w) :: P.zip vs) m p = _
    unfold bindC
    rw [bindC_out fun v hv => (List.nodup_cons.mp nd).1 (List.of_mem_zip hv).1, if_neg hk]
    simp
  | p :: P, w :: vs, i + 1, m, nd, h1, h2, hk => by
    show bindC kindOf ((p, w) :: P.zip vs) m x = _
    unfold bindC
    exact bindC_get (i := i) (List.nodup_cons.mp nd).2 (by simpa using h1) (by simpa using h2) hk
def start (N : List Str) (vs : List V) : St := vs.map some ++ List.replicate (N.length - vs.length) none
def cxOf (CX : CXT) (P : Program) (w : World) (K : PySem.W.Frag) (mg : Str → Option Value) (base : Heap) (N : List Str) (qual : Str) (scope : Scope) (f : Addr) (cd : Value) (A : Around) (outer : List Env) (s : Shared) (H : Hp) (E : XK) : Cx where
  prog := P
  w := w
  K := K
  mg := mg
  base := base
  A := A.deeper (envOfC qual scope s.heap.objs.size f cd)
  N := N
  s₀ := s
  H₀ := H
  env := envOfC qual scope s.heap.objs.size f cd
  outer := outer
  stack := envOfC qual scope s.heap.objs.size f cd :: outer
  ex := []
  calm := true
  fn := fun _ => true
  pn := []
  xe := fun e s' => wpAny (model P w) (A.deeper (envOfC qual scope s.heap.objs.size f cd)) (leaving (envOfC qual scope s.heap.objs.size f cd) e) (fun _ s'' => CX outer H s E e s'') (fun e' s'' => CX outer H s E e' s'') s'
theorem cell_has {sc : Scope} {n : Nat} {x : Str} (h : sc.names.lookup x = some .cell) : ∃ c, (cellsFrom n sc.names []).lookup x = some c := by
  have q := PySem.W.cellsFrom_some sc.names n [] (.inl h)
  exact Option.isSome_iff_exists.mp q
theorem inv_start {CX : CXT} {P : Program} {w : World} {K : PySem.W.Frag} {mg : Str → Option Value} {base : Heap} {N ps : List Str} {qual : Str} {scope : Scope} {f : Addr} {cd : Value} {A : Around} {outer : List Env} {s s1 : Shared} {H : Hp} {E : XK} {us : List Value} {vs : List V}
    (S : FnScope N ps scope) (hd : A.handled = none) (e0 : Env0 P w K mg base A outer s H) (hl : vs.length = ps.length) (r : Vals vs us)
    (x : InCallC s s.heap.objs.size (bindL (envOfC qual scope s.heap.objs.size f cd).kindOf (ps.zip us) fun _ => none) (cellsFrom (s.heap.objs.size + 1) scope.names []) (bindC (envOfC qual scope s.heap.objs.size f cd).kindOf (ps.zip us) fun _ => none) s1) :
    Inv (cxOf CX P w K mg base N qual scope f cd A outer s H E) [] (start N vs) H s1 := by
  have hpl : ps.length ≤ N.length := by have := congrArg List.length S.pre; rw [List.length_take] at this; omega
  obtain ⟨h1, tk, rfl, hk⟩ := x.done
  have noA : ∀ b : Addr, b ∉ (cxOf CX P w K mg base N qual scope f cd A outer s H E).ex := fun b z => absurd (show b ∈ ([] : List Addr) from z) (by simp)
  refine ⟨⟨e0.mod, S.kind, rfl, rfl, Nat.le_refl _, fun y z c h1 h2 => ?_, fun y hy => ?_, fun y c _ h => ?_, fun _ => hd, Around.frames_deeper e0.frames, .inr ⟨rfl, rfl⟩, fun b z => absurd z (noA b), e0.bs, e0.bsz, fun b _ _ => noA b, fun b z => absurd z (noA b), e0.funs, e0.frf⟩, rfl, e0.bare, Un.kept hk, ⟨_, x.toInCall.ns, fun i y v h1 h2 h3 => ?_⟩, fun y c h => ⟨_, x.cell y c h⟩, e0.hok.fresh (Nat.le_refl _), fun y c h => ?_, fun p hp => absurd (show p ∈ ([] : List (Addr × Obj)) from hp) (by simp), e0.hok.kept hk, ?_⟩
  · exact name_of_addr x.apart (PySem.mem_of_lookup h1) (PySem.mem_of_lookup h2)
  · have hy : scope.names.lookup y = some .cell ∨ scope.names.lookup y = some .free := hy
    rcases hy with hy | hy
    · exact cell_has hy
    · exact absurd rfl (S.nofree _ (PySem.mem_of_lookup hy))
  · exact Nat.le_of_lt (x.above y c (PySem.mem_of_lookup h))
  · have hi : i < vs.length := by
      unfold start at h2
      by_cases hi : i < vs.length
      · exact hi
      · rw [List.getElem?_append_right (by simpa using hi)] at h2
        rw [List.getElem?_replicate] at h2
        split at h2 <;> cases h2
    have ha : vs[i]? = some v := by
      unfold start at h2
      rw [List.getElem?_append_left (by simpa using hi), List.getElem?_map] at h2
      cases e : vs[i]? with
      | none => rw [e] at h2; cases h2
      | some a => rw [e] at h2; cases h2; rfl
    obtain ⟨u, hu, rv⟩ := r.get ha
    have hp : ps[i]? = some y := by
      rw [← S.pre, List.getElem?_take_of_lt (by omega)]; exact h1
    have ndP : ps.Nodup := by rw [← S.pre]; exact S.nd.sublist (List.take_sublist _ _)
    refine ⟨u, rv, ?_⟩
    rcases S.par y (List.mem_of_getElem? hp) with k | k
    · exact .inl ⟨k, bindL_get ndP hp hu k⟩
    · obtain ⟨c, e⟩ := cell_has (n := s.heap.objs.size + 1) k
      refine .inr ⟨.inl k, c, e, ?_⟩
      have q := x.cell y c e
      rw [bindC_get ndP hp hu (by show scope.names.lookup y ≠ _; rw [k]; decide)] at q
      exact q
  · exact e0.hok.fresh (Nat.le_of_lt (x.above y c (PySem.mem_of_lookup h)))
  · unfold start
    show _ = N.length
    rw [List.length_append, List.length_map, List.length_replicate]
    omega
theorem fn_of {CX : CXT} {P : Program} {w : World} {K : PySem.W.Frag} {mg : Str → Option Value} {base : Heap} {k : Nat} {f : Addr} {name qual : Str} {params : Arguments} {body : List Stmt} {scope : Scope} {dV kV doc pm cdv ct oc : Value} {an od : Option Addr}
    {osl : Array (Option Value)} {N ps : List Str} {sp : Sp} (lk : K.lookup f = some ⟨oc, od, .func (PySem.W.fnOf name qual params body scope dV kV doc pm an cdv ct), osl⟩) (hcd : PySem.W.codeIn K cdv qual = true) (S : FnScope N ps scope)
    (len : ∀ vs H Q E, sp vs H Q E → vs.length = ps.length)
    (hbody : ∀ (A : Around) (outer : List Env) (s : Shared) (H : Hp) (vs : List V) (Q : VK) (E : XK), Room k (A.deeper (envOfC qual scope s.heap.objs.size f cdv)) → sp vs H Q E → ∃ t, PSs (cxOf CX P w K mg base N qual scope f cdv A outer s H E) body t ∧ t { nx := fun _ H' => Q .non H', rt := Q } (start N vs) H) :
    FnOk P w K mg base CX (k + 1) f (PySem.W.fnOf name qual params body scope dV kV doc pm an cdv ct) ps sp := by
  refine ⟨len, fun A outer s H args us vs Q E hr e0 hb r hsp => ?_⟩
  have hl := len _ _ _ _ hsp
  have KX : K.In s.heap := e0.mod.kin.keeps fun b o e => (e0.bs b o e).1
  have lim : s.heap.NoLimit := e0.mod.nolimit.keeps fun b o e => (e0.bs b o e).1
  have hkind : ∀ y ∈ ps.zip us, scope.names.lookup y.1 = some .local ∨ (scope.names.lookup y.1 = some .cell ∧ ((cellsFrom (s.heap.objs.size + 1) scope.names []).lookup y.1).isSome = true) := fun ⟨n, v⟩ hy => by
    rcases S.par n (List.of_mem_zip hy).1 with q | q
    · exact .inl q
    · exact .inr ⟨q, PySem.W.cellsFrom_some _ _ _ (.inl q)⟩
  refine codeAny_call_function hr.depth (KX _ _ lk) rfl S.co S.gen rfl (PySem.W.codeRec_of KX hcd) (hb _ _ _ _ ?_)
  refine wpAny_newFunctionEnv_cells S.kind hkind fun env he s1 x => ?_
  subst he
  refine ⟨lim.keeps x.toInCall.keep, codeAny_func ?_⟩
  obtain ⟨t, ht, hq⟩ := hbody A outer s H vs Q E (hr.deeper _) hsp
  have I : Inv (cxOf CX P w K mg base N qual scope f cdv A outer s H E) [] (start N vs) H s1 := inv_start S hr.hd e0 hl r x
  refine wpAny_mono (ht [] s1 (start N vs) H _ I hq) (fun fl s' hs => ?_) fun e s' hs => hs
  have fin : ∀ {σ' : St} {H' : Hp} {v : V} {u : Value}, Inv (cxOf CX P w K mg base N qual scope f cdv A outer s H E) [] σ' H' s' → RelV v u → Q v H' → CE outer P w H s Q u s' :=
    fun {σ' H' v u} J rv q => ⟨v, H', J.os, J.bare, J.base, J.hok, rv, q⟩
  cases fl with
  | ret u =>
    obtain ⟨v, σ', H', J, rv, q⟩ := hs
    exact fin J rv q
  | next =>
    obtain ⟨σ', H', J, q⟩ := hs
    exact fin (v := V.non) (u := Value.none) J rfl q
  | brk =>
    obtain ⟨_, _, _, q⟩ := hs
    exact False.elim q
  | cont =>
    obtain ⟨_, _, _, q⟩ := hs
    exact False.elim q
end L2
namespace L2
open PySem PySem.Spec PyProof.Rows
section
variable {X : Cx} {x : Str} {p pos : Pos} {e : Expr} {es : List Expr} {t : TA} {id T : String} {r : List V → Hp → VK → Prop}
def tCB (r : List V → Hp → VK → Prop) (t : TA) : TE := fun σ H Q => t σ H fun vs H1 => r vs H1 Q
theorem qX (hc : CallR X (.builtin id) r) (hg : Gl X x) (hm : X.mg x = none) (hv : bootBuiltins x = some (.builtin id)) (ha : PA X (e :: es) t) (hn : x ≠ "__name__" := by decide) (hdb : (x == ("__debug__" : Str)) = false := by decide)
    (he : starEach (e :: es) X.env = (false, eval e X.env) :: starEach es X.env := by rfl) (hpl : (backTo pos (starEach es X.env)).any (·.1) = false := by rfl) : PE X (.Call (.Name x p) (e :: es) [] pos) (tCB r t) := by
  intro pins s σ H Q I h
  refine wpAny_Call_Name_kw (ld_blt I hg hm hv ?_ hn hdb)
  exact PyProof.Rows.callWith_builtin1 (thn (ha pos pins s σ H _ I h) fun us s1 ⟨vs, H1, I1, r1, q1⟩ => hc pins s1 σ H1 vs us Q I1 r1 q1) he hpl
theorem y8 (hc : CallR X (.type T) r) (hg : Gl X x) (hm : X.mg x = none) (hv : bootBuiltins x = some (.type T)) (ha : PA X (e :: es) t) (hn : x ≠ "__name__" := by decide) (hdb : (x == ("__debug__" : Str)) = false := by decide)
    (he : starEach (e :: es) X.env = (false, eval e X.env) :: starEach es X.env := by rfl) (hpl : (backTo pos (starEach es X.env)).any (·.1) = false := by rfl) : PE X (.Call (.Name x p) (e :: es) [] pos) (tCB r t) := by
  intro pins s σ H Q I h
  refine wpAny_Call_Name_kw (ld_blt I hg hm hv ?_ hn hdb)
  exact PyProof.Rows.callWith_type1 (thn (ha pos pins s σ H _ I h) fun us s1 ⟨vs, H1, I1, r1, q1⟩ => hc pins s1 σ H1 vs us Q I1 r1 q1) he hpl
end
end L2
namespace HT
open PySem PyProof.Rows
section
open PySem.SeqAt
open PySem.AutoSeq1 (wpAny_loadPart')
open PySem.MeetsSeq PySem.MeetsSeq2 PySem.MeetsSeq3
end
section
variable {prog : Program} {w : World} {A : Around} {E : Value → Shared → Prop} {s : Shared}
def sIx (n d : Nat) : Option Int → Nat
  | none => d
  | some v => if v < 0 then (v + (n : Int)).toNat else min v.toNat n
theorem sIx_none (n d : Nat) : sIx n d none = d := rfl
theorem sIx_nat (n d k : Nat) : sIx n d (some (k : Int)) = min k n := by
  show (if (k : Int) < 0 then ((k : Int) + (n : Int)).toNat else min (k : Int).toNat n) = min k n
  rw [if_neg (by omega), Int.toNat_natCast]
end
end HT
namespace L2
open PySem PySem.Spec PyProof.Rows
abbrev TO := St → Hp → (Option Int → Hp → Prop) → Prop
def PO (X : Cx) (e : Option Expr) (t : TO) : Prop :=
  ∀ (pins : List (Addr × Obj)) (s : Shared) (σ : St) (H : Hp) (Q : Option Int → Hp → Prop), Inv X pins σ H s → t σ H Q → wpAny (model X.prog X.w) X.A (evalPart e X.env) (fun u s' => ∃ o H', Inv X pins σ H' s' ∧ IsPart u o ∧ Q o H') X.xe s
def tNoPart : TO := fun _ H Q => Q none H
def tPart (t : TE) : TO := fun σ H Q => t σ H fun x H1 => ∃ i, x = .int i ∧ Q (some i) H1
section
variable {X : Cx} {e : Expr} {te : TE} {lo hi : Option Expr} {tl th : TO} {pos p2 : Pos}
theorem jV : PO X none tNoPart := by
  intro pins s σ H Q I h
  rw [evalPart_none]
  exact wpAny_pure ⟨none, H, I, .none, h⟩
theorem yw (h : PE X e te) : PO X (some e) (tPart te) := by
  intro pins s σ H Q I hw
  rw [evalPart_some]
  refine thn (h pins s σ H _ I hw) fun u s1 ⟨x, H1, I1, r1, q1⟩ => ?_
  obtain ⟨i, rfl, q⟩ := q1
  obtain ⟨t, rfl⟩ := r1
  exact ⟨some i, H1, I1, .int i t, q⟩
def SlR (X : Cx) (r : V → Option Int → Option Int → Hp → VK → Prop) : Prop :=
  ∀ (pins : List (Addr × Obj)) (s : Shared) (σ : St) (H : Hp) (x : V) (v vl vu : Value) (lo hi : Option Int) (sl : Addr) (Q : VK), Inv X pins σ H s → RelV x v → s.heap.IsSliceOf sl vl vu .none → IsPart vl lo → IsPart vu hi → r x lo hi H Q → ∃ T id, typeLookup (.type T) "__getitem__" = pure (some (.builtin id)) ∧ s.TypeIs v T ∧ wpAny (model X.prog X.w) X.A (getItem v (.ref sl)) (EP X pins σ Q) X.xe s
def tSl (r : V → Option Int → Option Int → Hp → VK → Prop) (te : TE) (tl th : TO) : TE := fun σ H Q => te σ H fun x H1 => tl σ H1 fun l H2 => th σ H2 fun u H3 => r x l u H3 Q
theorem yj {r : V → Option Int → Option Int → Hp → VK → Prop} (hr : SlR X r) (he : PE X e te) (hl : PO X lo tl) (hu : PO X hi th) : PE X (.Subscript e (.Slice lo hi none p2) pos) (tSl r te tl th) := by
  intro pins s σ H Q I h
  refine Subscript_ (thn (he pins s σ H _ I h) fun v s1 ⟨x, H1, I1, r1, q1⟩ => ?_)
  refine wpAny_Slice (thn (hl pins s1 σ H1 _ I1 q1) fun vl s2 ⟨l, H2, I2, pl, q2⟩ => thn (hu pins s2 σ H2 _ I2 q2) fun vu s3 ⟨u, H3, I3, pu, q3⟩ => ?_)
  rw [evalPart_none]
  refine wpAny_pure ?_
  have I4 : Inv X pins σ H3 { s3 with heap := s3.heap.push { cls := .type "slice", data := .fields #[vl, vu, .none] } } := I3.kept (t' := s3.toks) fun b ob q => Heap.get?_push_of_some _ q
  obtain ⟨T, id, hT, ht, hg⟩ := hr pins { s3 with heap := s3.heap.push { cls := .type "slice", data := .fields #[vl, vu, .none] } } σ H3 x v vl vu l u s3.heap.objs.size Q I4 r1 (Heap.IsSliceOf.new ..) pl pu q3
  show wpAny (model X.prog X.w) X.A (subscriptTail e (.Slice lo hi none p2) v (.ref s3.heap.objs.size)) (EP X pins σ Q) X.xe { s3 with heap := s3.heap.push { cls := .type "slice", data := .fields #[vl, vu, .none] } }
  exact tail_any (ops := [.ref s3.heap.objs.size, v]) ht hT hg (by with_unfolding_all rfl)
def cutV (xs : List V) (lo hi : Option Int) : List V := (xs.drop (HT.sIx xs.length 0 lo)).take (HT.sIx xs.length xs.length hi - HT.sIx xs.length 0 lo)
theorem cutV_length (xs : List V) (lo hi : Option Int) : (cutV xs lo hi).length ≤ xs.length := by
  unfold cutV
  rw [List.length_take, List.length_drop]
  omega
end
end L2
namespace L2
open PySem PySem.Spec PyProof.Rows
def ixN (n : Nat) (i : Int) : Option Nat := if 0 ≤ i then (if i < n then some i.toNat else none) else if -(n : Int) ≤ i then some (i + n).toNat else none
def atI {α : Type} (xs : List α) (i : Int) : Option α := (ixN xs.length i).bind fun j => xs[j]?
theorem ixN_seq {n : Nat} {i : Int} {j : Nat} (h : ixN n i = some j) : seqIndex? i n = some j ∧ j < n ∧ -(n : Int) ≤ i ∧ i < n := by
  unfold ixN at h
  by_cases h0 : 0 ≤ i
  · rw [if_pos h0] at h
    by_cases h1 : i < n
    · rw [if_pos h1] at h
      have e : i.toNat = j := Option.some.inj h
      exact ⟨by rw [seqIndex_of h0 h1, e], by omega, by omega, h1⟩
    · rw [if_neg h1] at h; cases h
  · rw [if_neg h0] at h
    by_cases h1 : -(n : Int) ≤ i
    · rw [if_pos h1] at h
      have e : (i + n).toNat = j := Option.some.inj h
      exact ⟨by rw [seqIndex_neg (by omega) h1, e], by omega, h1, by omega⟩
    · rw [if_neg h1] at h; cases h
theorem atI_get {α : Type} {xs : List α} {i : Int} {v : α} (h : atI xs i = some v) : ∃ j, seqIndex? i xs.length = some j ∧ xs[j]? = some v ∧ j < xs.length ∧ -(xs.length : Int) ≤ i ∧ i < xs.length := by
  unfold atI at h
  cases e : ixN xs.length i with
  | none => rw [e] at h; cases h
  | some j =>
    rw [e] at h
    obtain ⟨h1, h2, h3, h4⟩ := ixN_seq e
    exact ⟨j, h1, h, h2, h3, h4⟩
def PlainIx (b : Expr) : Prop := ∀ o i, subscripted b false o i = operate [o, i] (getItem o i)
def IxR (X : Cx) (r : R2) : Prop :=
  ∀ (value slice : Expr) (pins : List (Addr × Obj)) (s : Shared) (σ : St) (H : Hp) (x y : V) (v u : Value) (Q : VK), Inv X pins σ H s → RelV x v → RelV y u → r x y H Q → subscripted slice false v u = operate [v, u] (getItem v u) → wpAny (model X.prog X.w) X.A (subscriptTail value slice v u) (EP X pins σ Q) X.xe s
def MtR (X : Cx) (id : String) (r : V → List V → Hp → VK → Prop) : Prop :=
  ∀ (pins : List (Addr × Obj)) (s : Shared) (σ : St) (H : Hp) (x : V) (xs : List V) (v : Value) (us : List Value) (Q : VK), Inv X pins σ H s → RelV x v → Vals xs us → r x xs H Q → wpAny (model X.prog X.w) X.A (call (.builtin id) (v :: us)) (EP X pins σ Q) X.xe s
section
variable {X : Cx} {a b : Expr} {ta tb : TE} {pos : Pos}
theorem pe_ix {r : R2} (hr : IxR X r) (ha : PE X a ta) (hb : PE X b tb) (hs : PlainIx b) : PE X (.Subscript a b pos) (tOp r ta tb) := by
  intro pins s σ H Q I h
  exact Subscript_ (binT ha hb I h fun v u s2 x y H2 I2 rx ry q => hr a b pins s2 σ H2 x y v u Q I2 rx ry q (hs _ _))
def rIxL (K : PySem.W.Frag) : R2 := fun x y H Q => ∃ p xs i v, x = .ref p ∧ y = .int i ∧ SqL K H p xs ∧ atI xs i = some v ∧ Q v H
def rIxT (K : PySem.W.Frag) : R2 := fun x y H Q => ∃ p xs i v, x = .ref p ∧ y = .int i ∧ SqT K H p xs ∧ atI xs i = some v ∧ Q v H
def rIxS : R2 := fun x y H Q => ∃ z i c, x = .str z ∧ y = .int i ∧ z.length ≤ sizeLine ∧ atI z.cps.toList i = some c ∧ Q (.str ⟨#[c]⟩) H
theorem zV : IxR X (rIxL X.K) := by
  intro value slice pins s σ H x y v u Q I rx ry h hs
  obtain ⟨p, xs, i, z, rfl, rfl, hq, he, q⟩ := h
  cases rx
  obtain ⟨t, rfl⟩ := ry
  obtain ⟨its, r, pl, hz⟩ := I.list hq
  obtain ⟨j, h1, h2, h3, h4, h5⟩ := atI_get he
  obtain ⟨w, ew, rw'⟩ := r.get h2
  have hl := r.length
  have hn := line63
  have fin : EP X pins σ Q w s := ⟨z, H, I, rw', q⟩
  by_cases h0 : 0 ≤ i
  · have hj : i.toNat = j := by
      rw [seqIndex_of h0 h5] at h1
      exact Option.some.inj h1
    exact item_listR pl.isList h0 (by omega) (by rw [hj]; simpa using ew) fin hs
  · have hj : (i + (its.toArray.size : Int)).toNat = j := by
      rw [seqIndex_neg (by omega) h4] at h1
      rw [List.size_toArray, ← hl]
      exact Option.some.inj h1
    exact subscriptTail_builtinR (x := w) pl.isList.typeIs slot_list_getitem.lookup
      (wpAny_getItem_list_neg (Q := fun r s' => r = w ∧ EP X pins σ Q r s') pl.isList (by omega) (by rw [List.size_toArray] <;> omega) (by omega) (by rw [hj]; simpa using ew) ⟨rfl, fin⟩) hs
theorem yz : IxR X (rIxT X.K) := by
  intro value slice pins s σ H x y v u Q I rx ry h hs
  obtain ⟨p, xs, i, z, rfl, rfl, hq, he, q⟩ := h
  cases rx
  obtain ⟨t, rfl⟩ := ry
  obtain ⟨its, r, pl, hz⟩ := I.tuple hq
  obtain ⟨j, h1, h2, h3, h4, h5⟩ := atI_get he
  obtain ⟨w, ew, rw'⟩ := r.get h2
  have hl := r.length
  have hn := line63
  have fin : EP X pins σ Q w s := ⟨z, H, I, rw', q⟩
  exact subscriptTail_builtinR (x := w) pl.typeIs slot_tuple_getitem.lookup
    (getItem_tuple (j := j) (Q := fun r s' => r = w ∧ EP X pins σ Q r s') pl (by omega) (by omega) (by rw [List.size_toArray, ← hl]; exact h1) (by simpa using ew) ⟨rfl, fin⟩) hs
theorem ix_str : IxR X rIxS := by
  intro value slice pins s σ H x y v u Q I rx ry h hs
  obtain ⟨z, i, c, rfl, rfl, hz, he, q⟩ := h
  obtain ⟨t, rfl⟩ := rx
  obtain ⟨t', rfl⟩ := ry
  obtain ⟨j, h1, h2, h3, h4, h5⟩ := atI_get he
  have hl : z.cps.toList.length = z.length := by simp [Str.length]
  rw [hl] at h1 h4 h5
  have hn := line63
  exact tail_any (typeIs_str s z t) slot_str_getitem.lookup (getItem_str (c := c) (by
    have e1 : decide (i < -(2 ^ 63 : Int)) = false := decide_eq_false (by omega)
    have e2 : decide (i ≥ 2 ^ 63) = false := decide_eq_false (by omega)
    rw [e1, e2, Bool.or_false]) (by rw [h1]; simpa using h2) ⟨.str ⟨#[c]⟩, H, I.tok _, ⟨_, rfl⟩, q⟩) hs
theorem mapSeq_set (its : List Value) (n j : Nat) (u : Value) : Obj.mapSeq (·.setIfInBounds j u) { cls := .type "list", data := .seq its.toArray n } = { cls := .type "list", data := .seq (its.set j u).toArray n } := by
  simp [Obj.mapSeq]
theorem Inv.lst {pins : List (Addr × Obj)} {σ : St} {H : Hp} {s : Shared} {p : Addr} {xs : List V} (I : Inv X pins σ H s) (h : H p = some (.lst xs)) :
    ∃ (its : List Value) (n : Nat), Vals xs its ∧ s.heap.get? p = some { cls := .type "list", data := .seq its.toArray n } ∧ xs.length ≤ sizeLine := by
  obtain ⟨z, its, n, r, e⟩ := I.hok p _ h
  exact ⟨its, n, r, e, z⟩
theorem Inv.lstUpd {pins : List (Addr × Obj)} {σ : St} {H : Hp} {s : Shared} {p : Addr} {xs ys : List V} {its its' : List Value} {n n' : Nat} {f : Obj → Obj} (I : Inv X pins σ H s) (h : H p = some (.lst xs))
    (ho : s.heap.get? p = some { cls := .type "list", data := .seq its.toArray n }) (hf : f { cls := .type "list", data := .seq its.toArray n } = { cls := .type "list", data := .seq its'.toArray n' }) (r : Vals ys its') (hz : ys.length ≤ sizeLine) (t : Nat) :
    Inv X pins σ (upd H p (.lst ys)) { s with heap := s.heap.update p f, toks := t } := by
  have e : (s.heap.update p f).get? p = some { cls := .type "list", data := .seq its'.toArray n' } := by
    rw [Heap.get?_update_self f ho (by rw [hf] <;> rfl), hf]
  refine I.write (x := p) (e := p) (by rw [h]; trivial) (.inl rfl) (fun b u hb q => (Heap.get?_update_other _ _ (Ne.symm hb)).trans q) ⟨_, e⟩ ?_
  exact ⟨hz, its', n', r, e⟩
def rSetL : V → V → V → Hp → (Hp → Prop) → Prop := fun o i v H Q => ∃ p xs k j, o = .ref p ∧ i = .int k ∧ H p = some (.lst xs) ∧ ixN xs.length k = some j ∧ Q (upd H p (.lst (xs.set j v)))
theorem set_list : PSet X rSetL := by
  intro pins s σ H o i v ov iv u Q I ro ri rv h
  obtain ⟨p, xs, k, j, rfl, rfl, hp, hj, q⟩ := h
  cases ro
  obtain ⟨t, rfl⟩ := ri
  obtain ⟨its, n, r, ho, hz⟩ := I.lst hp
  obtain ⟨h1, h2, h3, h4⟩ := ixN_seq hj
  have hl := r.length
  have hn := line63
  have I' : Inv X pins σ (upd H p (.lst (xs.set j v))) { s with heap := s.heap.update p (Obj.mapSeq (·.setIfInBounds j u)) } :=
    I.lstUpd hp ho (mapSeq_set its n j u) (r.set rv j) (by rw [List.length_set]; exact hz) s.toks
  by_cases h0 : 0 ≤ k
  · have hk : k.toNat = j := by
      rw [seqIndex_of h0 h4] at h1
      exact Option.some.inj h1
    exact PySem.W.ki_setAt ho h0 (by omega) (by rw [List.size_toArray, ← hl]; exact h4) (by rw [hk]; exact ⟨_, I', q⟩)
  · have hk : (k + (its.toArray.size : Int)).toNat = j := by
      rw [seqIndex_neg (by omega) h3] at h1
      rw [List.size_toArray, ← hl]
      exact Option.some.inj h1
    exact PySem.W.ki_setBack ho (by omega) (by rw [List.size_toArray, ← hl]; exact h3) (by omega) (by rw [hk]; exact ⟨_, I', q⟩)
theorem Yx (lo hi : Option Int) (n : Nat) : (sliceBounds lo hi none n).1 = ((HT.sIx n 0 lo : Nat) : Int) ∧ (sliceBounds lo hi none n).2.1 = ((HT.sIx n n hi : Nat) : Int) ∧ (sliceBounds lo hi none n).2.2 = 1 := by
  refine ⟨?_, ?_, rfl⟩
  · cases lo with
    | none => simp [sliceBounds, HT.sIx]
    | some i =>
      simp only [sliceBounds, HT.sIx, Option.getD_none, show (1 : Int) > 0 by decide, if_true]
      by_cases h : i < 0
      · simp only [h, if_true] <;> omega
      · simp only [h, if_false] <;> omega
  · cases hi with
    | none => simp [sliceBounds, HT.sIx]
    | some i =>
      simp only [sliceBounds, HT.sIx, Option.getD_none, show (1 : Int) > 0 by decide, if_true]
      by_cases h : i < 0
      · simp only [h, if_true] <;> omega
      · simp only [h, if_false] <;> omega
theorem slicePick_cut (its : List Value) (lo hi : Option Int) : slicePick its.toArray lo hi none = ((its.drop (HT.sIx its.length 0 lo)).take (HT.sIx its.length its.length hi - HT.sIx its.length 0 lo)).toArray := by
  obtain ⟨h1, h2, h3⟩ := Yx lo hi its.toArray.size
  unfold slicePick
  rw [h1, h2, h3]
  simp only [sliceRange_one, pick_run, List.size_toArray] <;> rfl
def rSlL (K : PySem.W.Frag) : V → Option Int → Option Int → Hp → VK → Prop := fun x lo hi H Q => ∃ a xs, x = .ref a ∧ SqL K H a xs ∧ ∀ p, H p = none → Q (.ref p) (upd H p (.lst (cutV xs lo hi)))
theorem jZ : SlR X (rSlL X.K) := by
  intro pins s σ H x v vl vu lo hi sl Q I rx hs pl pu h
  obtain ⟨a, xs, rfl, hx, q⟩ := h
  cases rx
  obtain ⟨its, r, ht, hz⟩ := I.list hx
  have hlen := r.length
  refine ⟨"list", _, slot_list_getitem.lookup, ht.isList.typeIs, ?_⟩
  refine wpAny_getItem_list_slice ht.isList hs pl pu .none (by simp) ?_ (by rw [List.size_toArray] <;> omega)
  rw [slicePick_cut, ← hlen]
  refine ⟨.ref s.heap.objs.size, _, I.laid (t' := s.toks) (o := .lst (cutV xs lo hi)) (fun b ob q => Heap.get?_push_of_some _ q) (Nat.le_refl _) ?_, rfl, q _ (I.hok.fresh (Nat.le_refl _))⟩
  exact ⟨Nat.le_trans (cutV_length xs lo hi) hz, _, 0, (r.drop (HT.sIx xs.length 0 lo)).take (HT.sIx xs.length xs.length hi - HT.sIx xs.length 0 lo), Heap.get?_push_size _ rfl⟩
def flatV : V → Bool
  | .non => true
  | .bl _ => true
  | .int _ => true
  | .str _ => true
  | _ => false
def eqV : V → V → Bool
  | .non, .non => true
  | .bl a, .bl b => a == b
  | .bl a, .int b => (if a then 1 else 0) == b
  | .int a, .bl b => a == (if b then 1 else 0)
  | .int a, .int b => a == b
  | .str a, .str b => a == b
  | _, _ => false
theorem eqAt_V {A : Around} {s : Shared} {y x : V} {u v : Value} (ry : RelV y u) (rx : RelV x v) (fy : flatV y = true) (fx : flatV x = true) : SeqAt.EqAt A s u v (eqV y x) := by
  cases y with
  | non =>
    cases ry
    cases x with
    | non => cases rx; exact SeqAt.EqAt.same _
    | bl b => cases rx; exact SeqAt.EqAt.none_bool b
    | int b => obtain ⟨t, rfl⟩ := rx; exact SeqAt.EqAt.none_int b t
    | str b => obtain ⟨t, rfl⟩ := rx; exact SeqAt.EqAt.none_str b t
    | _ => exact absurd (show false = true from fx) Bool.false_ne_true
  | bl a =>
    cases ry
    cases x with
    | non => cases rx; exact SeqAt.EqAt.bool_none a
    | bl b => cases rx; exact SeqAt.EqAt.bool_bool a b
    | int b => obtain ⟨t, rfl⟩ := rx; exact SeqAt.EqAt.bool_int a b t
    | str b => obtain ⟨t, rfl⟩ := rx; exact SeqAt.EqAt.bool_str a b t
    | _ => exact absurd (show false = true from fx) Bool.false_ne_true
  | int a =>
    obtain ⟨t', rfl⟩ := ry
    cases x with
    | non => cases rx; exact SeqAt.EqAt.int_none a t'
    | bl b => cases rx; exact SeqAt.EqAt.int_bool a t' b
    | int b => obtain ⟨t, rfl⟩ := rx; exact SeqAt.EqAt.int_int a t' b t
    | str b => obtain ⟨t, rfl⟩ := rx; exact SeqAt.EqAt.int_str a t' b t
    | _ => exact absurd (show false = true from fx) Bool.false_ne_true
  | str a =>
    obtain ⟨t', rfl⟩ := ry
    cases x with
    | non => cases rx; exact SeqAt.EqAt.str_none a t'
    | bl b => cases rx; exact SeqAt.EqAt.str_bool a t' b
    | int b => obtain ⟨t, rfl⟩ := rx; exact SeqAt.EqAt.str_int a t' b t
    | str b => obtain ⟨t, rfl⟩ := rx; exact SeqAt.EqAt.str_str a t' b t
    | _ => exact absurd (show false = true from fx) Bool.false_ne_true
  | _ => exact absurd (show false = true from fy) Bool.false_ne_true
theorem op_notIn_str : OpR X (compareOp .NotIn) (fun x y H Q => ∃ i j, x = .str i ∧ y = .str j ∧ Q (.bl (!(!(Builtin.Str.occurrences j i 0 j.length 1).isEmpty))) H) := by
  intro pins s σ H x y v u Q I rx ry h
  obtain ⟨i, j, rfl, rfl, q⟩ := h
  obtain ⟨t, rfl⟩ := rx
  obtain ⟨t', rfl⟩ := ry
  exact notIn_str ⟨.bl _, H, I, rfl, q⟩
theorem zx : CallR X (.builtin "len") (fun xs H Q => ∃ p ys, xs = [.ref p] ∧ (SqL X.K H p ys ∨ SqT X.K H p ys) ∧ Q (.int ys.length) H) := by
  intro pins s σ H xs us Q I r h
  obtain ⟨p, ys, rfl, hq, q⟩ := h
  obtain ⟨u, rfl, rx⟩ := vals1 r
  cases rx
  have hn := line63
  rcases hq with hq | hq
  · obtain ⟨its, r', pl, hz⟩ := I.list hq
    have hlen := r'.length
    exact Calls.call_len_list pl.isList (by simp only [List.size_toArray] <;> omega) ⟨.int ys.length, H, I.tok _, ⟨s.toks + 1, by rw [List.size_toArray, hlen]⟩, q⟩
  · obtain ⟨its, r', pl, hz⟩ := I.tuple hq
    have hlen := r'.length
    exact len_tuple pl (by simp only [List.size_toArray] <;> omega) ⟨.int ys.length, H, I.tok _, ⟨s.toks + 1, by rw [List.size_toArray, hlen]⟩, q⟩
theorem YW : CallR X (.builtin "len") (fun xs H Q => ∃ z, xs = [.str z] ∧ z.length ≤ sizeLine ∧ Q (.int z.length) H) := by
  intro pins s σ H xs us Q I r h
  obtain ⟨z, rfl, hz, q⟩ := h
  obtain ⟨u, rfl, t, rfl⟩ := vals1 r
  have hn := line63
  exact len_str (by omega) ⟨.int z.length, H, I.tok _, ⟨_, rfl⟩, q⟩
theorem call_list_of : CallR X (.type "list") (fun xs H Q => ∃ p ys, xs = [.ref p] ∧ (SqL X.K H p ys ∨ SqT X.K H p ys) ∧ ∀ l, H l = none → Q (.ref l) (upd H l (.lst ys))) := by
  intro pins s σ H xs us Q I r h
  obtain ⟨p, ys, rfl, hq, q⟩ := h
  obtain ⟨u, rfl, rx⟩ := vals1 r
  cases rx
  have fin : ∀ (its : List Value), Vals ys its → ys.length ≤ sizeLine → ∀ (h' : Heap) (c' : Nat), (∀ b o', s.heap.get? b = some o' → h'.get? b = some o') → h'.get? s.heap.objs.size = some { cls := .type "list", dict := none, data := .seq its.toArray c', slots := #[] } → EP X pins σ Q (.ref s.heap.objs.size) { s with heap := h' } := fun its r' hz h' c' kp e =>
    ⟨.ref s.heap.objs.size, _, I.laid (t' := s.toks) kp (Nat.le_refl _) (show ObjOk X.prog X.w _ h' _ (.lst ys) from ⟨hz, its, c', r', e⟩), rfl, q _ (I.hok.fresh (Nat.le_refl _))⟩
  rcases hq with hq | hq
  · obtain ⟨its, r', pl, hz⟩ := I.list hq
    have hlen := r'.length
    obtain ⟨o, ho, hc, n, hd⟩ := pl.isList
    exact call_list_seq p (.inl rfl) ho hc hd (fun h' c' kp e => fin its r' hz h' c' kp e) (by simp only [List.size_toArray] <;> omega)
  · obtain ⟨its, r', pl, hz⟩ := I.tuple hq
    have hlen := r'.length
    obtain ⟨o, ho, hc, n, hd⟩ := pl
    exact call_list_seq p (.inr rfl) ho hc hd (fun h' c' kp e => fin its r' hz h' c' kp e) (by simp only [List.size_toArray] <;> omega)
theorem call_tuple_of : CallR X (.type "tuple") (fun xs H Q => ∃ p ys, xs = [.ref p] ∧ ((SqL X.K H p ys ∧ ∀ l, H l = none → Q (.ref l) (upd H l (.tup ys))) ∨ (SqT X.K H p ys ∧ Q (.ref p) H))) := by
  intro pins s σ H xs us Q I r h
  obtain ⟨p, ys, rfl, h⟩ := h
  obtain ⟨u, rfl, rx⟩ := vals1 r
  cases rx
  rcases h with ⟨hq, q⟩ | ⟨hq, q⟩
  · obtain ⟨its, r', pl, hz⟩ := I.list hq
    have hlen := r'.length
    refine call_tuple_list pl.isList (fun h' kp => ?_) (by simp only [List.size_toArray] <;> omega)
    have I1 : Inv X pins σ H { s with heap := h' } := I.kept (t' := s.toks) kp
    have I2 : Inv X pins σ (upd H h'.objs.size (.tup ys)) { s with heap := h'.push { cls := .type "tuple", data := .seq its.toArray } } :=
      I1.laid (t' := s.toks) (fun b o e => Heap.get?_push_of_some _ e) (Nat.le_refl _) (show ObjOk X.prog X.w _ _ _ (.tup ys) from ⟨hz, its, r', IsTup.new _ _⟩)
    exact ⟨.ref h'.objs.size, _, I2, rfl, q _ (I1.hok.fresh (Nat.le_refl _))⟩
  · obtain ⟨its, r', pl, hz⟩ := I.tuple hq
    exact call_tuple_same pl ⟨.ref p, H, I, rfl, q⟩
def tyV (K : PySem.W.Frag) (T : String) (x : V) (H : Hp) : Prop := match x with
  | .str _ => T = "str"
  | .int _ => T = "int"
  | .ref p => (T = "list" ∧ ∃ xs, SqL K H p xs) ∨ (T = "tuple" ∧ ∃ o, K.lookup p = some o ∧ o.cls = .type "tuple" ∧ o.dict = none) ∨
      (T = "dict" ∧ ((∃ kvs, H p = some (.dK kvs)) ∨ ∃ kvs, H p = some (.dT kvs))) ∨ (T = "set" ∧ ∃ S n, H p = some (.set S n))
  | _ => False
theorem tyV_is {pins : List (Addr × Obj)} {σ : St} {H : Hp} {s : Shared} {T : String} {x : V} {v : Value} (I : Inv X pins σ H s) (r : RelV x v) (ty : tyV X.K T x H) :
    s.TypeIs v T ∧ ∀ a, v = .ref a → ∃ ob, s.heap.get? a = some ob ∧ ob.dict = none := by
  cases x with
  | str z =>
    obtain ⟨t, rfl⟩ := r
    cases (show T = "str" from ty)
    exact ⟨typeIs_str s z t, fun _ e => nomatch e⟩
  | int i =>
    obtain ⟨t, rfl⟩ := r
    cases (show T = "int" from ty)
    exact ⟨typeIs_int s i t, fun _ e => nomatch e⟩
  | ref p =>
    cases r
    rcases ty with ⟨rfl, xs, hq⟩ | ⟨rfl, o, hk, hc, hd⟩ | ⟨rfl, hk⟩ | ⟨rfl, S, n, hk⟩
    · obtain ⟨its, _, pl, _⟩ := I.list hq
      refine ⟨pl.isList.typeIs, fun a e => ?_⟩
      cases e
      obtain ⟨o, n, e, c, hd, _⟩ := pl
      exact ⟨o, e, hd⟩
    · refine ⟨⟨o, I.kIn p o hk, hc⟩, fun a e => ?_⟩
      cases e
      exact ⟨o, I.kIn _ o hk, hd⟩
    · have z : ∃ o, s.heap.get? p = some o ∧ o.ExactDict := by
        rcases hk with ⟨kvs, hk⟩ | ⟨kvs, hk⟩
        · obtain ⟨_, _, _, _, o, _, _, e, ex, _⟩ := I.hok p _ hk
          exact ⟨o, e, ex⟩
        · obtain ⟨_, _, _, _, o, _, _, e, ex, _⟩ := I.hok p _ hk
          exact ⟨o, e, ex⟩
      obtain ⟨o, e, ex⟩ := z
      refine ⟨⟨o, e, ex.1⟩, fun a e2 => ?_⟩
      cases e2
      exact ⟨o, e, ex.2.1⟩
    · obtain ⟨o, _, _, _, e, ex, _⟩ := I.hok p _ hk
      refine ⟨⟨o, e, ex.1⟩, fun a e2 => ?_⟩
      cases e2
      exact ⟨o, e, ex.2.1⟩
  | _ => exact False.elim ty
def tBM (K : PySem.W.Frag) (T : String) (r : V → List V → Hp → VK → Prop) (to : TE) (t : TA) : TE := fun σ H Q => to σ H fun x H1 => tyV K T x H1 ∧ t σ H1 fun xs H2 => r x xs H2 Q
variable {o e : Expr} {es : List Expr} {to : TE} {t : TA} {name : Str} {apos cpos : Pos} {T id : String} {r : V → List V → Hp → VK → Prop}
theorem pe_bm (pa : PlainAttrs T) (slot : Slot T name id) (hty : typeOf (.builtin id) = pure (.type "method_descriptor")) (hm : MtR X id r) (ho : PE X o to) (ha : PA X (e :: es) t)
    (hbase : attributeBase o name X.env (eval o X.env) = eval o X.env := by rfl)
    (hfew : ((backTo cpos (starEach (e :: es) X.env)).all (fun x => !x.1) && (backToKw cpos (keywordEach [] X.env)).all (fun x => x.1.isSome)
      && decide ((e :: es).length + ([] : List Keyword).length + (if ([] : List Keyword).isEmpty then 0 else 1) < 30)) = true := by rfl)
    (hline : (apos.endLine == cpos.line) = true := by rfl) (hs : starEach (e :: es) X.env = (false, eval e X.env) :: starEach es X.env := by rfl) (hplain : (backTo cpos (starEach es X.env)).any (·.1) = false := by rfl) :
    PE X (.Call (.Attribute o name apos) (e :: es) [] cpos) (tBM X.K T r to t) := by
  intro pins s σ H Q I h
  refine wpAny_Call_method_late hbase hfew hline rfl (thn (ho pins s σ H _ I h) fun v s1 ⟨x, H1, I1, r1, ty, q1⟩ => ?_)
  obtain ⟨h1, h2⟩ := tyV_is I1 r1 ty
  refine ⟨T, id, pa, slot, hty, h1, h2, ?_⟩
  have hA := ha cpos pins s1 σ H1 _ I1 q1
  rw [hs] at hA ⊢
  refine Calls.callWith_builtin (by show (false || (backTo cpos (starEach es X.env)).any (·.1)) = false; rw [hplain] <;> rfl) (Calls.evalArgs_plain ?_)
  exact thn hA fun us s2 ⟨vs, H2, I2, r2, q2⟩ => hm pins s2 σ H2 x vs v us Q I2 r1 r2 q2
end
end L2
namespace L2
open PySem PySem.Spec PyProof.Rows
def MtM (X : Cx) (id : String) (r : V → List V → Hp → VK → Prop) : Prop :=
  ∀ (pins : List (Addr × Obj)) (s : Shared) (σ : St) (H : Hp) (x : V) (xs : List V) (v : Value) (us : List Value) (Q : VK), Inv X pins σ H s → RelV x v → Vals xs us → r x xs H Q → wpAny (model X.prog X.w) X.A (call (.builtin id) (v :: us)) (EP X pins σ Q) X.xe s
theorem Vals.one : ∀ {x : V} {us : List Value}, Vals [x] us → ∃ u, us = [u] ∧ RelV x u
  | _, _, .cons r .nil => ⟨_, rfl, r⟩
theorem Vals.eraseIdx : ∀ {xs : List V} {us : List Value} (i : Nat), Vals xs us → Vals (xs.eraseIdx i) (us.eraseIdx i)
  | _, _, _, .nil => .nil
  | _, _, 0, .cons _ t => t
  | _, _, i + 1, .cons r t => .cons r (Vals.eraseIdx i t)
theorem len_erase {α : Type} : ∀ (l : List α) (i : Nat), (l.eraseIdx i).length ≤ l.length
  | [], _ => Nat.le_refl _
  | _ :: _, 0 => Nat.le_succ _
  | _ :: r, i + 1 => Nat.succ_le_succ (len_erase r i)
section
variable {X : Cx} {pins : List (Addr × Obj)} {σ : St} {H : Hp} {s : Shared} {l b : Addr} {xs ys zs : List V}
theorem Inv.lset {its its' : List Value} {n : Nat} {f : Array Value → Array Value} {t' : Nat} (I : Inv X pins σ H s) (hH : H l = some (.lst xs))
    (e : s.heap.get? l = some { cls := .type "list", data := .seq its.toArray n }) (hf : f its.toArray = its'.toArray) (hv : Vals ys its') (hz : ys.length ≤ sizeLine) :
    Inv X pins σ (upd H l (.lst ys)) { s with heap := s.heap.update l (Obj.mapSeq f), toks := t' } := by
  have q := PySem.IsL.update e f
  rw [hf] at q
  refine I.write (x := l) (e := l) (by rw [hH]; exact trivial) (.inl rfl) (fun b' u hb hu => (Heap.get?_update_other s.heap (Obj.mapSeq f) (Ne.symm hb)).trans hu) ⟨_, q⟩ ?_
  exact ⟨hz, its', _, hv, q⟩
theorem Inv.lnew {its : List Value} {t' : Nat} (I : Inv X pins σ H s) (hv : Vals ys its) (hz : ys.length ≤ sizeLine) :
    Inv X pins σ (upd H s.heap.objs.size (.lst ys)) { s with heap := s.heap.push { cls := .type "list", data := .seq its.toArray }, toks := t' } :=
  I.laid (fun _ _ q => Heap.get?_push_of_some _ q) (Nat.le_refl _) ⟨hz, its, 0, hv, Heap.get?_push_size _ rfl⟩
theorem Inv.fresh (I : Inv X pins σ H s) : H s.heap.objs.size = none := I.hok.fresh (Nat.le_refl _)
theorem Inv.lstM (I : Inv X pins σ H s) (hH : H l = some (.lst xs)) : xs.length ≤ sizeLine ∧ ∃ (its : List Value) (n : Nat), Vals xs its ∧ xs.length = its.length ∧ s.heap.get? l = some { cls := .type "list", data := .seq its.toArray n } := by
  obtain ⟨z, its, n, r, e⟩ := I.hok l _ hH
  exact ⟨z, its, n, r, r.length, e⟩
end
section
variable {X : Cx}
def rAppend : V → List V → Hp → VK → Prop := fun x vs H Q => ∃ l xs y, x = .ref l ∧ vs = [y] ∧ H l = some (.lst xs) ∧ xs.length < sizeLine ∧ Q .non (upd H l (.lst (xs ++ [y])))
theorem xX : MtM X "list.append" rAppend := by
  intro pins s σ H x vs v us Q I rx rv h
  obtain ⟨l, xs, y, rfl, rfl, hH, hz, q⟩ := h
  cases rx
  obtain ⟨u, rfl, ru⟩ := rv.one
  obtain ⟨z, its, n, r, hl, e⟩ := I.lstM hH
  refine call_meets F.slot_list_append ⟨_, e, rfl⟩ F.entry_list_append (F.args_list_append_2 _ _) (PySem.list_append l its.toArray n u (by rw [List.size_toArray]; omega)) ⟨e, ?_⟩
  refine ⟨.non, _, I.lset (its' := its ++ [u]) hH e (by simp) (r.append (.cons ru .nil)) ?_, rfl, q⟩
  rw [List.length_append, List.length_singleton]
  omega
def rPopAt : V → List V → Hp → VK → Prop := fun x vs H Q => ∃ l xs i k y, x = .ref l ∧ vs = [.int i] ∧ H l = some (.lst xs) ∧ -(2 ^ 63) ≤ i ∧ i < 2 ^ 63 ∧ seqIndex? i xs.length = some k ∧ xs[k]? = some y ∧ Q y (upd H l (.lst (xs.eraseIdx k)))
theorem mt_popAt : MtM X "list.pop" rPopAt := by
  intro pins s σ H x vs v us Q I rx rv h
  obtain ⟨l, xs, i, k, y, rfl, rfl, hH, h1, h2, hk, hy, q⟩ := h
  cases rx
  obtain ⟨u, rfl, ru⟩ := rv.one
  obtain ⟨t, rfl⟩ := ru
  obtain ⟨z, its, n, r, hl, e⟩ := I.lstM hH
  obtain ⟨w, hw, rw'⟩ := r.get hy
  refine call_meets F.slot_list_pop ⟨_, e, rfl⟩ F.entry_list_pop (F.args_list_pop_2 _ _)
    (MeetsSeq.list_pop_at l its.toArray n i t k w (fitsIndex_both h1 h2) (by rw [List.size_toArray, ← hl]; exact hk) (by rw [← Array.getElem?_toList]; exact hw) (by rw [List.size_toArray]; omega)) ⟨e, ?_⟩
  refine ⟨y, _, I.lset (its' := its.eraseIdx k) hH e ?_ (r.eraseIdx k) ?_, rw', q⟩
  · show its.toArray.eraseIdxIfInBounds k = (its.eraseIdx k).toArray
    rw [List.eraseIdxIfInBounds_toArray]
  · have := len_erase xs k
    omega
def rCat : R2 := fun x y H Q => ∃ l b xs zs, x = .ref l ∧ y = .ref b ∧ H l = some (.lst xs) ∧ H b = some (.lst zs) ∧ xs.length + zs.length ≤ sizeLine ∧ ∀ p, H p = none → Q (.ref p) (upd H p (.lst (xs ++ zs)))
theorem x8 : OpR X (binaryOp .Add) rCat := by
  intro pins s σ H x y v u Q I rx ry h
  obtain ⟨l, b, xs, zs, rfl, rfl, hH, hB, hz, q⟩ := h
  cases rx
  cases ry
  obtain ⟨z, its, n, r, hl, e⟩ := I.lstM hH
  obtain ⟨z2, its2, n2, r2, hl2, e2⟩ := I.lstM hB
  refine PySem.P.add_list e e2 ?_ (by rw [List.size_toArray, List.size_toArray]; omega)
  have ea : its.toArray ++ its2.toArray = (its ++ its2).toArray := by simp
  rw [ea]
  exact ⟨.ref _, _, I.lnew (t' := s.toks) (r.append r2) (by rw [List.length_append]; omega), rfl, q _ I.fresh⟩
end
section
variable {prog : Program} {w : World} {A : Around} {E : Value → Shared → Prop} {s : Shared}
end
section
variable {X : Cx}
end
end L2
namespace Att
open PySem PySem.W PySem.Calls PyProof.Rows
theorem ints_of_wellAll {P : Params} {h : Heap} : ∀ (ns : List Int) (vs : List Value), WellAll P h vs (ns.map WData.int) → IntsAre vs ns := by
  intro ns
  induction ns with
  | nil =>
    intro vs w
    rw [List.map_nil] at w
    cases w
    exact .nil
  | cons n ns ih =>
    intro vs w
    rw [List.map_cons] at w
    cases w with
    | cons a b =>
      cases a
      exact .cons _ _ (ih _ b)
theorem script_of {l : OpenLaw} {n : Nat} (hn : l.most = some n) {P : Params} {h : Heap} {args : List WData} {vals : List Value}
    (hpre : l.row.toRowW.claim.pre args = true) (hwl : WellAll P h vals args) :
    ∃ a vs ns, vals = [Value.ref a] ∧ args = [WData.list (ns.map WData.int)] ∧ h.get? a = some { cls := .type "list", data := .seq vs.toArray } ∧ IntsAre vs ns ∧ ns.length ≤ n := by
  have hsh : WShape.hasAll [] args [.list .int] = true := (pre_splitW hpre).1
  have hc : l.pre.holds [] { args := args } = true := (pre_splitW hpre).2
  obtain ⟨d, r, rfl, h1, h2⟩ := hasAllW_cons hsh
  obtain rfl := hasAllW_nil h2
  obtain ⟨xs, rfl, h3⟩ := hasW_list h1
  obtain ⟨ns, rfl⟩ := items_int h3
  have hlen : ns.length ≤ n := by
    unfold OpenLaw.pre at hc
    have h4 : (WTm.not (.lt (.lit (.int (n : Int))) (.len (.arg 0)))).holds [] { args := [.list (ns.map .int)] } = true := by
      have h4 := (holds_andW hc).1
      rw [hn] at h4
      exact h4
    have h5 := condW_of h4 (w_not (w_lt w_lit (w_len_list (w_arg rfl))))
    rw [List.length_map] at h5
    refine Nat.le_of_not_lt fun q => ?_
    have q' : (n : Int) < ((ns.length : Nat) : Int) := by omega
    first
      | (rw [decide_eq_true q'] at h5; exact absurd h5 (by decide))
      | (simp at h5; omega)
  cases hwl with
  | cons w1 w2 =>
    cases w2
    cases w1 with
    | list ho hall => exact ⟨_, _, ns, rfl, rfl, ho, ints_of_wellAll ns _ hall, hlen⟩
theorem post_true (l : OpenLaw) (args : List WData) : l.row.toRowW.claim.post args (.bool true) args = true :=
  postW_of (r := l.row.toRowW) (X := (true == true))
    (show WShape.has [] (.bool true) .bool = true by first | rfl | decide | simp [WShape.has, WShape.arms, WShape.armsAll])
    (show (WTm.eq .res (.lit (.bool true))).value [] { args := args, res := some (.bool true), after := args } = some (.bool (true == true)) from w_eq_bool (w_res rfl) w_lit) rfl
theorem attach_call {l : OpenLaw} {n : Nat} {q : Program} {loose : List Str} {XP : (Str → Option Value) → Heap → Prop} {YP : World → Heap → Prop} {d : DefRec}
    (hn : l.most = some n) (hdf : d.params.defaults = [])
    (call : ∀ (w : World) (s₀ s₁ : Shared) (mg mb : Str → Option Value) (fa : Addr) (o : Obj) (pm cd doc : Value) (a : Addr) (vs : List Value) (ns : List Int), Ground q loose [] XP w s₀ mg mb s₁.heap → YP w s₁.heap → s₁.heap.get? fa = some o → o.data = .func (docDef d.name d.params d.body d.scope pm cd doc) → s₁.heap.CodeRec cd d.name → mg d.name = some (.ref fa) → s₁.heap.get? a = some { cls := .type "list", data := .seq vs.toArray } → IntsAre vs ns → ns.length ≤ n → s₁.gens = #[] → codeAny (model l.prog w) callerA (.call (.ref fa) ⟨[.ref a], []⟩) (fun r s' => r = .ok (.ret (.bool true)) ∧ OldK s₁.heap s'.heap ∧ s'.os = s₁.os ∧ AllBare s'.gens) s₁) :
    WalkO q loose XP YP l.row.toRowW d [] (fun f vs => PySem.call f vs) := by
  intro w s₀ s₁ mg mb G Y fa o pm cd doc dV kV ho hd hcd hD hmg hg args vals as hpre hlay hrd hwl hlo
  obtain rfl : dV = .none := Dflts.none hD hdf
  obtain rfl : kV = .none := Dflts.noKw hD
  obtain ⟨a, vs, ns, rfl, rfl, hobj, hints, hlen⟩ := script_of hn hpre hwl
  refine enter_call (codeAny_mono (call w s₀ s₁ mg mb fa o pm cd doc a vs ns G Y ho (fd_plain hd) hcd hmg hobj hints hlen hg) fun r s' hq => ?_)
  obtain ⟨rfl, h2, h3, h4⟩ := hq
  exact ⟨.inl ⟨.bool true, .bool true, [], rfl, fun _ => rfl, .bool true, post_true l _, fun _ => ⟨List.Pairwise.nil, fun _ hm => (nomatch hm)⟩⟩, h2, h3, h4⟩
section
variable {prog : Program} {w : World} {A : Around} {E : Value → Shared → Prop} {s : Shared} {K : Frag}
def ledger (h : Heap) (L d : Addr) : List (Addr × Obj) := (List.range h.objs.size).filterMap fun a => if a = L ∨ a = d then none else (h.get? a).map fun o => (a, o)
end
end Att
namespace L2
open PySem PySem.Spec PyProof.Rows
theorem vals_ints : ∀ {vs : List Value} {ns : List Int}, IntsAre vs ns → Vals (ns.map V.int) vs
  | _, _, .nil => .nil
  | _, _, .cons n t h => .cons ⟨t, rfl⟩ (vals_ints h)
def Only (H : Hp) : Prop := ∀ b, H b = none ∨ ∃ o xs, H b = some (.frz o (.lst xs))
theorem law_call {P : Program} {w : World} {K : PySem.W.Frag} {mg mb : Str → Option Value} {CX : CXT} {k : Nat} {fa a : Addr} {fd : FuncData} {x : Str} {sp : Sp} {s₁ : Shared} {vs : List Value} {ns : List Int}
    (KX : K.In s₁.heap) (hns : s₁.heap.Ns mainGlobals mg) (hb : s₁.heap.Ns builtinsNs mb) (hbb : ∀ x : Str, x ≠ "__name__" → mb x = bootBuiltins x) (hlim : s₁.heap.NoLimit) (hg : s₁.gens = #[])
    (ha : s₁.heap.get? a = some { cls := .type "list", data := .seq vs.toArray }) (hi : IntsAre vs ns) (hl : ns.length ≤ sizeLine) (hr : Room k callerA)
    (F : ∀ base : Heap, K.In base → base.Ns mainGlobals mg → FnOk P w K mg base CX k fa fd [x] sp) (hbind : ∀ (s : Shared) (u : Value), BindsTo s fd ⟨[u], []⟩ [(x, u)])
    (hsp : ∀ H : Hp, Only H → SqL K H a (ns.map V.int) → sp [.ref a] H (fun v _ => v = .bl true) fun _ _ _ => False)
    (hCX : ∀ H e s', CX [] H s₁ (fun _ _ _ => False) e s' → False) :
    codeAny (model P w) callerA (.call (.ref fa) ⟨[.ref a], []⟩) (fun r s' => r = .ok (.ret (.bool true)) ∧ OldK s₁.heap s'.heap ∧ s'.os = s₁.os ∧ AllBare s'.gens) s₁ := by
  have rv := vals_ints hi
  have lenV := hi.length
  have core : ∀ H : Hp, Only H → SqL K H a (ns.map V.int) → HOk P w H s₁.heap → (∀ b, H b ≠ none → b = a) → (H a ≠ none → K.lookup a = none) → codeAny (model P w) callerA (.call (.ref fa) ⟨[.ref a], []⟩) (fun r s' => r = .ok (.ret (.bool true)) ∧ OldK s₁.heap s'.heap ∧ s'.os = s₁.os ∧ AllBare s'.gens) s₁ := by
    intro H hO hS hok hA hK
    have base_of : ∀ {b : Addr} {o : Obj}, s₁.heap.get? b = some o → H b = none → (hidT s₁.heap H).get? b = some o := fun e n => hidT_get e n
    have noA : ∀ {b : Addr} {o : Obj} {es : Array DictEntry} {ep : Nat}, s₁.heap.get? b = some o → o.data = .dict es ep → H b = none := fun {b o es ep} e d => by
      cases q : H b with
      | none => rfl
      | some u =>
        have e' : b = a := hA b (by rw [q]; simp)
        subst e'
        rw [ha] at e; cases e
        have d' : Data.seq vs.toArray _ = Data.dict es ep := d
        cases d'
    have nsK : ∀ {b : Addr} {m : Str → Option Value}, s₁.heap.Ns b m → (hidT s₁.heap H).Ns b m := fun {b m} ⟨o, es, ep, e, d, r⟩ => ⟨o, es, ep, base_of e (noA e d), d, r⟩
    have hKb : K.In (hidT s₁.heap H) := fun b o e => base_of (KX b o e) (by
      cases q : H b with
      | none => rfl
      | some u =>
        have e' : b = a := hA b (by rw [q]; simp)
        subst e'
        rw [hK (by rw [q]; simp)] at e; cases e)
    have hM : Mod K mg (hidT s₁.heap H) := ⟨hKb, nsK hns, ⟨mb, nsK hb, hbb⟩, let ⟨mc, h1, h2⟩ := hlim; ⟨mc, nsK h1, h2⟩⟩
    have e0 : Env0 P w K mg (hidT s₁.heap H) callerA [] s₁ H := ⟨rfl, hM, fun b o e => of_hidT e, Nat.le_of_eq (hidT_size _ _), trivial, fun b hb => absurd (show b ∈ ([] : List Addr) from hb) (by simp), hok, .of_eq hg⟩
    refine codeAny_mono ((F _ hKb (nsK hns)).run callerA [] s₁ H ⟨[.ref a], []⟩ [.ref a] [.ref a] _ _ hr e0 (hbind s₁ (.ref a)) (.cons rfl .nil) (hsp H hO hS)) fun r s' h => ?_
    cases r with
    | error e => exact (hCX H e s' h).elim
    | ok fl =>
      cases fl with
      | next => exact False.elim h
      | brk => exact False.elim h
      | cont => exact False.elim h
      | ret u =>
        obtain ⟨v, H', os, bare, un, hok', r', q⟩ := h
        have q' : v = .bl true := q
        subst q'
        obtain rfl : u = Value.bool true := r'
        refine ⟨rfl, OldK.of_keep fun b o e => ?_, os, bare⟩
        cases q : H b with
        | none => exact un.keep b o e q (by intro z; exact absurd (show b ∈ ([] : List Addr) from z) (by simp)) (by simp)
        | some u =>
          rcases hO b with z | ⟨ob, xs, z⟩
          · rw [q] at z; cases z
          · have z2 := un.frzs b ob _ z
            obtain ⟨e1, _⟩ := hok b _ z
            obtain ⟨e2, _⟩ := hok' b _ z2
            rw [e] at e1; cases e1
            exact e2
  cases hk : K.lookup a with
  | some o =>
    have e := KX a o hk
    rw [ha] at e
    cases e
    refine core (fun _ => none) (fun _ => .inl rfl) (.inr ⟨_, vs.toArray, _, hk, rfl, rfl, rfl, by rw [List.size_toArray, lenV]; exact hl, by simpa using rv⟩) (fun b u z => by have z' : (none : Option HO) = some u := z; cases z') (fun b z => absurd rfl z) fun z => absurd rfl z
  | none =>
    refine core (fun b => if b = a then some (.frz { cls := .type "list", data := .seq vs.toArray } (.lst (ns.map V.int))) else none) (fun b => ?_) (.inl (.inr ⟨{ cls := .type "list", data := .seq vs.toArray }, if_pos rfl⟩)) (fun b u z => ?_) (fun b z => ?_) fun _ => hk
    · by_cases hb : b = a
      · exact .inr ⟨_, _, if_pos hb⟩
      · exact .inl (if_neg hb)
    · by_cases hb : b = a
      · have z' := (if_pos hb).symm.trans z
        cases z'
        subst hb
        exact ⟨ha, by rw [List.length_map]; exact hl, vs, _, rv, ha⟩
      · have z' := (if_neg hb).symm.trans z
        cases z'
    · by_cases hb : b = a
      · exact hb
      · exact absurd (if_neg hb) z
end L2
namespace L2
open PySem PySem.Spec PyProof.Rows
abbrev KOf {K : PySem.W.Frag} {h : Heap} (_ : K.In h) : PySem.W.Frag := K
theorem walk_of {l : PySem.W.OpenLaw} {n k : Nat} {q : Program} {loose : List Str} {XP : (Str → Option Value) → Heap → Prop} {YP : World → Heap → Prop} {d : DefRec} {K : Params → PySem.W.Frag} {CX : World → CXT} {sp : World → Sp} {x : Str}
    (hn : l.most = some n) (hn2 : n ≤ sizeLine) (hdf : d.params.defaults = []) (hr : Room k callerA)
    (hY : ∀ (w : World) (h : Heap), YP w h → (K w.params).In h)
    (F : ∀ (w : World) (mg : Str → Option Value) (fa : Addr) (h : Heap), (K w.params).In h → h.Ns mainGlobals mg → mg d.name = some (.ref fa) → ∃ fd : FuncData, (∀ (s : Shared) (u : Value), BindsTo s fd ⟨[u], []⟩ [(x, u)]) ∧ ∀ base : Heap, (K w.params).In base → base.Ns mainGlobals mg → FnOk l.prog w (K w.params) mg base (CX w) k fa fd [x] (sp w))
    (hsp : ∀ (w : World) (H : Hp) (a : Addr) (ns : List Int), ns.length ≤ n → Only H → SqL (K w.params) H a (ns.map V.int) → sp w [.ref a] H (fun v _ => v = .bl true) fun _ _ _ => False)
    (hCX : ∀ (w : World) (H : Hp) (s : Shared) (e : Value) (s' : Shared), CX w [] H s (fun _ _ _ => False) e s' → False) :
    PySem.W.WalkO q loose XP YP l.row.toRowW d [] (fun f vs => PySem.call f vs) := by
  refine Att.attach_call hn hdf fun w s₀ s₁ mg mb fa o pm cd doc a vs ns G Y ho hd hcd hmg hobj hints hlen hg => ?_
  have KX := hY w _ Y
  obtain ⟨fd, hb, hF⟩ := F w mg fa _ KX G.T.g hmg
  exact law_call KX G.T.g G.T.b G.T.builtins G.T.nolimit hg hobj hints (Nat.le_trans hlen hn2) hr hF hb (fun H hO hS => hsp w H a ns hlen hO hS) fun H e s' => hCX w H s₁ e s'
end L2
namespace L2
open PySem PySem.Spec PyProof.Rows
abbrev CX0 : CXT := fun _ _ _ _ _ _ => False
abbrev E0 : XK := fun _ _ _ => False
theorem pass0 {X : Cx} : Passes CX0 X E0 := fun _ _ _ _ _ _ _ h => h.elim
structure Fun (K : PySem.W.Frag) (x qual : Str) (st : Stmt) (f : Addr) (fd : FuncData) : Prop where
  ex : ∃ (oc : Value) (od : Option Addr) (kV doc pm : Value) (an : Option Addr) (cdv ct : Value) (osl : Array (Option Value)), fd = PySem.W.fnOf x qual (zQ st) (zz st) (qQ st) .none kV doc pm an cdv ct ∧ K.lookup f = some ⟨oc, od, .func fd, osl⟩ ∧ PySem.W.codeIn K cdv qual = true
  kp : PySem.W.keepIn K (.ref f) = true
section
variable {P : Program} {w : World} {K : PySem.W.Frag} {mg : Str → Option Value} {base : Heap}
theorem Fun.ok {x qual : Str} {st : Stmt} {f : Addr} {fd : FuncData} {N ps : List Str} {k : Nat} {sp : Sp} (F : Fun K x qual st f fd) (S : FnScope N ps (qQ st)) (len : ∀ vs H Q E, sp vs H Q E → vs.length = ps.length)
    (hbody : ∀ (cdv : Value) (A : Around) (outer : List Env) (s : Shared) (H : Hp) (vs : List V) (Q : VK) (E : XK), Room k (A.deeper (envOfC qual (qQ st) s.heap.objs.size f cdv)) → sp vs H Q E → ∃ t, PSs (cxOf CX0 P w K mg base N qual (qQ st) f cdv A outer s H E).nox (zz st) t ∧ t { nx := fun _ H' => Q .non H', rt := Q } (start N vs) H) : FnOk P w K mg base CX0 (k + 1) f fd ps sp := by
  obtain ⟨oc, od, kV, doc, pm, an, cdv, ct, osl, rfl, lk, hcd⟩ := F.ex
  refine fn_of lk hcd S len fun A outer s H vs Q E hr hsp => ?_
  obtain ⟨t, h, q⟩ := hbody cdv A outer s H vs Q E hr hsp
  exact ⟨t, h.nox, q⟩
theorem Fun.binds {x qual : Str} {st : Stmt} {f : Addr} {fd : FuncData} {ps : List Str} (F : Fun K x qual st f fd)
    (h : ∀ (kV doc pm : Value) (an : Option Addr) (cdv ct : Value) (us : List Value), us.length = ps.length → bindArgs (PySem.W.fnOf x qual (zQ st) (zz st) (qQ st) .none kV doc pm an cdv ct) ⟨us, []⟩ = pure (ps.zip us)) : Binds K fd ps [] := by
  obtain ⟨oc, od, kV, doc, pm, an, cdv, ct, osl, rfl, lk, hcd⟩ := F.ex
  exact .all (h kV doc pm an cdv ct)
theorem yq {x qual : Str} {st : Stmt} {f : Addr} {oc : Value} {od an : Option Addr} {osl : Array (Option Value)} {kV doc pm cdv ct : Value} (l : K.lookup f = some ⟨oc, od, .func (PySem.W.fnOf x qual (zQ st) (zz st) (qQ st) .none kV doc pm an cdv ct), osl⟩)
    (c : PySem.W.codeIn K cdv qual = true) (k : PySem.W.keepIn K (.ref f) = true) : Fun K x qual st f (PySem.W.fnOf x qual (zQ st) (zz st) (qQ st) .none kV doc pm an cdv ct) := ⟨⟨oc, od, kV, doc, pm, an, cdv, ct, osl, rfl, l, c⟩, k⟩
end
theorem hu_of {A : Around} {k : Nat} (hr : Room k A) : A.units + 1 < cLine := Nat.lt_of_le_of_lt (Nat.add_le_add_left (by decide : 1 ≤ 64) _) hr.units
theorem zW {n : Nat} (h : n ≤ 1000) : n < sizeLine := Nat.lt_of_le_of_lt h (by decide)
section
variable {X : Cx}
theorem pv (i : Nat) {x : Str} {pos : Pos} (hN : X.N[i]? = some x := by rfl) (hv : Vis X.env.scope x := by first | exact Or.inl rfl | exact Or.inr (Or.inl rfl) | exact Or.inr (Or.inr rfl)) (hd : (x == ("__debug__" : Str)) = false := by decide)
    (hcd : (x == ("__classdict__" : Str)) = false := by decide) : PE X (.Name x pos) (tVar i) := pe_var hN hv hd hcd
end
theorem iteF {A B : Prop} (h : B) : if false = true then A else B := by
  rw [if_neg Bool.false_ne_true]
  exact h
theorem iteT {A B : Prop} (h : A) : if true = true then A else B := by
  rw [if_pos rfl]
  exact h
theorem iteNS {c A B : Prop} [Decidable c] (hc : c) (h : B) : if (!decide c) = true then A else B := by
  rw [decide_eq_true hc]
  exact iteF h
def Same (H H' : Hp) : Prop := ∀ b o, H b = some o → H' b = some o
theorem Same.refl (H : Hp) : Same H H := fun _ _ h => h
theorem Same.trans {H H1 H2 : Hp} (a : Same H H1) (b : Same H1 H2) : Same H H2 := fun c o h => b c o (a c o h)
theorem Same.seq {K : PySem.W.Frag} {H H' : Hp} {a : Addr} {xs : List V} (e : Same H H') (h : SqL K H a xs) : SqL K H' a xs := by
  rcases h with (h | ⟨o, h⟩) | h
  · exact .inl (.inl (e _ _ h))
  · exact .inl (.inr ⟨o, e _ _ h⟩)
  · exact .inr h
end L2
namespace BP
def Sm (n : Nat) (x : Int) : Prop := x.natAbs < 2 ^ n
theorem Sm.mono {m n : Nat} {x : Int} (h : Sm m x) (l : m ≤ n) : Sm n x := Nat.lt_of_lt_of_le h (Nat.pow_le_pow_right (by decide) l)
theorem Sm.le {n : Nat} {x y : Int} (h : Sm n y) (l : x.natAbs ≤ y.natAbs) : Sm n x := Nat.lt_of_le_of_lt l h
theorem Sm.log2 {n : Nat} {x : Int} (h : Sm n x) (hn : 0 < n) : x.natAbs.log2 < n := by
  by_cases h0 : x.natAbs = 0
  · rw [h0]; simpa using hn
  · exact (Nat.log2_lt h0).mpr h
structure IsR (x y : Int) : Prop where
  pos : 0 < y
  low : Int.gcd x y = 1
def sg (t b : Int) : Int := if b < 0 then -(Int.gcd t b : Int) else (Int.gcd t b : Int)
theorem gcd_pos {t b : Int} (hb : b ≠ 0) : 0 < Int.gcd t b := Nat.pos_of_ne_zero fun h => hb (Int.gcd_eq_zero_iff.mp h).2
theorem sg_ne {t b : Int} (hb : b ≠ 0) : sg t b ≠ 0 := by
  have := gcd_pos (t := t) hb
  unfold sg; split <;> omega
theorem sg_dvd_left (t b : Int) : sg t b ∣ t := by
  unfold sg; split
  · exact Int.neg_dvd.mpr (Int.gcd_dvd_left t b)
  · exact Int.gcd_dvd_left t b
theorem sg_dvd_right (t b : Int) : sg t b ∣ b := by
  unfold sg; split
  · exact Int.neg_dvd.mpr (Int.gcd_dvd_right t b)
  · exact Int.gcd_dvd_right t b
def nt (t b : Int) : Int := t.fdiv (sg t b)
def nb (t b : Int) : Int := b.fdiv (sg t b)
theorem sg_nt (t b : Int) : sg t b * nt t b = t := Int.mul_fdiv_cancel' (sg_dvd_left t b)
theorem sg_nb (t b : Int) : sg t b * nb t b = b := Int.mul_fdiv_cancel' (sg_dvd_right t b)
theorem sg_abs (t b : Int) : (sg t b).natAbs = Int.gcd t b := by
  unfold sg; split <;> omega
theorem nb_pos {t b : Int} (hb : b ≠ 0) : 0 < nb t b := by
  have e := sg_nb t b
  have g := gcd_pos (t := t) hb
  by_cases h : b < 0
  · have hs : sg t b < 0 := by unfold sg; rw [if_pos h]; omega
    rcases Int.lt_trichotomy (nb t b) 0 with z | z | z
    · have := Int.mul_pos_of_neg_of_neg hs z; omega
    · rw [z] at e; omega
    · exact z
  · have hs : 0 < sg t b := by unfold sg; rw [if_neg h]; omega
    rcases Int.lt_trichotomy (nb t b) 0 with z | z | z
    · have := Int.mul_neg_of_pos_of_neg hs z; omega
    · rw [z] at e; omega
    · exact z
theorem n_low {t b : Int} (hb : b ≠ 0) : Int.gcd (nt t b) (nb t b) = 1 := by
  have g := gcd_pos (t := t) hb
  have h := Int.gcd_mul_left (sg t b) (nt t b) (nb t b)
  rw [sg_nt, sg_nb, sg_abs] at h
  exact (Nat.eq_of_mul_eq_mul_left g (by rw [Nat.mul_one]; exact h)).symm
theorem n_isR {t b : Int} (hb : b ≠ 0) : IsR (nt t b) (nb t b) := ⟨nb_pos hb, n_low hb⟩
theorem n_cross (t b : Int) : nt t b * b = t * nb t b := by
  have h1 := sg_nt t b
  have h2 := sg_nb t b
  calc nt t b * b = nt t b * (sg t b * nb t b) := by rw [h2]
    _ = (sg t b * nt t b) * nb t b := by ac_rfl
    _ = t * nb t b := by rw [h1]
theorem isR_unique {x y u v : Int} (a : IsR x y) (b : IsR u v) (h : x * v = u * y) : x = u ∧ y = v := by
  have hy := a.pos
  have hv := b.pos
  have ca : Nat.Coprime y.natAbs x.natAbs := by
    have := a.low
    rw [Int.gcd_comm] at this
    exact this
  have cb : Nat.Coprime v.natAbs u.natAbs := by
    have := b.low
    rw [Int.gcd_comm] at this
    exact this
  have hn : x.natAbs * v.natAbs = u.natAbs * y.natAbs := by rw [← Int.natAbs_mul, ← Int.natAbs_mul, h]
  have d1 : y.natAbs ∣ v.natAbs := ca.dvd_of_dvd_mul_left ⟨u.natAbs, by rw [hn, Nat.mul_comm]⟩
  have d2 : v.natAbs ∣ y.natAbs := cb.dvd_of_dvd_mul_left ⟨x.natAbs, by rw [← hn, Nat.mul_comm]⟩
  have e : y.natAbs = v.natAbs := Nat.dvd_antisymm d1 d2
  have ey : y = v := by omega
  subst ey
  exact ⟨Int.eq_of_mul_eq_mul_right (by omega) h, rfl⟩
theorem nt_le (t b : Int) (hb : b ≠ 0) : (nt t b).natAbs ≤ t.natAbs := by
  have h := congrArg Int.natAbs (sg_nt t b)
  rw [Int.natAbs_mul, sg_abs] at h
  have g := gcd_pos (t := t) hb
  rw [← h]
  exact Nat.le_mul_of_pos_left _ g
theorem nb_le (t b : Int) (hb : b ≠ 0) : (nb t b).natAbs ≤ b.natAbs := by
  have h := congrArg Int.natAbs (sg_nb t b)
  rw [Int.natAbs_mul, sg_abs] at h
  have g := gcd_pos (t := t) hb
  exact Nat.le_trans (Nat.le_mul_of_pos_left _ g) (Nat.le_of_eq h)
theorem gcd_step {a b : Int} : Int.gcd b (a % b) = Int.gcd a b := by
  have h : a % b = a + b * (-(a / b)) := by
    have := Int.emod_add_mul_ediv a b
    rw [Int.mul_neg]
    omega
  rw [h, Int.gcd_add_mul_left_right, Int.gcd_comm]
theorem gcd_end {a : Int} (h : 0 ≤ a) : ((Int.gcd a 0 : Nat) : Int) = a := by
  rw [Int.gcd_zero_right]; omega
theorem abs_gcd (t b : Int) : Int.gcd (if t < 0 then -t else t) (if b < 0 then -b else b) = Int.gcd t b := by
  split <;> split <;> simp [Int.gcd_neg, Int.neg_gcd]
theorem abs_nn (t : Int) : 0 ≤ (if t < 0 then -t else t) := by split <;> omega
end BP
namespace BP
theorem n_of {x y t b : Int} (hb : b ≠ 0) (R : IsR x y) (h : x * b = t * y) : x = nt t b ∧ y = nb t b := by
  refine isR_unique R (n_isR hb) ?_
  have c := n_cross t b
  refine Int.eq_of_mul_eq_mul_right hb ?_
  calc x * nb t b * b = x * b * nb t b := by ac_rfl
    _ = t * y * nb t b := by rw [h]
    _ = t * nb t b * y := by ac_rfl
    _ = nt t b * b * y := by rw [c]
    _ = nt t b * y * b := by ac_rfl
end BP
namespace BP
theorem isR_rat (q : Rat) : IsR q.num (q.den : Int) := ⟨by have := q.den_pos; omega, by
  have := q.reduced
  unfold Nat.Coprime at this
  simpa [Int.gcd] using this⟩
theorem rat_of {x y : Int} (h : IsR x y) : (Rat.divInt x y).num = x ∧ ((Rat.divInt x y).den : Int) = y := by
  have hy := h.pos
  have ne : y ≠ 0 := by omega
  refine isR_unique (isR_rat _) h ?_
  have e := Rat.num_divInt_den (Rat.divInt x y)
  have := (Rat.divInt_eq_divInt_iff (n₁ := (Rat.divInt x y).num) (n₂ := x) (d₁ := ((Rat.divInt x y).den : Int)) (d₂ := y) (by have := (Rat.divInt x y).den_pos; omega) ne).mp e
  exact this
theorem n_rat {t b : Int} (hb : b ≠ 0) : nt t b = (Rat.divInt t b).num ∧ nb t b = ((Rat.divInt t b).den : Int) := by
  have c := n_cross t b
  have R := n_isR (t := t) hb
  refine isR_unique R (isR_rat _) ?_
  have e := Rat.num_divInt_den (Rat.divInt t b)
  have h1 := (Rat.divInt_eq_divInt_iff (n₁ := (Rat.divInt t b).num) (n₂ := t) (d₁ := ((Rat.divInt t b).den : Int)) (d₂ := b) (by have := (Rat.divInt t b).den_pos; omega) hb).mp e
  refine Int.eq_of_mul_eq_mul_right hb ?_
  calc nt t b * ((Rat.divInt t b).den : Int) * b = nt t b * b * ((Rat.divInt t b).den : Int) := by ac_rfl
    _ = t * nb t b * ((Rat.divInt t b).den : Int) := by rw [c]
    _ = t * ((Rat.divInt t b).den : Int) * nb t b := by ac_rfl
    _ = (Rat.divInt t b).num * b * nb t b := by rw [h1]
    _ = (Rat.divInt t b).num * nb t b * b := by ac_rfl
end BP
namespace L2
open PySem PySem.Spec PyProof.Rows BP
section
variable {X : Cx}
theorem ZZ : OpR X (binaryOp .Mult) (rI IntMulOk fun i j => .int (i * j)) := opI fun _ _ _ _ _ _ _ hc q => mul_int q hc
def CDivB (_ j : Int) : Prop := j ≠ 0 ∧ j.natAbs.log2 < 9000
theorem vz : OpR X (binaryOp .FloorDiv) (rI CDivB fun i j => .int (i.fdiv j)) := opI fun _ _ _ _ _ _ _ hc q => floordiv_int hc.1 q (.inl (PyProof.noPylong_of_log2 hc.2))
inductive IsI (K : PySem.W.Frag) (H : Hp) : V → String → Bool → Prop where
  | intInt (i : Int) : IsI K H (.int i) "int" true
  | intBool (i : Int) : IsI K H (.int i) "bool" false
  | blInt (b : Bool) : IsI K H (.bl b) "int" true
  | blBool (b : Bool) : IsI K H (.bl b) "bool" true
  | nonInt : IsI K H .non "int" false
  | strInt (x : Str) : IsI K H (.str x) "int" false
  | strStr (x : Str) : IsI K H (.str x) "str" true
  | tupTup {a : Addr} {xs : List V} (h : SqT K H a xs) : IsI K H (.ref a) "tuple" true
  | tupInt {a : Addr} {xs : List V} (h : SqT K H a xs) : IsI K H (.ref a) "int" false
  | lstList {a : Addr} {xs : List V} (h : SqL K H a xs) : IsI K H (.ref a) "list" true
  | lstInt {a : Addr} {xs : List V} (h : SqL K H a xs) : IsI K H (.ref a) "int" false
  | dictInt {a : Addr} {kvs : List (Key × V)} (h : H a = some (.dK kvs)) : IsI K H (.ref a) "int" false
theorem call_isi : CallR X (.builtin "isinstance") (fun xs H Q => ∃ x T b, xs = [x, .ty T] ∧ IsI X.K H x T b ∧ Q (.bl b) H) := by
  intro pins s σ H xs us Q I r h
  obtain ⟨x, T, b, rfl, hi, q⟩ := h
  obtain ⟨u, u', rfl, rx, rt⟩ := vals2 r
  cases rt
  cases hi with
  | intInt i => obtain ⟨t, rfl⟩ := rx; exact IsiPair.int_int ⟨.bl true, H, I, rfl, q⟩
  | intBool i => obtain ⟨t, rfl⟩ := rx; exact IsiPair.int_bool ⟨.bl false, H, I.tok _, rfl, q⟩
  | blInt i => cases rx; exact IsiPair.bool_int ⟨.bl true, H, I, rfl, q⟩
  | blBool i => cases rx; exact IsiPair.bool_bool ⟨.bl true, H, I, rfl, q⟩
  | nonInt => cases rx; exact IsiPair.NoneType_int ⟨.bl false, H, I.tok _, rfl, q⟩
  | strInt i => obtain ⟨t, rfl⟩ := rx; exact IsiPair.str_int ⟨.bl false, H, I.tok _, rfl, q⟩
  | strStr i => obtain ⟨t, rfl⟩ := rx; exact IsiPair.str_str ⟨.bl true, H, I, rfl, q⟩
  | tupTup h =>
    cases rx
    obtain ⟨its, _, ⟨o, ho, hc, _⟩, _⟩ := I.tuple h
    exact IsiPair.tuple_tuple ho hc ⟨.bl true, H, I, rfl, q⟩
  | tupInt h =>
    cases rx
    obtain ⟨its, _, ⟨o, ho, hc, _⟩, _⟩ := I.tuple h
    exact IsiPair.tuple_int ho hc ⟨.bl false, H, I.tok _, rfl, q⟩
  | lstList h =>
    cases rx
    obtain ⟨its, _, p, _⟩ := I.list h
    obtain ⟨o, ho, hc, _⟩ := p.isList
    exact IsiPair.list_list ho hc ⟨.bl true, H, I, rfl, q⟩
  | lstInt h =>
    cases rx
    obtain ⟨its, _, p, _⟩ := I.list h
    obtain ⟨o, ho, hc, _⟩ := p.isList
    exact IsiPair.list_int ho hc ⟨.bl false, H, I.tok _, rfl, q⟩
  | @dictInt ad kvs h =>
    cases rx
    obtain ⟨_, _, vs, _, p⟩ := (show ObjOk X.prog X.w H s.heap ad (.dK kvs) from I.hok ad _ h)
    obtain ⟨o, es, ep, h1, h2, _⟩ := p
    exact IsiPair.dict_int h1 h2.1 ⟨.bl false, H, I.tok _, rfl, q⟩
def eqVs : List V → List V → Bool
  | [], [] => true
  | x :: xs, y :: ys => eqV x y && eqVs xs ys
  | _, _ => false
theorem kY : ∀ {xs : List V} {us : List Value} (r : Vals xs us) (j : Nat) (h : j < us.length), ∃ x, xs[j]? = some x ∧ RelV x us[j]
  | _, _, .nil, j, h => absurd h (Nat.not_lt_zero _)
  | _, _, .cons r _, 0, _ => ⟨_, rfl, r⟩
  | _, _, .cons _ t, j + 1, h => by
    obtain ⟨x, e, r⟩ := kY t j (by simpa using h)
    exact ⟨x, by simpa using e, by simpa using r⟩
theorem YY : ∀ (xs ys : List V) (e : Nat → Bool), (∀ j x y, xs[j]? = some x → ys[j]? = some y → e j = eqV x y) → ((List.range (min xs.length ys.length)).all e && xs.length == ys.length) = eqVs xs ys
  | [], [], e, _ => by simp [eqVs]
  | [], y :: ys, e, _ => by simp [eqVs]
  | x :: xs, [], e, _ => by simp [eqVs]
  | x :: xs, y :: ys, e, h => by
    have ih := YY xs ys (fun j => e (j + 1)) (fun j a b ha hb => h (j + 1) a b (by simpa using ha) (by simpa using hb))
    have h0 : e 0 = eqV x y := h 0 x y rfl rfl
    have hm : min (x :: xs).length (y :: ys).length = min xs.length ys.length + 1 := by simp only [List.length_cons]; omega
    rw [hm, List.range_succ_eq_map, List.all_cons, List.all_map, h0]
    unfold eqVs
    rw [← ih]
    have hl : ((x :: xs).length == (y :: ys).length) = (xs.length == ys.length) := by simp
    rw [hl, Bool.and_assoc]
    rfl
theorem flat_at {xs : List V} (h : xs.all flatV = true) {j : Nat} {x : V} (e : xs[j]? = some x) : flatV x = true := List.all_eq_true.mp h x (List.mem_of_getElem? e)
def rEqL (K : PySem.W.Frag) (neg : Bool) : R2 := fun x y H Q => ∃ a b xs ys, x = .ref a ∧ y = .ref b ∧ SqL K H a xs ∧ SqL K H b ys ∧ xs.all flatV = true ∧ ys.all flatV = true ∧ Q (.bl (if neg then !eqVs xs ys else eqVs xs ys)) H
theorem eqVs_len : ∀ {xs ys : List V}, xs.length ≠ ys.length → eqVs xs ys = false
  | [], [], h => absurd rfl h
  | [], _ :: _, _ => rfl
  | _ :: _, [], _ => rfl
  | x :: xs, y :: ys, h => by
    unfold eqVs
    rw [eqVs_len (xs := xs) (ys := ys) (fun z => h (by rw [List.length_cons, List.length_cons, z])), Bool.and_false]
theorem all_range_eqL (xs ys : List V) (e : Nat → Bool) (hl : xs.length = ys.length) (h : ∀ j x y, xs[j]? = some x → ys[j]? = some y → e j = eqV x y) : (List.range xs.length).all e = eqVs xs ys := by
  have q := YY xs ys e h
  rw [← hl, Nat.min_self, beq_self_eq_true, Bool.and_true] at q
  exact q
theorem op_eqL (hu : X.A.units + 1 < cLine) : OpR X (compareOp .Eq) (rEqL X.K false) := by
  intro pins s σ H x y v u Q I rx ry h
  obtain ⟨a, b, xs, ys, rfl, rfl, ha, hb, fx, fy, q⟩ := h
  cases rx
  cases ry
  obtain ⟨its, r1, p1, _⟩ := I.list ha
  obtain ⟨its2, r2, p2, _⟩ := I.list hb
  have h1 := r1.length
  have h2 := r2.length
  by_cases hl : xs.length = ys.length
  · refine SeqAt.eq_listAt (e := fun j => match xs[j]?, ys[j]? with | some x, some y => eqV x y | _, _ => true) p1.isList p2.isList (by simp only [List.size_toArray]; omega) (by omega) (fun j g1 g2 => ?_) ⟨.bl _, H, I, rfl, ?_⟩
    · obtain ⟨x, e1, q1⟩ := kY r1 j (by simpa using g1)
      obtain ⟨y, e2, q2⟩ := kY r2 j (by simpa using g2)
      rw [e1, e2]
      exact eqAt_V (by simpa using q1) (by simpa using q2) (flat_at fx e1) (flat_at fy e2)
    · rw [List.size_toArray, ← h1, all_range_eqL xs ys _ hl fun j x y e1 e2 => by rw [e1, e2]]
      exact q
  · refine SeqAt.eq_list_lengthsAt p1.isList p2.isList (by simp only [List.size_toArray, bne_iff_ne]; omega) (by omega) ⟨.bl false, H, I, rfl, ?_⟩
    rw [eqVs_len hl] at q
    exact q
def tDict0 : TE := fun _ H Q => ∀ p, H p = none → Q (.ref p) (upd H p (.dK []))
theorem pe_dict0 {pos : Pos} : PE X (.Dict [] [] pos) tDict0 := fun pins s σ H Q I h => by
  have big : sysModules < s.heap.objs.size := Nat.lt_trans (by decide) (I.mod.glob.keeps I.bk).lt
  refine wpAny_Dict_empty ⟨.ref s.heap.objs.size, _, I.laid (a := s.heap.objs.size) (o := .dK []) (t' := s.toks) (fun _ _ q => Heap.get?_push_of_some _ q) (Nat.le_refl _) ?_, rfl, h _ (I.hok.fresh (Nat.le_refl _))⟩
  exact ⟨Nat.zero_le _, beq_eq_false_iff_ne.mpr (Ne.symm (Nat.ne_of_lt big)), [], .nil, Heap.DictOf.new s.heap⟩
end
def plainE : Expr → Bool
  | .Starred _ _ => false
  | _ => true
theorem qq {e : Expr} (h : plainE e = true) (es : List Expr) (env : Env) : starEach (e :: es) env = (false, eval e env) :: starEach es env := by
  cases e <;> first | rfl | exact absurd (show false = true from h) Bool.false_ne_true
theorem qy {es : List Expr} {env : Env} {pos : Pos} (h : es.all plainE = true) : (backTo pos (starEach es env)).any (·.1) = false := by
  induction es with
  | nil => rfl
  | cons e es ih =>
    rw [List.all_cons, Bool.and_eq_true] at h
    rw [qq h.1]
    have q := ih h.2
    unfold backTo at q ⊢
    rw [List.map_cons, List.any_cons, q]
    rfl
theorem pa_c {X : Cx} {e : Expr} {es : List Expr} {te : TE} {t : TA} (ha : PE X e te) (hr : PA X es t) (hp : plainE e = true := by rfl) : PA X (e :: es) (tCons te t) := pa_cons ha hr (qq hp es X.env)
theorem boot_isinstance : bootBuiltins "isinstance" = some (.builtin "isinstance") := PyProof.Rows.boot_isinstance
theorem boot_int : bootBuiltins "int" = some (.type "int") := PyProof.Rows.boot_int
theorem boot_bool : bootBuiltins "bool" = some (.type "bool") := PyProof.Rows.boot_bool
theorem boot_tuple : bootBuiltins "tuple" = some (.type "tuple") := PyProof.Rows.boot_tuple
theorem boot_list : bootBuiltins "list" = some (.type "list") := PyProof.Rows.boot_list
theorem boot_str : bootBuiltins "str" = some (.type "str") := PyProof.Rows.boot_str
theorem boot_abs : bootBuiltins "abs" = some (.builtin "abs") := PyProof.Rows.boot_abs
theorem qk {H : Hp} {p : Addr} (h : H p = none) (o : HO) : Same H (upd H p o) := fun b u q => by rw [zK (zk q h)]; exact q
theorem Same.tup {K : PySem.W.Frag} {H H' : Hp} {a : Addr} {xs : List V} (e : Same H H') (h : SqT K H a xs) : SqT K H' a xs := by
  rcases h with (h | ⟨o, h⟩) | h
  · exact .inl (.inl (e _ _ h))
  · exact .inl (.inr ⟨o, e _ _ h⟩)
  · exact .inr h
def RetT (H : Hp) (Q : VK) (xs : List V) : Prop := ∀ p H', Same H H' → H' p = some (.tup xs) → Q (.ref p) H'
theorem RetT.new {H : Hp} {Q : VK} {xs : List V} (h : RetT H Q xs) {p : Addr} (hp : H p = none) : Q (.ref p) (upd H p (.tup xs)) := h p _ (qk hp _) qz
abbrev T2 (x y : Int) : List V := [.int x, .int y]
theorem j0 : 2 ≤ sizeLine := by decide
theorem iteN {c A B : Prop} [Decidable c] (hc : ¬ c) (h : B) : if decide c = true then A else B := by
  rw [decide_eq_false hc]
  exact iteF h
theorem iteP {c A B : Prop} [Decidable c] (hc : c) (h : A) : if decide c = true then A else B := by
  rw [decide_eq_true hc]
  exact iteT h
theorem iteD {c A B : Prop} [Decidable c] (h1 : c → A) (h2 : ¬ c → B) : if decide c = true then A else B := by
  by_cases h : c
  · exact iteP h (h1 h)
  · exact iteN h (h2 h)
theorem iteNP {c A B : Prop} [Decidable c] (hc : ¬ c) (h : A) : if (!decide c) = true then A else B := by
  rw [decide_eq_false hc]
  exact iteT h
end L2
namespace L2
open PySem PySem.Spec PyProof.Rows BP
section
variable {X : Cx} {pins : List (Addr × Obj)} {σ : St} {H : Hp} {s : Shared}
theorem Inv.track {ea : Addr} {o : HO} (I : Inv X pins σ H s) (hn : H ea = none) (h0 : X.s₀.heap.get? ea = none) (hp : ∀ p ∈ X.pn ++ pins, p.1 ≠ ea) (hL : ea ≠ X.env.locals)
    (hc : ∀ x c, X.env.cells.lookup x = some c → c ≠ ea) (ok : ObjOk X.prog X.w (upd H ea o) s.heap ea o) : Inv X pins σ (upd H ea o) s := by
  refine ⟨I.ok, I.os, I.bare, ⟨I.base.keep, I.base.slot, fun b u q n hx => ?_, I.base.there, fun b xs e => ?_, fun b u xs e => ?_, fun b ps e => ?_⟩, I.loc, I.cell, ?_, fun x c e => ?_, fun p hp' => ?_, fun b u e => ?_, I.len⟩
  · rw [zK (fun z => by rw [z, h0] at q; cases q)]
    exact I.base.free b u q n hx
  · have z := I.base.tups b xs e
    rw [zK (zk z hn)]
    exact z
  · have z := I.base.frzs b u xs e
    rw [zK (zk z hn)]
    exact z
  · obtain ⟨m, z⟩ := I.base.tbls b ps e
    exact ⟨m, by rw [zK (zk z hn)]; exact z⟩
  · rw [zK (Ne.symm hL)]
    exact I.free
  · rw [zK (hc x c e)]
    exact I.freeC x c e
  · obtain ⟨e, n, r⟩ := I.pin p hp'
    exact ⟨e, by rw [zK (hp p hp')]; exact n, r⟩
  · by_cases hb : b = ea
    · subst hb
      rw [qz] at e
      cases e
      exact ok
    · rw [zK hb] at e
      exact (I.hok b u e).stay (fun c v _ q => q) (fun c q => by rw [zK (zk q hn)]; exact q) fun c xs q => by rw [zK (zk q hn)]; exact q
end
end L2
namespace L2
open PySem PySem.Spec PyProof.Rows BP
structure CP where
  C : Addr
  fp : List Addr
  s : Shared
  H : Hp
abbrev Cx.comp (X : Cx) (scope : Scope) (cl : List (Str × Addr)) (N : List Str) (c : CP) : Cx :=
  { prog := X.prog, w := X.w, K := X.K, mg := X.mg, base := X.base, A := X.A, N := N, s₀ := c.s, H₀ := c.H, env := compEnvC scope cl c.C X.env, outer := X.stack, stack := X.stack, ex := c.fp, fn := fun _ => false, calm := X.calm, pn := [], xe := fun _ _ => False }
def ixS : St → Nat → Option V
  | [], _ => none
  | x :: _, 0 => x
  | _ :: r, n + 1 => ixS r n
theorem ixS_some : ∀ {σ : St} {j : Nat} {v : V}, ixS σ j = some v → σ[j]? = some (some v)
  | [], _, _, h => by cases h
  | x :: r, 0, v, h => by
    have h' : x = some v := h
    rw [h']; rfl
  | x :: r, n + 1, v, h => by
    have q := ixS_some (σ := r) (j := n) (v := v) h
    simpa using q
def compS : List (Option Nat) → St → St
  | [], _ => []
  | none :: r, σ => none :: compS r σ
  | some j :: r, σ => ixS σ j :: compS r σ
theorem compS_len : ∀ (ix : List (Option Nat)) (σ : St), (compS ix σ).length = ix.length
  | [], _ => rfl
  | none :: r, σ => congrArg Nat.succ (compS_len r σ)
  | some _ :: r, σ => congrArg Nat.succ (compS_len r σ)
def LeS : St → St → Prop
  | [], [] => True
  | a :: r, b :: r' => (a = none ∨ a = b) ∧ LeS r r'
  | _, _ => False
theorem LeS.refl : ∀ σ : St, LeS σ σ
  | [] => trivial
  | _ :: r => ⟨.inr rfl, LeS.refl r⟩
theorem LeS.len : ∀ {a b : St}, LeS a b → a.length = b.length
  | [], [], _ => rfl
  | _ :: _, _ :: _, h => congrArg Nat.succ (LeS.len h.2)
  | [], _ :: _, h => h.elim
  | _ :: _, [], h => h.elim
theorem LeS.get : ∀ {a b : St} {i : Nat} {v : V}, LeS a b → a[i]? = some (some v) → b[i]? = some (some v)
  | [], [], _, _, _, e => by simp at e
  | [], _ :: _, _, _, h, _ => h.elim
  | _ :: _, [], _, _, h, _ => h.elim
  | x :: r, y :: r', 0, v, h, e => by
    have e' : x = some v := by simpa using e
    rcases h.1 with z | z
    · rw [z] at e'; cases e'
    · rw [← z, e']; rfl
  | x :: r, y :: r', i + 1, v, h, e => by
    have e' : r[i]? = some (some v) := by simpa using e
    have q := LeS.get h.2 e'
    simpa using q
def GOk (g : TG) (σ : St) : Prop := ∀ x H Q, g x σ H Q → g x σ H fun σ2 H2 => LeS σ σ2 ∧ Q σ2 H2
theorem leS_set : ∀ {σ : St} {i : Nat} {v : V}, σ[i]? = some none → LeS σ (σ.set i (some v))
  | [], _, _, h => by simp at h
  | x :: r, 0, v, h => by
    have e : x = none := by simpa using h
    exact ⟨.inl e, LeS.refl r⟩
  | x :: r, i + 1, v, h => by
    have e : r[i]? = some none := by simpa using h
    exact ⟨.inr rfl, leS_set e⟩
theorem compS_none {ix : List (Option Nat)} : ∀ {i : Nat} {σ : St}, ix[i]? = some none → (compS ix σ)[i]? = some none := by
  induction ix with
  | nil => intro i σ h; simp at h
  | cons a r ih =>
    intro i σ h
    cases i with
    | zero =>
      have e : a = none := by simpa using h
      subst e; rfl
    | succ i =>
      have e : r[i]? = some none := by simpa using h
      have q := ih (σ := σ) e
      cases a <;> (unfold compS; simpa using q)
theorem v7 {i : Nat} {ix : List (Option Nat)} (h : ix[i]? = some none) (σ : St) : GOk (gName i) (compS ix σ) := fun _ _ _ q => ⟨leS_set (compS_none h), q⟩
theorem LeS.trans : ∀ {a b c : St}, LeS a b → LeS b c → LeS a c
  | [], [], [], _, _ => trivial
  | [], [], _ :: _, _, h => h.elim
  | [], _ :: _, _, h, _ => h.elim
  | _ :: _, [], _, h, _ => h.elim
  | _ :: _, _ :: _, [], _, h => h.elim
  | x :: r, y :: r', z :: r'', h, k => by
    refine ⟨?_, LeS.trans h.2 k.2⟩
    rcases h.1 with e | e
    · exact .inl e
    · rcases k.1 with e' | e'
      · exact .inl (e.trans e')
      · exact .inr (e.trans e')
theorem go_two {K : PySem.W.Frag} {i j : Nat} {ix : List (Option Nat)} (h : ix[i]? = some none) (h' : ix[j]? = some none) (hij : i ≠ j) (σ : St) : GOk (gTup K 2 (gCons (gName i) (gCons (gName j) gNil))) (compS ix σ) := by
  intro x H Q q
  obtain ⟨a, xs, e1, e2, e3, v, r, e4, v', r', e5, e6, q⟩ := q
  have z : (compS ix σ)[i]? = some none := compS_none h
  have z' : ((compS ix σ).set i (some v))[j]? = some none := by
    rw [List.getElem?_set_ne hij]
    exact compS_none h'
  exact ⟨a, xs, e1, e2, e3, v, r, e4, v', r', e5, e6, (leS_set z).trans (leS_set z'), q⟩
def SubL (cells : List (Str × Addr)) : List (Str × Addr) → Prop
  | [] => True
  | p :: r => cells.lookup p.1 = some p.2 ∧ SubL cells r
theorem SubL.get {cells : List (Str × Addr)} : ∀ {cl : List (Str × Addr)} {x : Str} {c : Addr}, SubL cells cl → cl.lookup x = some c → cells.lookup x = some c
  | [], _, _, _, e => by cases e
  | p :: r, x, c, h, e => by
    rw [List.lookup_cons] at e
    cases hx : x == p.1 with
    | true =>
      rw [hx] at e
      have e1 : x = p.1 := by simpa using hx
      have e2 : p.2 = c := Option.some.inj e
      rw [e1, ← e2]
      exact h.1
    | false =>
      rw [hx] at e
      exact SubL.get h.2 e
def IxOk (X : Cx) (rn : List (Str × NameKind)) (cl : List (Str × Addr)) : List Str → List (Option Nat) → Prop
  | [], [] => True
  | _ :: N, none :: ix => IxOk X rn cl N ix
  | x :: N, some j :: ix => (X.N[j]? = some x ∧ Vis X.env.scope x ∧ (X.env.kindOf x ≠ some .local) ∧ (cl.lookup x).isSome = true ∧ (rn.lookup x = some .cell ∨ rn.lookup x = some .free)) ∧ IxOk X rn cl N ix
  | _, _ => False
theorem IxOk.len {X : Cx} {rn : List (Str × NameKind)} {cl : List (Str × Addr)} : ∀ {N : List Str} {ix : List (Option Nat)}, IxOk X rn cl N ix → ix.length = N.length
  | [], [], _ => rfl
  | _ :: _, none :: _, h => congrArg Nat.succ (IxOk.len (show IxOk X rn cl _ _ from h))
  | _ :: _, some _ :: _, h => congrArg Nat.succ (IxOk.len h.2)
  | [], none :: _, h => h.elim
  | [], some _ :: _, h => h.elim
  | _ :: _, [], h => h.elim
theorem IxOk.get {X : Cx} {rn : List (Str × NameKind)} {cl : List (Str × Addr)} : ∀ {N : List Str} {ix : List (Option Nat)} {σ : St} {i : Nat} {x : Str} {v : V}, IxOk X rn cl N ix → N[i]? = some x → (compS ix σ)[i]? = some (some v) → ∃ j : Nat, X.N[j]? = some x ∧ σ[j]? = some (some v) ∧ Vis X.env.scope x ∧ X.env.kindOf x ≠ some .local ∧ (cl.lookup x).isSome = true ∧ (rn.lookup x = some .cell ∨ rn.lookup x = some .free)
  | [], [], _, _, _, _, _, e, _ => by simp at e
  | y :: N, none :: ix, σ, 0, x, v, _, _, e => by
    have z : (none : Option V) = some v := by simpa [compS] using e
    cases z
  | y :: N, none :: ix, σ, i + 1, x, v, h, e, e' => IxOk.get (N := N) (ix := ix) (σ := σ) (i := i) (show IxOk X rn cl N ix from h) (by simpa using e) (by simpa [compS] using e')
  | y :: N, some j :: ix, σ, 0, x, v, h, e, e' => by
    have z : ixS σ j = some v := by simpa [compS] using e'
    have y1 : y = x := by simpa using e
    subst y1
    exact ⟨j, h.1.1, ixS_some z, h.1.2⟩
  | y :: N, some j :: ix, σ, i + 1, x, v, h, e, e' => IxOk.get (N := N) (ix := ix) (σ := σ) (i := i) h.2 (by simpa using e) (by simpa [compS] using e')
  | [], none :: _, _, _, _, _, h, _, _ => h.elim
  | [], some _ :: _, _, _, _, _, h, _, _ => h.elim
  | _ :: _, [], _, _, _, _, h, _, _ => h.elim
structure CompOk (X : Cx) (scope : Scope) (cl : List (Str × Addr)) (N : List Str) (ix : List (Option Nat)) : Prop where
  clos : closureFor scope X.env = pure cl := by rfl
  kind : scope.kind = .function := by rfl
  nms : (scope.names.all fun x => x.2 != .local || scope.names.lookup x.1 == some .local) = true := by rfl
  nocell : (scope.names.all fun x => x.2 != .cell) = true := by rfl
  sub : SubL X.env.cells cl
  has : ((relabel scope X.env).names.all fun x => x.2 == .local || (cl.lookup x.1).isSome || !(x.2 == .cell || x.2 == .free)) = true := by rfl
  ixs : IxOk X (relabel scope X.env).names cl N ix
section
variable {X : Cx} {scope : Scope} {cl : List (Str × Addr)} {N : List Str} {ix : List (Option Nat)} {pins : List (Addr × Obj)} {σ : St} {H : Hp} {s : Shared}
theorem lookup_mem : ∀ {l : List (Str × NameKind)} {x : Str} {k : NameKind}, l.lookup x = some k → (x, k) ∈ l
  | [], _, _, h => by cases h
  | (y, k') :: r, x, k, h => by
    rw [List.lookup_cons] at h
    cases hx : x == y with
    | true =>
      rw [hx] at h
      have e1 : x = y := by simpa using hx
      have e2 : k' = k := Option.some.inj h
      rw [e1, e2]
      exact List.mem_cons_self
    | false =>
      rw [hx] at h
      exact List.mem_cons_of_mem _ (lookup_mem h)
theorem CompOk.cells (k : CompOk X scope cl N ix) {x : Str} (h : (relabel scope X.env).names.lookup x = some .cell ∨ (relabel scope X.env).names.lookup x = some .free) : ∃ c, cl.lookup x = some c := by
  have all := List.all_eq_true.mp k.has
  rcases h with h | h
  · have q := all _ (lookup_mem h)
    exact Option.isSome_iff_exists.mp (by simpa using q)
  · have q := all _ (lookup_mem h)
    exact Option.isSome_iff_exists.mp (by simpa using q)
theorem CompOk.ok (k : CompOk X scope cl N ix) (I : Inv X pins σ H s) {fp : List Addr} {C : Addr} (hf : ∀ b ∈ fp, FpOk X pins H b ∧ b < s.heap.objs.size) (hC : s.heap.objs.size ≤ C) : (X.comp scope cl N ⟨C, fp, s, H⟩).Ok where
  mod := I.ok.mod
  kind := k.kind
  glob := I.ok.glob
  blt := I.ok.blt
  above := hC
  inj := fun x y c e1 e2 => I.ok.inj x y c (k.sub.get e1) (k.sub.get e2)
  has := fun x h => k.cells h
  cab := fun x c h _ => by cases h
  hd := I.ok.hd
  frames := I.ok.frames
  stk := .inl rfl
  exf := fun b hb => ⟨Nat.ne_of_lt (Nat.lt_of_lt_of_le (hf b hb).2 hC), fun x c e => (hf b hb).1.2.2.2.2.1 x c (k.sub.get e)⟩
  bs := fun b o e => I.bs b o e
  bsz := Nat.le_trans I.ok.bsz I.sz
  noex := fun b o e hb => by
    obtain ⟨⟨_, _, _, z, _⟩, _⟩ := hf b hb
    rcases z with z | z
    · exact I.ok.noex b o e z
    · exact absurd (Nat.lt_of_lt_of_le (Heap.lt_size e) (Nat.le_trans I.ok.bsz z)) (Nat.lt_irrefl _)
  exfs := fun b hb z => by
    obtain ⟨⟨_, nl, nf, _⟩, _⟩ := hf b hb
    rcases List.mem_cons.mp (I.stkSub b z) with e | e
    · exact nl e
    · exact nf e
  funs := I.stack
  frf := I.stkFree
theorem CompOk.enter (k : CompOk X scope cl N ix) (I : Inv X pins σ H s) {fp : List Addr} {C : Addr} {h' : Heap} {t' : Nat} {m : Str → Option Value} (hf : ∀ b ∈ fp, FpOk X pins H b ∧ b < s.heap.objs.size) (hC : s.heap.objs.size ≤ C)
    (keep : ∀ b o, s.heap.get? b = some o → h'.get? b = some o) (hn : h'.Ns C m) : Inv (X.comp scope cl N ⟨C, fp, s, H⟩) [] (compS ix σ) H { s with heap := h', toks := t' } where
  ok := k.ok I hf hC
  os := rfl
  bare := I.bare
  base := Un.kept keep
  loc := ⟨m, hn, fun i x v e1 e2 _ => by
    obtain ⟨j, h1, h2, h3, h4, h5, h6⟩ := k.ixs.get e1 e2
    obtain ⟨m0, _, hl⟩ := I.loc
    obtain ⟨u, r, l⟩ := hl j x v h1 h2 h3
    rcases l with ⟨l, _⟩ | ⟨_, c, ec, z⟩
    · exact absurd l h4
    · obtain ⟨c', ec'⟩ := Option.isSome_iff_exists.mp h5
      have e3 := k.sub.get ec'
      rw [ec] at e3
      have e4 : c = c' := Option.some.inj e3
      subst e4
      obtain ⟨o, ho, hd⟩ := z
      exact ⟨u, r, .inr ⟨h6, c, ec', o, keep _ _ ho, hd⟩⟩⟩
  cell := fun x c e => by
    obtain ⟨v, o, ho, hd⟩ := I.cell x c (k.sub.get e)
    exact ⟨v, o, keep _ _ ho, hd⟩
  free := I.hok.fresh hC
  freeC := fun x c e => I.freeC x c (k.sub.get e)
  pin := fun p hp => by cases hp
  hok := I.hok.kept keep
  len := (compS_len ix σ).trans k.ixs.len
end
end L2
namespace L2
open PySem PySem.Spec PyProof.Rows BP
section
variable {prog : Program} {w : World} {A : Around} {R : Result → Shared → Prop} {s : Shared}
theorem comp_loop {elt tg iter : Expr} {ifs : List Expr} {scope : Scope} {pos : Pos} {it acc : Value} {env : Env} (J : Nat → Shared → Prop)
    (turn : ∀ n s1, J n s1 → ∀ E : Value → Shared → Prop, wpAny (model prog w) A (pyNext it) (fun r s2 => (r = none ∧ R (.ok .next) s2) ∨ ∃ v, r = some v ∧ wpAny (model prog w) A (letOwnedTupleGo tg it v) (fun _ s3 => wpAny (model prog w) A (assign tg env v) (fun _ s4 =>
        wpAny (model prog w) A (forIn ifs true fun c b => if b = true then do let ok ← isTrue c env (eval c env); pure (ForInStep.yield ok) else pure (ForInStep.yield b)) (fun ok s5 =>
          (ok = true ∧ wpAny (model prog w) A (eval elt env) (fun x s6 => wpAny (model prog w) A (call (.builtin "list.append") [acc, x]) (fun _ s7 => ∃ m, m < n ∧ J m s7) E s6) E s5) ∨ (ok = false ∧ ∃ m, m < n ∧ J m s5)) E s4) E s3) E s2) E s1)
    (n : Nat) (h : J n s) : codeAny (model prog w) A (.compLoop (.ListComp elt [⟨tg, iter, ifs, 0⟩] scope pos) 0 it acc env) R s := by
  refine codeAny_loop rfl J (fun n s1 hJ => ?_) n h
  show wpAny _ _ ((compTurn (.ListComp elt [⟨tg, iter, ifs, 0⟩] scope pos) 0 it acc env).onRaise fun x => do
    noteFrame x env
    theTreesLotGoes x) _ _ s1
  refine wpAny_noted ?_
  rw [compTurn_list]
  refine wpAny_bind (wpAny_standAt (wpAny_bind (thn (turn n s1 hJ _) fun r s2 h2 => ?_)))
  rcases h2 with ⟨e, q⟩ | ⟨v, e, q⟩
  · subst e
    exact wpAny_pure q
  · subst e
    refine wpAny_bind (thn q fun _ s3 q3 => wpAny_bind (thn q3 fun _ s4 q4 => wpAny_bind (thn q4 fun ok s5 q5 => ?_)))
    rcases q5 with ⟨e, q5⟩ | ⟨e, q5⟩
    · subst e
      exact wpAny_bind (wpAny_bind (thn q5 fun x s6 q6 => wpAny_bind (thn q6 fun _ s7 q7 => wpAny_pure (wpAny_pure ⟨rfl, q7⟩))))
    · subst e
      exact wpAny_pure ⟨rfl, q5⟩
end
def PIfs (X : Cx) (ifs : List Expr) (t : TT) : Prop :=
  ∀ (pins : List (Addr × Obj)) (s : Shared) (σ : St) (H : Hp) (Q : Bool → Hp → Prop), Inv X pins σ H s → t σ H Q → wpAny (model X.prog X.w) X.A (forIn ifs true fun c b => if b = true then do let ok ← isTrue c X.env (eval c X.env); pure (ForInStep.yield ok) else pure (ForInStep.yield b)) (TP X pins σ Q) X.xe s
def tNoIf : TT := fun _ H Q => Q true H
theorem yV {X : Cx} : PIfs X [] tNoIf := fun _ _ _ H _ I h => wpAny_tests_nil ⟨H, I, h⟩
theorem pif_one {X : Cx} {c : Expr} {t : TT} (h : PT X c t) : PIfs X [c] t := fun pins s σ H Q I q => wpAny_tests_one (h pins s σ H Q I q)
def tCompZ (ix : List (Option Nat)) (wi : TI) (g : CP → TG) (tt : CP → TT) (te : CP → TE) (σ : St) (H : Hp) (Z : List V → Hp → Prop) : Prop :=
  wi σ H fun J H1 => ∃ W : Nat → Nat → List V → Hp → Prop, (∃ m, W 0 m [] H1) ∧ ∀ i m ys H, W i m ys H → ys.length < sizeLine ∧ ((J.stop i H ∧ Z ys H) ∨ (J.go i H ∧ ∀ c x H', J.yld i H x H' → g c x (compS ix σ) H' fun σ2 H2 => tt c σ2 H2 fun b H3 =>
      (b = true ∧ te c σ2 H3 fun y H4 => ∃ m', m' < m ∧ W (i + 1) m' (ys ++ [y]) H4) ∨ (b = false ∧ ∃ m', m' < m ∧ W (i + 1) m' ys H3)))
def tComp (ix : List (Option Nat)) (wi : TI) (g : CP → TG) (tt : CP → TT) (te : CP → TE) : TE := fun σ H Q =>
  tCompZ ix wi g tt te σ H fun ys H1 => ∀ D, H1 D = none → Q (.ref D) (upd H1 D (.lst ys))
def sComp (ix : List (Option Nat)) (i : Nat) (wi : TI) (g : CP → TG) (tt : CP → TT) (te : CP → TE) : TS := fun D σ H =>
  tCompZ ix wi g tt te σ H fun ys H1 => ∀ p, H1 p = none → D.nx (σ.set i (some (.ref p))) (upd H1 p (.lst ys))
theorem comp_run {X : Cx} {scope : Scope} {cl : List (Str × Addr)} {N : List Str} {ix : List (Option Nat)} {elt tg iter : Expr} {ifs : List Expr} {pos pos' : Pos} {wi : TI} {g : CP → TG} {tt : CP → TT} {te : CP → TE}
    {pins : List (Addr × Obj)} {σ : St} {H : Hp} {s : Shared} {Z : List V → Hp → Prop} {use : Option (Value → Sem Unit)} {Q0 : Value → Shared → Prop}
    (k : CompOk X scope cl N ix) (hc : X.calm = true) (hi : PI X tg iter wi) (hg : ∀ c, PG (X.comp scope cl N c) tg (g c)) (ho : ∀ c σ, GOk (g c) (compS ix σ)) (ht : ∀ c, PIfs (X.comp scope cl N c) ifs (tt c)) (he : ∀ c, PE (X.comp scope cl N c) elt (te c))
    (hs : ∀ x, foldedSetIterable iter X.env x = pure x) (I : Inv X pins σ H s) (h : tCompZ ix wi g tt te σ H Z)
    (fin : ∀ (D C : Addr) (s' : Shared) (H' : Hp) (ys : List V) (m : Str → Option Value), Inv X pins σ (upd H' D (.lst ys)) s' → FpOk X pins (upd H' D (.lst ys)) C → s'.heap.Ns C m → H' D = none → Z ys H' → compPost (model X.prog X.w) X.A X.xe use Q0 (.ref D) C (.ok .next) s') :
    wpAny (model X.prog X.w) X.A (comprehension (.ListComp elt [⟨tg, iter, ifs, 0⟩] scope pos) scope X.env pos' (newList []) false (eval iter X.env) use) Q0 X.xe s := by
  have hnm : ∀ x ∈ scope.names, x.2 = .local → scope.names.lookup x.1 = some .local := fun x hx hl => by
    have q := List.all_eq_true.mp k.nms x hx
    rw [hl] at q
    simpa using q
  have hnc : ∀ x ∈ scope.names, x.2 ≠ .cell := fun x hx => by
    have q := List.all_eq_true.mp k.nocell x hx
    simpa using q
  refine wpAny_comprehension_free rfl hs k.clos k.kind hnm (thn (hi pins s σ H _ I h) fun v s1 h1 => thn h1 fun itv s2 h2 => ?_)
  obtain ⟨it, fp, tn, J, H2, e, I2, T, st2, f2, W, ⟨m0, w0⟩, step⟩ := h2
  subst e
  refine wpAny_newObj_type (wpAny_newFunctionEnv hnc (by intro y hy; simp at hy) (fun h3 hns hsb => ?_) k.kind)
  dsimp only at hns hsb ⊢
  generalize hD : s2.heap.objs.size = D at hns hsb ⊢
  generalize hP : s2.heap.push { cls := .type "list", dict := none, data := .seq ([] : List Value).toArray } = P2 at hns hsb ⊢
  generalize hCe : P2.objs.size = C at hns hsb ⊢
  have szC : C = D + 1 := by rw [← hCe, ← hP, Heap.size_push, hD]
  have hDC : D ≠ C := by rw [szC]; exact Nat.ne_of_lt (Nat.lt_succ_self _)
  have ltD : ∀ {b : Addr} {o : Obj}, s2.heap.get? b = some o → b < D := fun e => hD ▸ Heap.lt_size e
  have pD : P2.get? D = some { cls := .type "list", dict := none, data := .seq ([] : List Value).toArray } := by rw [← hP, ← hD]; exact Heap.get?_push_size _ rfl
  have old : ∀ b o, s2.heap.get? b = some o → h3.get? b = some o := fun b o e => by
    have lb := ltD e
    have nb : b ≠ C := by rw [szC]; exact Nat.ne_of_lt (Nat.lt_succ_of_lt lb)
    refine (hsb.2 b nb).trans ?_
    refine Heap.get?_push_of_some _ ?_
    rw [← hP]
    exact Heap.get?_push_of_some _ e
  have lst0 : h3.PlainList D #[] := ⟨_, (hsb.2 D hDC).trans (Heap.get?_push_of_some _ pD)⟩
  have lt2 : ∀ b ∈ fp, b < s2.heap.objs.size := fun b hb => let ⟨_, e, _⟩ := T.obj _ _ st2 b hb; Heap.lt_size e
  have f2' : ∀ b ∈ fp, FpOk X pins H2 b ∧ b < s2.heap.objs.size := fun b hb => ⟨f2 b hb, lt2 b hb⟩
  have leC : s2.heap.objs.size ≤ C := by rw [szC, hD]; exact Nat.le_succ _
  have leD : s2.heap.objs.size ≤ D := by rw [hD]; exact Nat.le_refl _
  have nD : D ∉ fp := fun z => Nat.lt_irrefl _ (hD ▸ lt2 D z)
  have nC : C ∉ fp := fun z => Nat.lt_irrefl _ (Nat.lt_of_lt_of_le (lt2 C z) leC)
  have st3 : tn 0 h3 := T.keep _ _ _ st2 fun b _ o e => old b o e
  generalize hY : X.comp scope cl N ⟨C, fp, s2, H2⟩ = Y
  have I3 : Inv Y [] (compS ix σ) H2 { s2 with heap := h3, toks := s2.toks + ([] : List (Str × Value)).length } := hY ▸ k.enter I2 f2' leC old hns
  have fpY : ∀ {H' : Hp}, (∀ b ∈ fp, H' b = none) → ∀ b ∈ fp, FpOk Y [] H' b := fun {H'} hn b hb => by
    subst hY
    obtain ⟨_, a1, a2, a3, a4, a5⟩ := f2 b hb
    refine ⟨hn b hb, Nat.ne_of_lt (Nat.lt_of_lt_of_le (lt2 b hb) leC), fun z => ?_, .inl hb, fun x c e => a4 x c (k.sub.get e), fun p hp => by cases hp⟩
    rcases List.mem_cons.mp (I2.stkSub b z) with e | e
    · exact a1 e
    · exact a2 e
  have nDs : D ∉ frs X.stack := fun z => by
    rcases List.mem_cons.mp (I2.stkSub D z) with e | e
    · exact absurd I2.lt (by rw [← e]; exact Nat.not_lt.mpr leD)
    · exact I2.nofs leD e
  have cD : ∀ x c, cl.lookup x = some c → c ≠ D := fun x c e z => by
    obtain ⟨v, o, ho, _⟩ := I2.cell x c (k.sub.get e)
    exact absurd (Heap.lt_size ho) (by rw [z]; exact Nat.not_lt.mpr leD)
  have prgY : Y.prog = X.prog := by rw [← hY]
  have wY : Y.w = X.w := by rw [← hY]
  have KY : Y.K = X.K := by rw [← hY]
  have AY : Y.A = X.A := by rw [← hY]
  have cY : Y.calm = true := by rw [← hY]; exact hc
  have xeY : Y.xe = fun _ _ => False := by rw [← hY]
  have envY : Y.env = compEnvC scope cl C X.env := by rw [← hY]
  have pinD : ∀ {σ' : St} {H' : Hp} {s' : Shared} {us : Array Value} {n0 : Nat}, Inv Y [] σ' H' s' → H' D = none → s'.heap.PlainList D us → s'.heap.get? D = some { cls := .type "list", data := .seq us n0 } → Inv Y [(D, { cls := .type "list", data := .seq us n0 })] σ' H' s' := fun I' hn _ e => I'.pins_of fun p hp => by
    have e1 : p = (D, _) := List.mem_singleton.mp hp
    subst e1
    exact ⟨e, hn, by rw [← hY]; exact hDC, by rw [← hY]; exact nDs, fun v z => by cases z⟩
  have fpD : ∀ {H' : Hp}, (∀ b ∈ fp, H' b = none) → ∀ (o : Obj), ∀ b ∈ fp, FpOk Y [(D, o)] H' b := fun {H'} hn o b hb => by
    obtain ⟨a0, a1, a2, a3, a4, a5⟩ := fpY hn b hb
    refine ⟨a0, a1, a2, a3, a4, fun p hp => ?_⟩
    rcases List.mem_append.mp hp with z | z
    · exact a5 p (List.mem_append_left _ z)
    · have e1 : p = (D, o) := List.mem_singleton.mp z
      subst e1
      exact fun z => by
        have z' : D = b := z
        rw [z'] at nD
        exact nD hb
  have leave : ∀ {s' : Shared} {H' : Hp} {ys : List V} {us : Array Value}, Inv Y [] (compS ix σ) H' s' → H' D = none → s'.heap.PlainList D us → Vals ys us.toList → ys.length ≤ sizeLine → Z ys H' → compPost (model X.prog X.w) X.A X.xe use Q0 (.ref D) C (.ok .next) s' := fun {s' H' ys us} I' hn hpl rv hl z => by
    subst hY
    have I4 : Inv X pins σ H' s' := I2.call' (ch := fp) I'.os I'.base I'.hok I'.bare fun b hb => let ⟨_, a1, _, a3, a4, a5⟩ := f2 b hb; ⟨a3, a1, a4, a5⟩
    have fD := I2.fpOk (H' := H') leD hn
    have ok : ObjOk X.prog X.w (upd H' D (.lst ys)) s'.heap D (.lst ys) := by
      obtain ⟨n, e⟩ := hpl
      exact ⟨hl, us.toList, n, rv, by simpa using e⟩
    have I5 : Inv X pins σ (upd H' D (.lst ys)) s' := by
      refine I4.track hn ?_ fD.2.2.2.2.2 fD.2.1 fD.2.2.2.2.1 ok
      refine Heap.get?_none_of_le (Nat.le_trans I2.sz leD)
    obtain ⟨m, hm, _⟩ := I'.loc
    have hC' : upd H' D (.lst ys) C = none := by
      rw [zK (Ne.symm hDC)]
      exact I'.free
    exact fin D C s' H' ys m I5 (I2.fpOk leC hC') hm hn z
  have loop : codeAny (model X.prog X.w) X.A (.compLoop (.ListComp elt [⟨tg, iter, ifs, 0⟩] scope pos) 0 (.ref it) (.ref D) (compEnvC scope cl C X.env))
      (compPost (model X.prog X.w) X.A X.xe use Q0 (.ref D) C) { s2 with heap := h3, toks := s2.toks + ([] : List (Str × Value)).length } := by
    refine comp_loop (fun n s' => ∃ i H' ys us, Inv Y [] (compS ix σ) H' s' ∧ tn i s'.heap ∧ (∀ b ∈ fp, H' b = none) ∧ H' D = none ∧ s'.heap.PlainList D us ∧ Vals ys us.toList ∧ W i n ys H') ?_ m0
      ⟨0, H2, [], #[], I3, st3, fun b hb => (f2 b hb).1, I2.hok.fresh leD, lst0, .nil, w0⟩
    rintro n s4 ⟨i, H4, ys, us, I4, st4, fr4, d4, l4, v4, w4⟩ E
    obtain ⟨hl, step4⟩ := step i n ys H4 w4
    rcases step4 with ⟨stop, z⟩ | ⟨go, turn⟩
    · obtain ⟨n0, e0⟩ := l4
      have I4' := pinD I4 d4 ⟨n0, e0⟩ e0
      have q := T.done Y prgY wY KY cY i _ s4 (compS ix σ) H4 E I4' (fpD fr4 _) st4 stop
      rw [AY] at q
      refine thn q fun r s5 q5 => .inl ⟨q5.1, ?_⟩
      have e5 := (q5.2.pin _ (List.mem_append_right _ List.mem_cons_self)).1
      exact leave (q5.2.pins_of fun p hp => by cases hp) d4 ⟨n0, e5⟩ v4 (Nat.le_of_lt hl) z
    · obtain ⟨n0, e0⟩ := l4
      have I4' := pinD I4 d4 ⟨n0, e0⟩ e0
      have q := T.item Y prgY wY KY cY i _ s4 (compS ix σ) H4 E I4' (fpD fr4 _) st4 go
      rw [AY] at q
      refine thn q fun r s5 q5 => .inr ?_
      obtain ⟨v, er, q5⟩ := q5
      refine ⟨v, er, thn q5 fun _ s6 q6 => ?_⟩
      obtain ⟨x, H6, I6, r6, y6, st6, fr6⟩ := q6
      have I6' := I6.pinned (fpD fr6 _) (T.obj _ _ st6)
      have g6 := ho ⟨C, fp, s2, H2⟩ σ x H6 _ (turn ⟨C, fp, s2, H2⟩ x H6 y6)
      have inD : ∀ {l : List (Addr × Obj)}, (D, ({ cls := .type "list", data := .seq us n0 } : Obj)) ∈ Y.pn ++ ([(D, { cls := .type "list", data := .seq us n0 })] ++ l) := List.mem_append_right _ (List.mem_append_left _ List.mem_cons_self)
      have inF : ∀ {b : Addr} {o : Obj}, b ∈ fp → s6.heap.get? b = some o → (b, o) ∈ Y.pn ++ ([(D, ({ cls := .type "list", data := .seq us n0 } : Obj))] ++ pinsAt fp s6.heap) := fun hb e => List.mem_append_right _ (List.mem_append_right _ (YX hb e))
      have back : ∀ {σ7 : St} {H7 : Hp} {s7 : Shared}, Inv Y ([(D, { cls := .type "list", data := .seq us n0 })] ++ pinsAt fp s6.heap) σ7 H7 s7 → LeS (compS ix σ) σ7 → Inv Y [] (compS ix σ) H7 s7 ∧ tn (i + 1) s7.heap ∧ (∀ b ∈ fp, H7 b = none) ∧ H7 D = none ∧ s7.heap.PlainList D us := fun {σ7 H7 s7} I7 le => by
        refine ⟨(I7.weak le.len fun i v e => le.get e).pins_of (fun p hp => (by cases hp)), T.keep _ _ _ st6 fun b hb o e => (I7.pin _ (inF hb e)).1, fun b hb => ?_, (I7.pin _ inD).2.1, n0, (I7.pin _ inD).1⟩
        obtain ⟨o, e, _⟩ := T.obj _ _ st6 b hb
        exact (I7.pin _ (inF hb e)).2.1
      have hgY := hg ⟨C, fp, s2, H2⟩
      have htY := ht ⟨C, fp, s2, H2⟩
      have heY := he ⟨C, fp, s2, H2⟩
      rw [hY] at hgY htY heY
      have q7 := hgY _ s6 _ H6 x v _ I6' r6 g6
      rw [prgY, wY, AY, xeY, envY] at q7
      refine wpAny_mono q7 (fun _ s7 q7 => ?_) fun _ _ z => z.elim
      obtain ⟨σ7, H7, I7, le7, t7⟩ := q7
      have q8 := htY _ s7 σ7 H7 _ I7 t7
      rw [prgY, wY, AY, xeY, envY] at q8
      refine wpAny_mono q8 (fun ok s8 q8 => ?_) fun _ _ z => z.elim
      obtain ⟨H8, I8, q8⟩ := q8
      rcases q8 with ⟨eo, q8⟩ | ⟨eo, m', hm, w8⟩
      · refine .inl ⟨eo, ?_⟩
        have q9 := heY _ s8 σ7 H8 _ I8 q8
        rw [prgY, wY, AY, xeY, envY] at q9
        refine wpAny_mono q9 (fun u s9 q9 => ?_) fun _ _ z => z.elim
        obtain ⟨y, H9, I9, r9, m', hm, w9⟩ := q9
        obtain ⟨J9, t9, f9, d9, l9⟩ := back I9 le7
        have hsz : us.size ≤ sizeLine := by
          have e1 : ys.length = us.toList.length := v4.length
          have e2 : us.toList.length = us.size := by simp
          exact Nat.le_of_lt (e2 ▸ e1 ▸ hl)
        refine wpAny_list_append_plain l9 (fun h10 l10 sb => ?_) hsz
        have J10 : Inv Y [] (compS ix σ) H9 { s9 with heap := h10 } := J9.turned (t' := s9.toks) (fun b o hb e => (sb.2 b hb).trans e) d9 (by rw [← hY]; exact hDC) (.inr (by rw [← hY]; exact leD)) (fun x c e => by rw [← hY] at e; exact cD x c e) fun p hp => by rw [← hY] at hp; cases hp
        refine ⟨m', hm, i + 1, H9, ys ++ [y], us.push u, J10, T.keep _ _ _ t9 fun b hb o e => (sb.2 b fun z => nD (z ▸ hb)).trans e, f9, d9, l10, ?_, w9⟩
        rw [Array.toList_push]
        exact v4.append (.cons r9 .nil)
      · refine .inr ⟨eo, m', hm, i + 1, H8, ys, us, ?_⟩
        obtain ⟨J8, t8, f8, d8, l8⟩ := back I8 le7
        exact ⟨J8, t8, f8, d8, l8, v4, w8⟩
  exact codeAny_compStart_list loop (T.self _ 0 _ _ _ st3 loop)
def closL (scope : Scope) (env : Env) : List (Str × Addr) := scope.names.foldl (fun cs p => if p.2 == .free then (p.1, (env.cells.lookup p.1).getD 0) :: cs else cs) []
theorem ne_loc {k : Option NameKind} (h : k = some .cell) : k ≠ some .local := fun z => by rw [h] at z; cases z
theorem kj {X : Cx} {scope : Scope} {N : List Str} {ix : List (Option Nat)} {elt tg iter : Expr} {ifs : List Expr} {pos : Pos} {wi : TI} {g : CP → TG} {tt : CP → TT} {te : CP → TE}
    (k : CompOk X scope (closL scope X.env) N ix) (hc : X.calm = true) (hi : PI X tg iter wi) (hg : ∀ c, PG (X.comp scope (closL scope X.env) N c) tg (g c)) (ho : ∀ c σ, GOk (g c) (compS ix σ)) (ht : ∀ c, PIfs (X.comp scope (closL scope X.env) N c) ifs (tt c)) (he : ∀ c, PE (X.comp scope (closL scope X.env) N c) elt (te c))
    (hs : ∀ x, foldedSetIterable iter X.env x = pure x := by intro _; rfl) : PE X (.ListComp elt [⟨tg, iter, ifs, 0⟩] scope pos) (tComp ix wi g tt te) := by
  intro pins s σ H Q I h
  rw [eval_ListComp]
  refine comp_run (use := none) k hc hi hg ho ht he hs I h fun D C s' H' ys m I' fC hm hn z => ?_
  refine ⟨m, hm, fun h' sb => ⟨.ref D, _, I'.turned (t' := s'.toks) (fun b o hb e => (sb.2 b hb).trans e) fC.1 fC.2.1 fC.2.2.2.1 fC.2.2.2.2.1 fC.2.2.2.2.2, rfl, z D hn⟩⟩
theorem Z4 {X : Cx} {scope : Scope} {N : List Str} {ix : List (Option Nat)} {elt tg iter : Expr} {ifs : List Expr} {pos ps pn : Pos} {wi : TI} {g : CP → TG} {tt : CP → TT} {te : CP → TE} {i : Nat} {x : Str}
    (hN : X.N.Nodup) (hx : X.N[i]? = some x) (hl : Loc X.env.scope x) (k : CompOk X scope (closL scope X.env) N ix) (hc : X.calm = true) (hi : PI X tg iter wi) (hg : ∀ c, PG (X.comp scope (closL scope X.env) N c) tg (g c)) (ho : ∀ c σ, GOk (g c) (compS ix σ)) (ht : ∀ c, PIfs (X.comp scope (closL scope X.env) N c) ifs (tt c))
    (he : ∀ c, PE (X.comp scope (closL scope X.env) N c) elt (te c)) (hsw : swapsWith (.ListComp elt [⟨tg, iter, ifs, 0⟩] scope pos) (some (.Name x pn)) ps.line X.env = pure true := by rfl)
    (hs : ∀ x, foldedSetIterable iter X.env x = pure x := by intro _; rfl) (hf : X.fn x = true ∨ X.env.scope.names.lookup x = some .local := by first | exact .inl rfl | exact .inr rfl | assumption) :
    PS X (.Assign [.Name x pn] (.ListComp elt [⟨tg, iter, ifs, 0⟩] scope pos) ps) (sComp ix i wi g tt te) := by
  intro pins s σ H D I h
  rw [exec_Assign_Name_used _ _ _ _ hsw]
  refine wpAny_bind (wpAny_standAt (wpAny_bind ?_))
  show wpAny _ _ (comprehension (.ListComp elt [⟨tg, iter, ifs, 0⟩] scope pos) scope X.env _ (newList []) false (eval iter X.env) (some (assign (.Name x pn) X.env)) >>= fun _ => _) _ _ s
  refine wpAny_bind (thn (comp_run (use := some (assign (.Name x pn) X.env)) (Q0 := fun _ s' => SP X pins D .next s') k hc hi hg ho ht he hs I h fun p C s' H' ys m I' fC hm hn z => ?_) fun _ s' q => wpAny_pure (wpAny_pure q))
  show wpAny _ _ (assign (.Name x pn) X.env (.ref p)) _ _ s'
  refine wpAny_assign_Name (store_ok2 (v := .ref p) I' hN hx hl rfl (fun s3 I3 same => ?_) hf)
  obtain ⟨b, sb, hb⟩ := same
  have nb : C ≠ b := by
    rcases hb with e | e
    · rw [e]; exact fC.2.1
    · exact Ne.symm (fC.2.2.2.2.1 x b e)
  refine ⟨m, hm.sameBut sb nb, fun h' sb' => ⟨_, _, I3.turned (t' := s3.toks) (fun c o hc e => (sb'.2 c hc).trans e) fC.1 fC.2.1 fC.2.2.2.1 fC.2.2.2.2.1 fC.2.2.2.2.2, z p hn⟩⟩
def CW (n : Nat) (Pv : Nat → List V → Hp → Prop) (i m : Nat) (ys : List V) (H : Hp) : Prop := m + i = n ∧ ys.length ≤ i ∧ Pv i ys H
theorem yk {J : It} {n : Nat} {ix : List (Option Nat)} {g : CP → TG} {tt : CP → TT} {te : CP → TE} {σ : St} {H1 : Hp} {Z : List V → Hp → Prop} (Pv : Nat → List V → Hp → Prop) (h0 : Pv 0 [] H1) (hn : n < sizeLine)
    (stop : ∀ ys H, Pv n ys H → J.stop n H ∧ Z ys H) (go : ∀ i ys H, i < n → Pv i ys H → J.go i H)
    (step : ∀ i m ys H c x H', i < n → Pv i ys H → J.yld i H x H' → (∀ y H4, Pv (i + 1) (ys ++ [y]) H4 → ∃ m', m' < m ∧ CW n Pv (i + 1) m' (ys ++ [y]) H4) → (∀ H4, Pv (i + 1) ys H4 → ∃ m', m' < m ∧ CW n Pv (i + 1) m' ys H4) → g c x (compS ix σ) H' fun σ2 H2 => tt c σ2 H2 fun b H3 => (b = true ∧ te c σ2 H3 fun y H4 => ∃ m', m' < m ∧ CW n Pv (i + 1) m' (ys ++ [y]) H4) ∨ (b = false ∧ ∃ m', m' < m ∧ CW n Pv (i + 1) m' ys H3)) :
    ∃ W : Nat → Nat → List V → Hp → Prop, (∃ m, W 0 m [] H1) ∧ ∀ i m ys H, W i m ys H → ys.length < sizeLine ∧ ((J.stop i H ∧ Z ys H) ∨ (J.go i H ∧ ∀ c x H', J.yld i H x H' → g c x (compS ix σ) H' fun σ2 H2 => tt c σ2 H2 fun b H3 =>
        (b = true ∧ te c σ2 H3 fun y H4 => ∃ m', m' < m ∧ W (i + 1) m' (ys ++ [y]) H4) ∨ (b = false ∧ ∃ m', m' < m ∧ W (i + 1) m' ys H3))) := by
  refine ⟨CW n Pv, ⟨n, by omega, Nat.le_refl _, h0⟩, ?_⟩
  rintro i m ys H ⟨hm, hl, p⟩
  refine ⟨by omega, ?_⟩
  by_cases hi : i < n
  · refine .inr ⟨go i ys H hi p, fun c x H' hy => step i m ys H c x H' hi p hy (fun y H4 q => ⟨m - 1, by omega, by omega, ?_, q⟩) fun H4 q => ⟨m - 1, by omega, by omega, by omega, q⟩⟩
    rw [List.length_append, List.length_singleton]
    omega
  · have e : i = n := by omega
    subst e
    exact .inl (stop ys H p)
theorem Z6 {J : It} {n : Nat} {g : TG} {tb : TS} {D : Ends} {σ : St} {H : Hp} (Pv : Nat → St → Hp → Prop) (h0 : Pv 0 σ H) (stop : ∀ σ H, Pv n σ H → J.stop n H ∧ D.nx σ H) (go : ∀ i σ H, i < n → Pv i σ H → J.go i H)
    (step : ∀ i σ H x H', i < n → Pv i σ H → J.yld i H x H' → g x σ H' fun σ2 H2 => tb { D with nx := Pv (i + 1), ct := Pv (i + 1), bk := D.nx } σ2 H2) :
    ∃ W : Nat → Nat → St → Hp → Prop, (∃ m, W 0 m σ H) ∧ ∀ i m σ H, W i m σ H → (J.stop i H ∧ D.nx σ H) ∨ (J.go i H ∧ ∃ N : St → Hp → Prop, (∀ σ' H', N σ' H' → ∃ m', m' < m ∧ W (i + 1) m' σ' H') ∧ ∀ x H', J.yld i H x H' → g x σ H' fun σ2 H2 => tb { D with nx := N, ct := N, bk := D.nx } σ2 H2) := by
  refine ⟨fun i m σ H => m + i = n ∧ Pv i σ H, ⟨n, by omega, h0⟩, ?_⟩
  rintro i m σ H ⟨hm, p⟩
  by_cases hi : i < n
  · exact .inr ⟨go i σ H hi p, Pv (i + 1), fun σ' H' q => ⟨m - 1, by omega, by omega, q⟩, fun x H' y => step i σ H x H' hi p y⟩
  · have e : i = n := by omega
    subst e
    exact .inl (stop σ H p)
end L2
namespace L2
open PySem PySem.Spec PyProof.Rows BP
theorem boot_all : bootBuiltins "all" = some (.builtin "all") := PyProof.Rows.boot_all
theorem boot_any : bootBuiltins "any" = some (.builtin "any") := by decide +kernel
theorem boot_enumerate : bootBuiltins "enumerate" = some (.type "enumerate") := PyProof.Rows.boot_enumerate
theorem range_all (bs : List Bool) (tr : Nat → Bool) (h : ∀ i b, bs[i]? = some b → tr i = b) : (List.range bs.length).all tr = bs.all id := by
  induction bs generalizing tr with
  | nil => rfl
  | cons b r ih =>
    have q := ih (fun i => tr (i + 1)) fun i c e => h (i + 1) c (by simpa using e)
    rw [List.length_cons, List.range_succ_eq_map, List.all_cons, List.all_map, List.all_cons, h 0 b rfl]
    exact congrArg (b && ·) q
theorem range_any (bs : List Bool) (tr : Nat → Bool) (h : ∀ i b, bs[i]? = some b → tr i = b) : (List.range bs.length).any tr = bs.any id := by
  induction bs generalizing tr with
  | nil => rfl
  | cons b r ih =>
    have q := ih (fun i => tr (i + 1)) fun i c e => h (i + 1) c (by simpa using e)
    rw [List.length_cons, List.range_succ_eq_map, List.any_cons, List.any_map, List.any_cons, h 0 b rfl]
    exact congrArg (b || ·) q
theorem vals_bl : ∀ {bs : List Bool} {us : List Value}, Vals (bs.map V.bl) us → us = bs.map Value.bool
  | [], _, .nil => rfl
  | b :: r, _, .cons h t => by
    have e : _ = Value.bool b := h
    rw [e, vals_bl t]; rfl
section
variable {X : Cx}
theorem bools_walk {pins : List (Addr × Obj)} {σ : St} {H : Hp} {s : Shared} {p : Addr} {bs : List Bool} (hc : X.calm = true) (I : Inv X pins σ H s) (hq : SqL X.K H p (bs.map V.bl)) {R : (Nat → Bool) → Shared → Prop}
    (fin : ∀ (tr : Nat → Bool) (h' : Heap) (tk : Nat), (∀ i b, bs[i]? = some b → tr i = b) → Inv X pins σ H { s with heap := h', toks := tk } → R tr { s with heap := h', toks := tk }) {E : Value → Shared → Prop} :
    wpAny (model X.prog X.w) X.A.in1 (pyIter (.ref p)) (fun it s2 => ∃ I fp wr n P St tr, it = .ref I ∧ Walks X.prog X.w X.A.in1 I fp wr n P St ∧ St 0 s2.heap ∧ TruthOf X.prog X.w X.A.in1 P tr ∧ n = bs.length ∧ ∀ h' tk, (∀ b o, b ∉ wr → s2.heap.get? b = some o → h'.get? b = some o) → R tr { s2 with heap := h', toks := tk }) E s := by
  obtain ⟨its, rv, pl, hz⟩ := I.list hq
  have el := vals_bl rv
  refine wpAny_pyIter_list pl.isList ?_
  have ne : p ≠ s.heap.objs.size := Nat.ne_of_lt pl.lt
  refine ⟨s.heap.objs.size, _, _, _, _, _, fun i => bs.getD i true, rfl, Walks.list (A := X.A.in1) (I.ok.hd hc) _ p ne its.toArray, ⟨⟨_, Heap.get?_push_size _ rfl, rfl, rfl⟩, ?_⟩, fun i v s1 Q E' hv q => ?_, ?_, fun h' tk k => ?_⟩
  · obtain ⟨o, e, r⟩ := pl.isList
    exact ⟨o, Heap.get?_push_of_some _ e, r⟩
  · have hv' : its[i]? = some v := by simpa using hv
    rw [el, List.getElem?_map] at hv'
    cases hb : bs[i]? with
    | none => rw [hb] at hv'; cases hv'
    | some b =>
      rw [hb] at hv'
      have e : Value.bool b = v := Option.some.inj hv'
      subst e
      have e2 : bs.getD i true = b := by simp [List.getD, hb]
      have q : Q (bs.getD i true) s1 := q
      rw [e2] at q
      exact wpAny_truthy_bool q
  · rw [el]; simp
  · refine fin _ h' tk (fun i b e => by simp [List.getD, e]) (I.kept fun b u e => k b u (fun z => ?_) (Heap.get?_push_of_some _ e))
    have e1 : b = s.heap.objs.size := by simpa using z
    exact absurd (Heap.lt_size e) (by rw [e1]; exact Nat.lt_irrefl _)
theorem call_all (hc : X.calm = true) : CallR X (.builtin "all") (fun xs H Q => ∃ (p : Addr) (bs : List Bool), xs = [.ref p] ∧ SqL X.K H p (bs.map V.bl) ∧ Q (.bl (bs.all id)) H) := by
  intro pins s σ H xs us Q I r h
  obtain ⟨p, bs, rfl, hq, q⟩ := h
  obtain ⟨u, rfl, rx⟩ := vals1 r
  cases rx
  refine call_all_walk (thn (bools_walk hc I hq (R := fun tr s' => EP X pins σ Q (.bool ((List.range bs.length).all tr)) s') fun tr h' tk e I' => ⟨.bl (bs.all id), H, I', by rw [range_all bs tr e]; rfl, q⟩) ?_)
  rintro it s2 ⟨I', fp, wr, n, P, St, tr, e1, e2, e3, e4, rfl, e6⟩
  exact ⟨I', fp, wr, _, P, St, tr, e1, e2, e3, e4, e6⟩
theorem call_any (hc : X.calm = true) : CallR X (.builtin "any") (fun xs H Q => ∃ (p : Addr) (bs : List Bool), xs = [.ref p] ∧ SqL X.K H p (bs.map V.bl) ∧ Q (.bl (bs.any id)) H) := by
  intro pins s σ H xs us Q I r h
  obtain ⟨p, bs, rfl, hq, q⟩ := h
  obtain ⟨u, rfl, rx⟩ := vals1 r
  cases rx
  refine call_any_walk (thn (bools_walk hc I hq (R := fun tr s' => EP X pins σ Q (.bool ((List.range bs.length).any tr)) s') fun tr h' tk e I' => ⟨.bl (bs.any id), H, I', by rw [range_any bs tr e]; rfl, q⟩) ?_)
  rintro it s2 ⟨I', fp, wr, n, P, St, tr, e1, e2, e3, e4, rfl, e6⟩
  exact ⟨I', fp, wr, _, P, St, tr, e1, e2, e3, e4, e6⟩
end
structure ZipSt (z TI TO i1 i2 a b : Addr) (i : Nat) (h : Heap) : Prop where
  nd : [z, TI, TO, i1, i2].Nodup
  zip : IsZip h z TI TO .none
  its : IsPair h TI (.ref i1) (.ref i2)
  out : ∃ x y, IsPair h TO x y
  one : h.IsListIter i1 a i
  two : h.IsListIter i2 b i
theorem Inv.turnedAll {X : Cx} {pins : List (Addr × Obj)} {σ : St} {H : Hp} {s : Shared} {h' : Heap} {t' : Nat} {fp : List Addr} (I : Inv X pins σ H s) (hf : ∀ b ∈ fp, FpOk X pins H b)
    (k : ∀ b o, b ∉ fp → s.heap.get? b = some o → h'.get? b = some o) : Inv X pins σ H { s with heap := h', toks := t' } := by
  have nf : ∀ b u, H b = some u → b ∉ fp := fun b u e z => by rw [(hf b z).1] at e; cases e
  refine I.step (g' := s.gens) (d' := s.drawn) (ch := fp) (fun b hb => ?_) (fun b o _ _ hc e _ => k b o hc e) (fun b o _ _ hc e _ => ⟨o.slots, k b o hc e⟩) (fun _ _ _ _ n => n)
    (fun b o hc e => ⟨o, k b o hc e⟩) (fun _ _ e => e) (fun _ _ _ e => e) (fun b ps e => ⟨#[], by rw [e]; simp⟩) (fun m hm => ?_) (fun b u e => ?_) I.bare
  · obtain ⟨_, a1, _, a3, a4, a5⟩ := hf b hb
    exact ⟨a3, a1, a4, a5⟩
  · obtain ⟨o, es, ep, ho, r⟩ := hm
    exact ⟨o, es, ep, k _ o (fun z => (hf _ z).2.1 rfl) ho, r⟩
  · refine (I.hok b u e).stay (fun c v hc q => k c v ?_ q) (fun _ q => q) fun _ _ q => q
    rcases hc with z | z
    · rw [z]; exact nf b u e
    · exact nf c _ z
theorem pair_ok {P : Program} {w : World} {H : Hp} {h : Heap} {p : Addr} {x y : V} {u v : Value} (e : IsPair h p u v) (rx : RelV x u) (ry : RelV y v) : ObjOk P w H h p (.tup [x, y]) :=
  ⟨(show 2 ≤ sizeLine by decide), [u, v], .cons rx (.cons ry .nil), _, e, rfl, _, rfl⟩
def Ite (K : PySem.W.Frag) (a : Addr) : It :=
  ⟨fun i H => ∃ xs x, SqL K H a xs ∧ xs[i]? = some x, fun i H v H' => ∃ p x, H p = none ∧ v = .ref p ∧ H' = upd H p (.tup [.int i, x]) ∧ ∀ xs, SqL K H a xs → xs[i]? = some x, fun i H => ∃ xs, SqL K H a xs ∧ xs.length ≤ i⟩
structure EnumSt (e it a : Addr) (i : Nat) (h : Heap) : Prop where
  ne : e ≠ it
  enm : ∃ old, IsEnum h e it i old
  one : h.IsListIter it a i
theorem turn_enum {P : Program} {w : World} {K : PySem.W.Frag} {es : List Expr} {k1 : Nat} {pt : Pos} (e it a : Addr) : Turn P w K (.Tuple es k1 pt) (Ite K a) [e, it] e (EnumSt e it a) where
  mem := by simp
  obj := fun i h t c hc => by
    obtain ⟨old, e0⟩ := t.enm
    obtain ⟨o1, e1, c1, d1⟩ := t.one
    simp only [List.mem_cons, List.not_mem_nil, or_false] at hc
    rcases hc with rfl | rfl
    · exact ⟨_, e0, fun v q => by cases q⟩
    · exact ⟨_, e1, fun v q => by rw [d1] at q; cases q⟩
  keep := fun i h h' t k => by
    obtain ⟨old, e0⟩ := t.enm
    exact ⟨t.ne, ⟨old, k e (by simp) _ e0⟩, t.one.at fun o q => k it (by simp) o q⟩
  item := by
    intro X hP hw hK hc i pins s σ H E I hf t hg
    subst hP hw hK
    obtain ⟨xs, x, qa, hx⟩ := hg
    obtain ⟨as, ra, pa, _⟩ := I.list qa
    obtain ⟨u, hu, ru⟩ := ra.get hx
    obtain ⟨old, e0⟩ := t.enm
    refine wpAny_pyNext_enum_item e0 t.one pa.isList (x := u) (by simpa using hu) t.ne fun h1 a1 a2 a3 a4 hk => ⟨_, rfl, ?_⟩
    refine wpAny_letOwnedTupleGo_enum (s := { s with heap := h1, toks := s.toks + 1 }) a1 fun h2 b1 sb => ?_
    have el : e < s.heap.objs.size := Heap.lt_size e0
    have il : it < s.heap.objs.size := by obtain ⟨_, q, _⟩ := t.one; exact Heap.lt_size q
    have kp : ∀ c o, c ∉ [e, it] → s.heap.get? c = some o → h2.get? c = some o := fun c o hc q => by
      simp only [List.mem_cons, List.not_mem_nil, or_false, not_or] at hc
      exact (sb.2 c hc.1).trans (hk c o hc.1 hc.2 q)
    have I1 : Inv X pins σ H { s with heap := h2, toks := s.toks + 1 } := I.turnedAll hf kp
    have np : H s.heap.objs.size = none := I.hok.fresh (Nat.le_refl _)
    have pr : IsPair h2 s.heap.objs.size (.int i s.toks) u := (sb.2 _ (Nat.ne_of_gt el)).trans a3
    have I2 : Inv X pins σ (upd H s.heap.objs.size (.tup [.int i, x])) { s with heap := h2, toks := s.toks + 1 } := by
      have fo := I.fpOk (H' := H) (Nat.le_refl _) np
      refine I1.track np ?_ fo.2.2.2.2.2 fo.2.1 fo.2.2.2.2.1 (pair_ok pr ⟨_, rfl⟩ ru)
      exact Heap.get?_none_of_le I.sz
    refine ⟨.ref s.heap.objs.size, _, I2, rfl, ⟨_, x, np, rfl, rfl, fun zs hz => by rw [I.list_inj hz qa]; exact hx⟩, ⟨t.ne, ⟨u, b1⟩, a2.at fun o q => (sb.2 it (Ne.symm t.ne)).trans q⟩, fun c hc => ?_⟩
    obtain ⟨c0, c1, _⟩ := hf c hc
    have ne : c ≠ s.heap.objs.size := fun q => by
      simp only [List.mem_cons, List.not_mem_nil, or_false] at hc
      rcases hc with h | h
      · rw [← h, q] at el
        exact Nat.lt_irrefl _ el
      · rw [← h, q] at il
        exact Nat.lt_irrefl _ il
    rw [zK ne]
    exact c0
  done := by
    intro X hP hw hK hc i pins s σ H E I hf t hg
    subst hP hw hK
    obtain ⟨xs, qa, hl⟩ := hg
    obtain ⟨as, ra, pa, _⟩ := I.list qa
    obtain ⟨old, e0⟩ := t.enm
    have l1 := ra.length
    refine wpAny_pyNext_enum_end (I.ok.hd hc) e0 t.one pa.isList (by simp; omega) fun h1 hk => ⟨rfl, ?_⟩
    refine I.turnedAll (t' := s.toks) hf fun c o hc q => ?_
    simp only [List.mem_cons, List.not_mem_nil, or_false, not_or] at hc
    exact hk c o hc.2 q
  self := fun A i s Q E t h => by
    obtain ⟨old, e0⟩ := t.enm
    exact wpAny_pyIter_enum e0 h
def iEnum (K : PySem.W.Frag) (ta : TA) : TI := fun σ H R => ta σ H fun vs H1 => ∃ a, vs = [.ref a] ∧ (∃ xs, SqL K H1 a xs) ∧ R (Ite K a) H1
theorem pi_enum {X : Cx} {es : List Expr} {k1 : Nat} {pt p pos : Pos} {e1 : Expr} {ta : TA} (hg : Gl X "enumerate") (hm : X.mg "enumerate" = none) (ha : PA X [e1] ta) (q1 : plainE e1 = true := by rfl) :
    PI X (.Tuple es k1 pt) (.Call (.Name "enumerate" p) [e1] [] pos) (iEnum X.K ta) := by
  intro pins s σ H R I h
  refine Call_ (ld_blt I hg hm boot_enumerate (PyProof.Rows.callWith_type1 (thn (ha pos pins s σ H _ I h) fun us s1 ⟨vs, H1, I1, r1, q⟩ => ?_) (qq q1 _ _) rfl))
  obtain ⟨a, rfl, ⟨xs, qa⟩, q⟩ := q
  obtain ⟨u, rfl, ra⟩ := vals1 r1
  cases ra
  obtain ⟨as, _, pa, _⟩ := I1.list qa
  refine call_enumerate_list pa.isList fun h2 z1 z2 z3 kp => ?_
  refine wpAny_pyIter_enum z1 ?_
  have I2 : Inv X pins σ H1 { s1 with heap := h2, toks := s1.toks } := I1.kept kp
  refine ⟨_, _, _, _, H1, rfl, I2, turn_enum _ _ a, ⟨Nat.succ_ne_self _, ⟨_, z1⟩, z2⟩, fun c hc => ?_, q⟩
  have hc' : s1.heap.objs.size ≤ c := by
    simp only [List.mem_cons, List.not_mem_nil, or_false] at hc
    rcases hc with h | h <;> rw [h] <;> first | exact Nat.le_refl _ | exact Nat.le_add_right _ _
  exact I1.fpOk hc' (I1.hok.fresh hc')
end L2
namespace L2
open PySem PySem.Spec PyProof.Rows BP
inductive DEq (K : PySem.W.Frag) (H : Hp) : Nat → V → V → Prop where
  | flat {n : Nat} {x : V} (h : flatV x = true) : DEq K H n x x
  | same {n : Nat} (a : Addr) : DEq K H n (.ref a) (.ref a)
  | tup {n : Nat} {a b : Addr} {xs ys : List V} (ha : SqT K H a xs) (hb : SqT K H b ys) (hl : xs.length = ys.length) (h : ∀ (j : Nat) (x y : V), xs[j]? = some x → ys[j]? = some y → DEq K H n x y) : DEq K H (n + 1) (.ref a) (.ref b)
  | lst {n : Nat} {a b : Addr} {xs ys : List V} (ha : SqL K H a xs) (hb : SqL K H b ys) (hl : xs.length = ys.length) (h : ∀ (j : Nat) (x y : V), xs[j]? = some x → ys[j]? = some y → DEq K H n x y) : DEq K H (n + 1) (.ref a) (.ref b)
theorem eqV_self {x : V} (h : flatV x = true) : eqV x x = true := by
  cases x <;> first | rfl | (unfold eqV; simp; done) | (exact absurd (show false = true from h) Bool.false_ne_true)
theorem all_true (n : Nat) : (List.range n).all (fun _ => true) = true := List.all_eq_true.mpr fun _ _ => rfl
section
variable {X : Cx} {pins : List (Addr × Obj)} {σ : St} {H : Hp} {s : Shared}
theorem DEq.at (I : Inv X pins σ H s) {n : Nat} {x y : V} (d : DEq X.K H n x y) : ∀ (A : Around) (u v : Value), RelV x u → RelV y v → A.units + n < cLine → SeqAt.EqAt A s u v true := by
  induction d with
  | flat h =>
    intro A u v rx ry _
    have q := eqAt_V (A := A) (s := s) rx ry h h
    rw [eqV_self h] at q
    exact q
  | same a =>
    intro A u v rx ry _
    cases rx
    cases ry
    exact SeqAt.EqAt.same _
  | @tup n a b xs ys ha hb hl h ih =>
    intro A u v rx ry hu
    cases rx
    cases ry
    by_cases hab : a = b
    · subst hab
      exact SeqAt.EqAt.same _
    · obtain ⟨its, r1, p1, _⟩ := I.tuple ha
      obtain ⟨its2, r2, p2, _⟩ := I.tuple hb
      have h1 := r1.length
      have h2 := r2.length
      have q := SeqAt.RcAt.tuples (A := A) (e := fun _ => true) p1 p2 (by omega) fun j g1 g2 => by
        obtain ⟨x, e1, q1⟩ := kY r1 j (by simpa using g1)
        obtain ⟨y, e2, q2⟩ := kY r2 j (by simpa using g2)
        exact ih j x y e1 e2 A.in1 _ _ (by simpa using q1) (by simpa using q2) (by show A.units + 1 + n < cLine; omega)
      have e : ((List.range (min its.toArray.size its2.toArray.size)).all (fun _ => true) && its.toArray.size == its2.toArray.size) = true := by
        rw [all_true, List.size_toArray, List.size_toArray, ← h1, ← h2, hl]
        simp
      rw [e] at q
      exact SeqAt.EqAt.of_refs hab q
  | @lst n a b xs ys ha hb hl h ih =>
    intro A u v rx ry hu
    cases rx
    cases ry
    by_cases hab : a = b
    · subst hab
      exact SeqAt.EqAt.same _
    · obtain ⟨its, r1, p1, _⟩ := I.list ha
      obtain ⟨its2, r2, p2, _⟩ := I.list hb
      have h1 := r1.length
      have h2 := r2.length
      have q := SeqAt.RcAt.lists (A := A) (e := fun _ => true) p1.isList p2.isList (by simp only [List.size_toArray]; omega) (by omega) fun j g1 g2 => by
        obtain ⟨x, e1, q1⟩ := kY r1 j (by simpa using g1)
        obtain ⟨y, e2, q2⟩ := kY r2 j (by simpa using g2)
        exact ih j x y e1 e2 A.in1 _ _ (by simpa using q1) (by simpa using q2) (by show A.units + 1 + n < cLine; omega)
      rw [all_true] at q
      exact SeqAt.EqAt.of_refs hab q
def Alike (K : PySem.W.Frag) (H : Hp) (xs ys : List V) : Prop := xs.length = ys.length ∧ ∀ (j : Nat) (x y : V), xs[j]? = some x → ys[j]? = some y → DEq K H 20 x y
def rEqD (K : PySem.W.Frag) (b : Bool) : R2 := fun x y H Q => ∃ p r xs ys, x = .ref p ∧ y = .ref r ∧ ((SqL K H p xs ∧ SqL K H r ys) ∨ (SqT K H p xs ∧ SqT K H r ys)) ∧ Alike K H xs ys ∧ Q (.bl b) H
theorem op_eqD (hu : X.A.units + 64 < cLine) : OpR X (compareOp .Eq) (rEqD X.K true) := by
  intro pins s σ H x y v u Q I rx ry h
  obtain ⟨p, r, xs, ys, rfl, rfl, hq, ⟨hl, al⟩, q⟩ := h
  cases rx
  cases ry
  rcases hq with ⟨ha, hb⟩ | ⟨ha, hb⟩
  · obtain ⟨its, r1, p1, _⟩ := I.list ha
    obtain ⟨its2, r2, p2, _⟩ := I.list hb
    have h1 := r1.length
    have h2 := r2.length
    refine SeqAt.eq_listAt (e := fun _ => true) p1.isList p2.isList (by simp only [List.size_toArray]; omega) (by omega) (fun j g1 g2 => ?_) ⟨.bl true, H, I, by rw [all_true]; rfl, q⟩
    obtain ⟨x, e1, q1⟩ := kY r1 j (by simpa using g1)
    obtain ⟨y, e2, q2⟩ := kY r2 j (by simpa using g2)
    exact (al j x y e1 e2).at I X.A.in1 _ _ (by simpa using q1) (by simpa using q2) (by show X.A.units + 1 + 20 < cLine; omega)
  · obtain ⟨its, r1, p1, _⟩ := I.tuple ha
    obtain ⟨its2, r2, p2, _⟩ := I.tuple hb
    have h1 := r1.length
    have h2 := r2.length
    refine SeqAt.eq_tupleAt (e := fun _ => true) p1 p2 (by omega) (fun j g1 g2 => ?_) ⟨.bl true, H, I, ?_, q⟩
    · obtain ⟨x, e1, q1⟩ := kY r1 j (by simpa using g1)
      obtain ⟨y, e2, q2⟩ := kY r2 j (by simpa using g2)
      exact (al j x y e1 e2).at I X.A.in1 _ _ (by simpa using q1) (by simpa using q2) (by show X.A.units + 1 + 20 < cLine; omega)
    · rw [all_true, List.size_toArray, List.size_toArray, ← h1, ← h2, hl]
      simp [RelV]
end
end L2
namespace L2
open PySem PySem.Spec PyProof.Rows BP
section
variable {X : Cx}
end
end L2
namespace L2
open PySem PySem.Spec PyProof.Rows BP
section
variable {X : Cx}
end
end L2
namespace L2
open PySem PySem.Spec PyProof.Rows BP
section
variable {X : Cx} {pins : List (Addr × Obj)} {σ : St} {H : Hp} {s : Shared}
end
end L2
namespace BP
end BP
namespace L2
open PySem PySem.Spec PyProof.Rows BP
def RngAt (p : Addr) (n : Nat) (h : Heap) : Prop := ∃ t u v, IsRange h p 0 n 1 t u v
theorem boot_range : bootBuiltins "range" = some (.type "range") := PyProof.Rows.boot_range
theorem boot_divmod : bootBuiltins "divmod" = some (.builtin "divmod") := PyProof.Rows.boot_divmod
theorem boot_min : bootBuiltins "min" = some (.builtin "min") := PyProof.Rows.boot_min
theorem boot_set : bootBuiltins "set" = some (.type "set") := PyProof.Rows.boot_set
section
variable {X : Cx}
theorem call_range1 : CallR X (.type "range") (fun xs H Q => ∃ n : Nat, xs = [.int n] ∧ ∀ p, H p = none → Q (.ref p) (upd H p (.ext (RngAt p n)))) := by
  intro pins s σ H xs us Q I r h
  obtain ⟨n, rfl, q⟩ := h
  obtain ⟨u, rfl, t, rfl⟩ := vals1 r
  refine call_range_1 ⟨.ref s.heap.objs.size, _, I.laid (a := s.heap.objs.size) (o := .ext (RngAt s.heap.objs.size n)) (t' := s.toks + 1 + 1) (fun b o e => Heap.get?_push_of_some _ e) (Nat.le_refl _) ?_, rfl, q _ (I.hok.fresh (Nat.le_refl _))⟩
  exact ⟨⟨_, _, _, IsRange.new _ _ _ _ _ _ _⟩, ⟨_, Heap.get?_push_size _ rfl⟩, fun h1 h2 ⟨t, u, v, e⟩ k => ⟨t, u, v, k _ e⟩⟩
theorem vals_of_get : ∀ {xs : List V} {us : List Value}, xs.length = us.length → (∀ (j : Nat) (x : V) (u : Value), xs[j]? = some x → us[j]? = some u → RelV x u) → Vals xs us
  | [], [], _, _ => .nil
  | x :: xs, u :: us, hl, h => .cons (h 0 x u rfl rfl) (vals_of_get (by simpa using hl) fun j y v e1 e2 => h (j + 1) y v (by simpa using e1) (by simpa using e2))
  | [], _ :: _, hl, _ => by simp at hl
  | _ :: _, [], hl, _ => by simp at hl
theorem call_list_rng (hc : X.calm = true) : CallR X (.type "list") (fun xs H Q => ∃ (p : Addr) (n : Nat), xs = [.ref p] ∧ H p = some (.ext (RngAt p n)) ∧ n ≤ 1000 ∧ ∀ l, H l = none → Q (.ref l) (upd H l (.lst ((List.range n).map fun k : Nat => V.int (k : Int))))) := by
  intro pins s σ H xs us Q I r h
  obtain ⟨p, n, rfl, hp, small, q⟩ := h
  obtain ⟨u, rfl, rx⟩ := vals1 r
  cases rx
  obtain ⟨⟨t, u, v, e⟩, _, _⟩ := (show ObjOk X.prog X.w H s.heap p (.ext (RngAt p n)) from I.hok p _ hp)
  refine call_list_range (n := n) (I.ok.hd hc) e (small_one (by omega) (by omega) (by omega) (by omega)) (by rw [rangeSize_one]; split <;> omega) (by omega) fun h' tk acc' c' kp e' its => ?_
  obtain ⟨i1, i2⟩ := its
  have rv : Vals ((List.range n).map fun k : Nat => V.int (k : Int)) acc'.toList := by
    refine vals_of_get (by simp [i1]) fun j x u e1 e2 => ?_
    obtain ⟨t, rfl⟩ := i2 j u (by simpa using e2)
    have hj : j < n := by
      have := (List.getElem?_eq_some_iff.mp e1).1
      simpa using this
    have ex : V.int (j : Int) = x := by simpa [hj] using e1
    subst ex
    exact ⟨t, by simp⟩
  refine ⟨.ref s.heap.objs.size, _, I.laid (t' := tk) kp (Nat.le_refl _) (show ObjOk X.prog X.w _ h' _ (.lst _) from ⟨?_, acc'.toList, c', rv, by simpa using e'⟩), rfl, q _ (I.hok.fresh (Nat.le_refl _))⟩
  have hs : sizeLine = 16777216 := sizeLine_eq
  simp; omega
theorem ints_are : ∀ {ns : List Int} {us : List Value}, Vals (ns.map V.int) us → PyProof.Rows.IntsAre us ns
  | [], _, .nil => by constructor
  | n :: ns, _, .cons h t => by
    obtain ⟨k, rfl⟩ := h
    constructor
    exact ints_are t
theorem dedup_nodup : ∀ (xs acc : List Int), (acc ++ xs).Nodup → xs.foldl step_dedup acc = acc ++ xs
  | [], acc, _ => by simp
  | x :: xs, acc, h => by
    have hx : x ∉ acc := fun z => by
      rw [List.nodup_append] at h
      exact h.2.2 x z x List.mem_cons_self rfl
    have e : step_dedup acc x = acc ++ [x] := by
      unfold step_dedup
      simp [hx]
    rw [List.foldl_cons, e, dedup_nodup xs (acc ++ [x]) (by simpa using h)]
    simp
theorem firstMet_nodup {ns : List Int} (h : ns.Nodup) : firstMet (fun i => ns.getD i 0) ns.length = ns := by
  unfold firstMet
  have e : (List.range ns.length).map (fun i => ns.getD i 0) = ns := by
    apply List.ext_getElem?
    intro j
    by_cases hj : j < ns.length
    · simp [hj, List.getD]
    · simp [hj]
  rw [e, dedup_nodup ns [] (by simpa using h)]
  simp
theorem call_len_setV : CallR X (.builtin "len") (fun xs H Q => ∃ (p : Addr) (S : Int → Bool) (n : Nat), xs = [.ref p] ∧ H p = some (.set S n) ∧ n ≤ 100 ∧ Q (.int n) H) := by
  intro pins s σ H xs us Q I r h
  obtain ⟨p, S, n, rfl, hp, small, q⟩ := h
  obtain ⟨u, rfl, rx⟩ := vals1 r
  cases rx
  obtain ⟨o, es, ep, t, h1, h2, h3, _, _, _, h7, h8⟩ := (show ObjOk X.prog X.w H s.heap p (.set S n) from I.hok p _ hp)
  exact call_len_set h1 h2 h3 h7 (by omega) ⟨.int n, H, I.tok _, ⟨_, by rw [h8]⟩, q⟩
end
end L2
namespace BP
def D0 : Nat := 84000000000
def Bq (d b : Nat) (q : Rat) : Prop := q.den ∣ D0 ^ d ∧ q.num.natAbs ≤ 2 ^ b * q.den
theorem den_le {d : Nat} {q : Rat} (h : q.den ∣ D0 ^ d) : q.den < 2 ^ (37 * d + 1) := by
  have p : 0 < D0 ^ d := Nat.pow_pos (by decide)
  have k := Nat.le_of_dvd p h
  have l : D0 ^ d ≤ (2 ^ 37) ^ d := Nat.pow_le_pow_left (by decide) d
  rw [← Nat.pow_mul] at l
  have m : 2 ^ (37 * d) < 2 ^ (37 * d + 1) := Nat.pow_lt_pow_right (by decide) (Nat.lt_succ_self _)
  omega
theorem Bq.of {d b : Nat} {t : Int} {m : Nat} (hm : 0 < m) (h1 : m ∣ D0 ^ d) (h2 : t.natAbs ≤ 2 ^ b * m) : Bq d b (Rat.divInt t m) := by
  have hne : (m : Int) ≠ 0 := by omega
  have e := n_rat (t := t) (b := (m : Int)) hne
  have s1 := sg_nt t (m : Int)
  have s2 := sg_nb t (m : Int)
  rw [e.1] at s1
  rw [e.2] at s2
  have a1 := congrArg Int.natAbs s1
  have a2 := congrArg Int.natAbs s2
  rw [Int.natAbs_mul, sg_abs] at a1 a2
  have g := gcd_pos (t := t) hne
  rw [Int.natAbs_natCast, Int.natAbs_natCast] at a2
  refine ⟨Nat.dvd_trans ⟨Int.gcd t m, by rw [Nat.mul_comm]; exact a2.symm⟩ h1, ?_⟩
  have h2 : Int.gcd t m * (Rat.divInt t m).num.natAbs ≤ 2 ^ b * (Int.gcd t m * (Rat.divInt t m).den) := by rw [a1, a2]; exact h2
  refine Nat.le_of_mul_le_mul_left (c := Int.gcd t m) ?_ g
  calc Int.gcd t m * (Rat.divInt t m).num.natAbs ≤ 2 ^ b * (Int.gcd t m * (Rat.divInt t m).den) := h2
    _ = Int.gcd t m * (2 ^ b * (Rat.divInt t m).den) := by rw [← Nat.mul_assoc, ← Nat.mul_assoc, Nat.mul_comm (2 ^ b)]
def Shr (q : Rat) : Prop := Bq 1 63 q
theorem shr_part {t : Int} {m : Nat} (h : m = 1 ∨ m = 2 ∨ m = 3 ∨ m = 4 ∨ m = 7 ∨ m = 1000000000) (ht : t.natAbs ≤ 2 ^ 63) : Shr (Rat.divInt t m) := by
  refine Bq.of (by omega) ?_ (Nat.le_trans ht (Nat.le_mul_of_pos_right _ (by omega)))
  rcases h with h | h | h | h | h | h <;> subst h <;> decide
end BP
namespace BP
end BP
namespace L2
open PySem PySem.Spec PyProof.Rows BP
end L2
namespace L2
open PySem PySem.Spec PyProof.Rows
section
variable {X : Cx}
end
end L2
namespace L2
open PySem PySem.Spec PyProof.Rows
section
variable {X : Cx}
theorem strs_are : ∀ {ys : List Str} {us : List Value}, Vals (ys.map V.str) us → StrsAre us ys
  | [], _, .nil => .nil
  | y :: ys, u :: us, .cons r t => by
    obtain ⟨tk, h⟩ := r
    subst h
    exact .cons _ _ (strs_are t)
end
end L2
namespace L2
open PySem PySem.Spec PyProof.Rows
section
variable {X : Cx}
inductive IsL (K : PySem.W.Frag) (H : Hp) : V → String → Bool → Prop where
  | old {v : V} {s : String} {b : Bool} (h : IsI K H v s b) : IsL K H v s b
  | lstTup {a : Addr} {xs : List V} (h : SqL K H a xs) : IsL K H (.ref a) "tuple" false
  | tupList {a : Addr} {xs : List V} (h : SqT K H a xs) : IsL K H (.ref a) "list" false
  | intList (i : Int) : IsL K H (.int i) "list" false
  | intTup (i : Int) : IsL K H (.int i) "tuple" false
theorem call_isl : CallR X (.builtin "isinstance") (fun xs H Q => ∃ x T b, xs = [x, .ty T] ∧ IsL X.K H x T b ∧ Q (.bl b) H) := by
  intro pins s σ H xs us Q I r h
  obtain ⟨x, T, b, rfl, hi, q⟩ := h
  cases hi with
  | old h => exact call_isi pins s σ H _ us Q I r ⟨_, _, _, rfl, h, q⟩
  | lstTup h =>
    obtain ⟨u, u', rfl, rx, rt⟩ := vals2 r
    cases rt
    cases rx
    obtain ⟨its, _, p, _⟩ := I.list h
    obtain ⟨o, ho, hc, _⟩ := p.isList
    exact IsiPair.list_tuple ho hc ⟨.bl false, H, I.tok _, rfl, q⟩
  | tupList h =>
    obtain ⟨u, u', rfl, rx, rt⟩ := vals2 r
    cases rt
    cases rx
    obtain ⟨its, _, ⟨o, ho, hc, _⟩, _⟩ := I.tuple h
    exact IsiPair.tuple_list ho hc ⟨.bl false, H, I.tok _, rfl, q⟩
  | intList i =>
    obtain ⟨u, u', rfl, rx, rt⟩ := vals2 r
    cases rt
    obtain ⟨t, rfl⟩ := rx
    exact IsiPair.int_list ⟨.bl false, H, I.tok _, rfl, q⟩
  | intTup i =>
    obtain ⟨u, u', rfl, rx, rt⟩ := vals2 r
    cases rt
    obtain ⟨t, rfl⟩ := rx
    exact IsiPair.int_tuple ⟨.bl false, H, I.tok _, rfl, q⟩
end
end L2
namespace L2
open PySem PySem.Spec PyProof.Rows
section
variable {prog : Program} {w : World} {A : Around} {E : Value → Shared → Prop} {h : Heap} {gs : Array GenState} {dr : Drawn} {tk : Nat} {os : OsState}
abbrev zobj (I O : Addr) (f0 : Value) : Obj := { cls := .type "zip", dict := none, data := .fields #[f0, .bool false, .bool false, .ref I, .ref O], slots := #[] }
abbrev pobj (x y : Value) : Obj := { cls := .type "tuple", data := .seq #[x, y] }
abbrev tobj (b : Addr) (n : Nat) : Obj := { cls := .type "tuple_iterator", data := .fields #[.ref b, .int n 0] }
end
structure ZipStT (z I O i j a b : Addr) (n : Nat) (h : Heap) : Prop where
  nd : [z, I, O, i, j].Nodup
  zip : h.get? z = some (zobj I O .none)
  its : h.get? I = some (pobj (.ref i) (.ref j))
  out : ∃ x y, h.get? O = some (pobj x y)
  one : h.get? i = some (tobj a n)
  two : h.get? j = some (tobj b n)
  far : a ≠ O ∧ b ≠ O
end L2
namespace L2
open PySem PySem.Spec PyProof.Rows
section
variable {X : Cx}
end
end L2
namespace L2
open PySem PySem.Spec PyProof.Rows BP
section
variable {P : Program} {w : World} {H : Hp} {h : Heap} {a : Addr} {o : HO}
theorem ObjOk.has (x : ObjOk P w H h a o) : ∃ u, h.get? a = some u := by
  cases o with
  | lst xs => obtain ⟨_, _, _, _, e⟩ := x; exact ⟨_, e⟩
  | tup xs => obtain ⟨_, _, _, u, e, _⟩ := x; exact ⟨u, e⟩
  | dK kvs => obtain ⟨_, _, _, _, u, _, _, e, _⟩ := x; exact ⟨u, e⟩
  | dT kvs => obtain ⟨_, _, _, _, u, _, _, e, _⟩ := x; exact ⟨u, e⟩
  | set S n => obtain ⟨u, _, _, _, e, _⟩ := x; exact ⟨u, e⟩
  | ins C dx fs => obtain ⟨_, _, _, e, _⟩ := x; exact ⟨_, e⟩
  | own y => exact x
  | xd fs => obtain ⟨_, ⟨u, _, _, e, _⟩, _⟩ := x; exact ⟨u, e⟩
  | rng lo hi => obtain ⟨_, _, _, e⟩ := x; exact ⟨_, e⟩
  | frz ob u => exact ⟨_, x.1⟩
  | tbl ps => exact ⟨_, (show h.get? a = some _ from x)⟩
  | met f y => exact ⟨_, (show h.get? a = some _ from x)⟩
  | ext f => exact x.2.1
theorem HOk.has (x : HOk P w H h) (e : (H a).isSome = true) : ∃ u, h.get? a = some u := by
  obtain ⟨o, e⟩ := Option.isSome_iff_exists.mp e
  exact (x a o e).has
end
def Cov (B : Heap) (outer : List Env) (s : Shared) (H' : Hp) (h' : Heap) : Prop :=
  ∀ b o, h'.get? b = some o → ((∃ u, s.heap.get? b = some u) ∨ (H' b).isSome = true) → b ∉ frs outer → B.get? b = some o
def CXE (P : Program) (w : World) : CXT := fun outer H s E e s' =>
  ∃ (ea C : Addr) (a0 : Value) (H' : Hp) (B : Heap), e = .ref ea ∧ s'.os = s.os ∧ AllBare s'.gens ∧ Un (frs outer) [] H H' s.heap s'.heap ∧ HOk P w H' s'.heap ∧ Heap.FlyingW B outer ea (.ref C) a0 s'.heap ∧ Cov B outer s H' s'.heap ∧ H' ea = none ∧ E (.ref C) none H'
section
variable {X : Cx} {pins : List (Addr × Obj)} {σ : St} {H H' : Hp} {s s' : Shared} {h' B : Heap}
theorem Inv.inStack (I : Inv X pins σ H s) {b : Addr} {u : Obj} (q : X.s₀.heap.get? b = some u) (hb : b ∉ X.fs) : b ∉ frs X.stack := fun z => by
  rcases List.mem_cons.mp (I.stkSub b z) with e | e
  · exact absurd (Nat.lt_of_lt_of_le (Heap.lt_size q) I.ok.above) (by rw [e]; exact Nat.lt_irrefl _)
  · exact hb e
theorem Inv.flown (I : Inv X pins σ H' s') (hex : X.ex = []) (st : B.StaysIn h')
    (cov : ∀ b o, s'.heap.get? b = some o → ((∃ u, X.s₀.heap.get? b = some u) ∨ (H' b).isSome = true) → b ∉ frs X.stack → B.get? b = some o) (up : s'.heap.UpToSlots h') :
    Un X.fs [] X.H₀ H' X.s₀.heap h' ∧ HOk X.prog X.w H' h' ∧ Cov B X.outer X.s₀ H' h' := by
  have nex : ∀ b : Addr, b ∉ X.ex := fun b z => by rw [hex] at z; cases z
  have fr : ∀ b, b ∈ X.fs → ∀ o, s'.heap.get? b = some o → ∃ sl, h'.get? b = some { o with slots := sl } := fun b hb o e => by
    obtain ⟨_, o', e', hd⟩ := I.funs.mem hb
    rw [e] at e'
    cases e'
    exact up b o e hd
  have tr : ∀ c : Addr, (H' c).isSome = true → c ∉ frs X.stack := fun c hc z => by
    rw [I.stkFree c z] at hc
    cases hc
  refine ⟨⟨fun b o q n hb _ => ?_, fun b o q n hb _ => ?_, fun b o q n _ => I.base.free b o q n (nex b), fun b o q _ => ?_, I.base.tups, I.base.frzs, I.base.tbls⟩, fun b u e => ?_, fun b o q hb hn => ?_⟩
  · exact st b o (cov b o (I.base.keep b o q n hb (nex b)) (.inl ⟨o, q⟩) (I.inStack q hb))
  · obtain ⟨sl, e⟩ := I.base.slot b o q n hb (nex b)
    obtain ⟨sl', e'⟩ := fr b hb _ e
    exact ⟨sl', e'⟩
  · obtain ⟨o', e⟩ := I.base.there b o q (nex b)
    by_cases hb : b ∈ X.fs
    · obtain ⟨sl, e'⟩ := fr b hb _ e
      exact ⟨_, e'⟩
    · exact ⟨o', st b o' (cov b o' e (.inl ⟨o, q⟩) (I.inStack q hb))⟩
  · refine (I.hok b u e).stay (fun c v hc q => ?_) (fun _ q => q) fun _ _ q => q
    have hs : (H' c).isSome = true := by
      rcases hc with rfl | hc
      · rw [e]; rfl
      · rw [hc]; rfl
    exact st c v (cov c v q (.inr hs) (tr c hs))
  · have ex : ∃ o', s'.heap.get? b = some o' := by
      rcases hb with ⟨u, hu⟩ | hs
      · exact I.base.there b u hu (nex b)
      · exact I.hok.has hs
    obtain ⟨o', e⟩ := ex
    have hns : b ∉ frs X.stack := by
      rcases hb with ⟨u, hu⟩ | hs
      · exact I.inStack hu hn
      · exact tr b hs
    have e2 := cov b o' e hb hns
    have e3 := st b o' e2
    rw [q] at e3
    cases e3
    exact e2
theorem leaveE {E : XK} {e : Value} {E2 : Value → Shared → Prop} (I : Inv X pins σ H s) (hst : X.stack = X.env :: X.outer) (hfr : X.env.frame = some X.env.locals) (hex : X.ex = [])
    (h : CXE X.prog X.w X.stack H s E e s') : wpAny (model X.prog X.w) X.A (leaving X.env e) (fun _ s'' => CXE X.prog X.w X.outer X.H₀ X.s₀ E e s'') E2 s' := by
  obtain ⟨ea, C, a0, H', B, rfl, os, bare, un, hok, fl, cov, hea, hE⟩ := h
  have I2 : Inv X pins σ H' s' := I.call' (ch := []) os un hok bare (fun b z => absurd z (by simp))
  have fl2 : Heap.FlyingW B (X.env :: X.outer) ea (.ref C) a0 s'.heap := by rw [← hst]; exact fl
  refine wpAny_leaves_onW (by rw [I.ok.frames, hst]) hfr fl2 fun h' fl' up => ?_
  obtain ⟨u1, k1, c1⟩ := I2.flown hex fl'.1 (fun b o q hb hn => cov b o q (hb.imp (fun ⟨u, hu⟩ => I.base.there b u hu (by rw [hex]; simp)) id) hn) up
  exact ⟨ea, C, a0, H', B, rfl, I2.os, bare, u1, k1, fl', c1, hea, hE⟩
theorem passE {P : Program} {w : World} {K : PySem.W.Frag} {mg : Str → Option Value} {base : Heap} {N : List Str} {qual : Str} {scope : Scope} {f : Addr} {cd : Value} {A : Around} {outer : List Env} {s : Shared} {H : Hp} {E : XK} :
    Passes (CXE P w) (cxOf (CXE P w) P w K mg base N qual scope f cd A outer s H E) E := fun _ _ _ _ _ _ I h => leaveE I rfl rfl rfl h
end
theorem Fun.okE {P : Program} {w : World} {K : PySem.W.Frag} {mg : Str → Option Value} {base : Heap} {x qual : Str} {st : Stmt} {f : Addr} {fd : FuncData} {N ps : List Str} {k : Nat} {sp : Sp} (F : Fun K x qual st f fd) (S : FnScope N ps (qQ st))
    (len : ∀ vs H Q E, sp vs H Q E → vs.length = ps.length)
    (hbody : ∀ (cdv : Value) (A : Around) (outer : List Env) (s : Shared) (H : Hp) (vs : List V) (Q : VK) (E : XK), Room k (A.deeper (envOfC qual (qQ st) s.heap.objs.size f cdv)) → sp vs H Q E → ∃ t, PSs (cxOf (CXE P w) P w K mg base N qual (qQ st) f cdv A outer s H E) (zz st) t ∧ t { nx := fun _ H' => Q .non H', rt := Q } (start N vs) H) : FnOk P w K mg base (CXE P w) (k + 1) f fd ps sp := by
  obtain ⟨oc, od, kV, doc, pm, an, cdv, ct, osl, rfl, lk, hcd⟩ := F.ex
  exact fn_of lk hcd S len fun A outer s H vs Q E hr hsp => hbody cdv A outer s H vs Q E hr hsp
abbrev veB : List Value := [.type "ValueError", .type "Exception", .type "BaseException", .type "object"]
theorem own_obj {K : PySem.W.Frag} {h : Heap} {C : Addr} {newId : String} (Y : K.In h) (q : PySem.W.excIn K C veB newId = true) :
    ∃ bm N nm qn bs hd sn sub ab col dd k0 k1 k2 k3 k5 mN, h.get? C = some (excClassObj nm qn C N bs bm hd sn sub ab col dd k0 k1 k2 k3 k5 newId) ∧ h.Ns N mN ∧ mN "__init__" = none ∧ OwnTail h veB bm := by
  unfold PySem.W.excIn at q
  split at q
  next dd cd sl look =>
    split at q
    next C2 bm k0 k1 k2 k3 n2 k5 em es =>
      rw [Bool.and_eq_true, Bool.and_eq_true, Bool.and_eq_true, Bool.and_eq_true, Bool.and_eq_true] at q
      obtain ⟨⟨⟨⟨⟨q1, q2⟩, q3⟩, q4⟩, q5⟩, q6⟩ := q
      have r1 : C2 = C := beq_iff_eq.mp q1
      have r2 : n2 = newId := beq_iff_eq.mp q2
      subst r1 r2
      obtain ⟨nm, bs, mro, ns, qn, hd, sn, sub, ab, col, del⟩ := cd
      have r3 : del = false := by simpa using q3
      have r4 : mro = .ref C2 :: bm := em
      subst r3 r4
      have r5 : sl = #[k0, k1, k2, k3, some (.builtin n2), k5] := by
        cases sl with
        | mk l => exact congrArg Array.mk es
      subst r5
      refine ⟨bm, ns, nm, qn, bs, hd, sn, sub, ab, col, dd, k0, k1, k2, k3, k5, h.nsMap ns, Y _ _ look, ?_, ?_, ?_⟩
      · exact Heap.Ns.of_isNs (PySem.W.isNs_of_in Y q5)
      · exact PySem.W.nsMap_none_of_in Y q5 (beq_iff_eq.mp q6)
      · exact PySem.W.tail_of_in Y q4
    all_goals exact absurd q Bool.false_ne_true
  all_goals exact absurd q Bool.false_ne_true
section
variable {X : Cx}
def tRaise (C : Addr) (E : XK) (ta : TA) : TS := fun _ σ H => ta σ H fun vs H1 => vs.length ≤ sizeLine ∧ E (.ref C) none H1
theorem j5 {E : XK} {x : Str} {C : Addr} {e0 : Expr} {es : List Expr} {ta : TA} {np cpos pos : Pos} (hst : X.stack = X.env :: X.outer) (hfr : X.env.frame = some X.env.locals) (hex : X.ex = []) (hcalm : X.calm = true)
    (hxe : X.xe = fun e s' => wpAny (model X.prog X.w) X.A (leaving X.env e) (fun _ s'' => CXE X.prog X.w X.outer X.H₀ X.s₀ E e s'') (fun e' s'' => CXE X.prog X.w X.outer X.H₀ X.s₀ E e' s'') s')
    (hC : PySem.W.excIn X.K C veB "ValueError.__new__" = true) (hg : Gl X x) (hm : X.mg x = some (.ref C)) (ha : PA X (e0 :: es) ta)
    (hd : (x == ("__debug__" : Str)) = false := by decide) (he : starEach (e0 :: es) X.env = (false, eval e0 X.env) :: starEach es X.env := by rfl)
    (hpl : (backTo cpos (starEach (e0 :: es) X.env)).any (·.1) = false := by rfl) (hpl2 : (backTo cpos (starEach es X.env)).any (·.1) = false := by rfl) :
    PS X (.Raise (some (.Call (.Name x np) (e0 :: es) [] cpos)) none pos) (tRaise C E ta) := by
  intro pins s σ H D I h
  obtain ⟨bm, N, nm, qn, bs, hdc, sn, sub, ab, col, dd, k0, k1, k2, k3, k5, mN, oC, oN, oi, oT⟩ := own_obj I.mod.kin hC
  refine wpAny_Raise_call_subT (C := C) (nm := nm) (q := qn) (N := N) (bs := bs) (bm := bm) (hdct := hdc) (sn := sn) (sub := sub) (ab := ab) (col := col) (dd := dd) (k0 := k0) (k1 := k1) (k2 := k2) (k3 := k3) (k5 := k5)
    PySem.F.excBase_ValueError (mN := mN) (oT.hasType (by decide)) (I.ok.hd hcalm) hpl oi (ld_glob I hg hm ⟨rfl, ?_⟩ hd)
  have pa := ha cpos pins s σ H _ I h
  rw [he] at pa ⊢
  refine Calls.evalArgs_plain (wpAny_mono pa (fun us s2 z => ?_) fun _ _ y => y)
  obtain ⟨vs, H1, I1, r, hl, hE⟩ := z
  refine ⟨rfl, by rw [← r.length]; exact hl, I1.bk _ _ oC, oN.keeps I1.bk, oT.keeps I1.bk, fun h3 e3 made => ?_⟩
  rw [hxe]
  have I3 : Inv X pins σ H1 { s2 with heap := h3 } := I1.kept (t' := s2.toks) made.keeps
  have stk : s2.heap.FunFrames (PySem.W.hideAll s2.heap (frs X.stack)) (X.env :: X.outer) := by
    rw [← hst]
    exact PySem.W.funFrames_hide I1.stack fun env hen b hb => List.mem_filterMap.mpr ⟨env, hen, hb⟩
  refine wpAny_leaves_madeW (base := PySem.W.hideAll s2.heap (frs X.stack)) (by rw [I1.ok.frames, hst]) hfr (fun b o q => PySem.W.of_hideAll _ q) stk made fun h4 t fl _ _ up => ?_
  have cov3 : ∀ b o, h3.get? b = some o → ((∃ u, X.s₀.heap.get? b = some u) ∨ (H1 b).isSome = true) → b ∉ frs X.stack → (PySem.W.hideAll s2.heap (frs X.stack)).get? b = some o := fun b o q hb hn => by
    have ex : ∃ o', s2.heap.get? b = some o' := by
      rcases hb with ⟨u, hu⟩ | hs
      · exact I1.base.there b u hu (by rw [hex]; simp)
      · exact I1.hok.has hs
    obtain ⟨o', eo⟩ := ex
    have eo2 : h3.get? b = some o' := made.keeps b o' eo
    have eq : some o = some o' := Eq.trans (Eq.symm q) eo2
    cases eq
    exact PySem.W.hideAll_get _ eo hn
  obtain ⟨u1, k1, c1⟩ := I3.flown hex fl.1 cov3 up
  refine ⟨e3, C, _, H1, _, rfl, I3.os, I3.bare, u1, k1, fl, c1, ?_, hE⟩
  cases z : H1 e3 with
  | none => rfl
  | some v =>
    obtain ⟨u, hu⟩ := I1.hok.has (a := e3) (by rw [z]; rfl)
    rw [made.new] at hu
    cases hu
end
end L2
namespace L2
open PySem PySem.Spec PyProof.Rows BP
section
variable {X : Cx} {pins : List (Addr × Obj)} {σ : St} {H H1 H' : Hp} {s s1 s' : Shared} {h' B : Heap}
theorem Inv.fly (I1 : Inv X pins σ H1 s1) (I2 : Inv X pins σ H' s') (hex : X.ex = []) (cov : Cov B X.stack s1 H' s'.heap) (st : B.StaysIn h') (up : s'.heap.UpToSlots h') : Inv X pins σ H' { s' with heap := h' } := by
  obtain ⟨u1, k1, _⟩ := I2.flown hex st (fun b o q hb hn => cov b o q (hb.imp (fun ⟨u, hu⟩ => I1.base.there b u hu (by rw [hex]; simp)) id) hn) up
  have cl : ∀ c v, s'.heap.IsCell c v → h'.IsCell c v := fun c v z => by
    obtain ⟨o, ho, hd⟩ := z
    obtain ⟨sl, e⟩ := up c o ho (fun vs q => by rw [hd] at q; cases q)
    exact ⟨_, e, hd⟩
  refine ⟨I2.ok, I2.os, I2.bare, ?_, ?_, fun x c e => ?_, I2.free, I2.freeC, fun p hp => ?_, k1, I2.len⟩
  · rw [hex]
    exact u1
  · obtain ⟨m, hn, hl⟩ := I2.loc
    refine ⟨m, up.ns hn, fun i x v e1 e2 e3 => ?_⟩
    obtain ⟨u, r, l⟩ := hl i x v e1 e2 e3
    refine ⟨u, r, ?_⟩
    rcases l with l | ⟨k, c, e, z⟩
    · exact .inl l
    · exact .inr ⟨k, c, e, cl c _ z⟩
  · obtain ⟨v, z⟩ := I2.cell x c e
    exact ⟨v, cl c v z⟩
  · obtain ⟨e, n, ne, nf, d⟩ := I2.pin p hp
    obtain ⟨e1, _⟩ := I1.pin p hp
    have hns : p.1 ∉ frs X.stack := fun z => (List.mem_cons.mp (I2.stkSub _ z)).elim ne nf
    exact ⟨st _ _ (cov _ _ e (.inl ⟨_, e1⟩) hns), n, ne, nf, d⟩
abbrev Cx.inHandler (X : Cx) (ea : Addr) : Cx := { X with A := X.A.mark (some (.ref ea)), calm := false, xe := fun _ _ => False }
theorem Inv.toHandler (I : Inv X pins σ H s) (ea : Addr) : Inv (X.inHandler ea) pins σ H s :=
  ⟨⟨I.ok.mod, I.ok.kind, I.ok.glob, I.ok.blt, I.ok.above, I.ok.inj, I.ok.has, I.ok.cab, fun z => absurd z Bool.false_ne_true, I.ok.frames, I.ok.stk, I.ok.exf, I.ok.bs, I.ok.bsz, I.ok.noex, I.ok.exfs, I.ok.funs, I.ok.frf⟩, I.os, I.bare, I.base, I.loc, I.cell, I.free, I.freeC, I.pin, I.hok, I.len⟩
theorem Inv.fromHandler {ea : Addr} (I : Inv (X.inHandler ea) pins σ H s) (ok : X.Ok) : Inv X pins σ H s := ⟨ok, I.os, I.bare, I.base, I.loc, I.cell, I.free, I.freeC, I.pin, I.hok, I.len⟩
theorem Inv.goes {M : Model} {A : Around} {E : Value → Shared → Prop} {n : Str} {i : Nat} {pos : Pos} {Q : Unit → Shared → Prop} (I : Inv X pins σ H s) (hN : X.N.Nodup) (hi : X.N[i]? = some n) (hk : X.env.scope.names.lookup n = some .local)
    (h : ∀ s', Inv X pins (σ.set i none) H s' → Q () s') : wpAny M A (do bindName X.env n .none; unbindBehindTheSuite X.env n pos) Q E s := by
  obtain ⟨m, hn, hl⟩ := id I.loc
  refine wpAny_nameGoes_keeps hk hn (by rw [I.ok.kind]; rfl) fun h' v hn' hs => h _ ?_
  have hiσ : i < σ.length := by rw [I.len]; exact (List.getElem?_eq_some_iff.mp hi).1
  have lt : ∀ b o, X.s₀.heap.get? b = some o → b ≠ X.env.locals := fun b o e => Nat.ne_of_lt (Nat.lt_of_lt_of_le (Heap.lt_size e) I.ok.above)
  refine ⟨I.ok, I.os, I.bare, ⟨fun b o e n hb hx => (hs.2 b (lt b o e)).trans (I.base.keep b o e n hb hx), fun b o e n hb hx => ?_, I.base.free, fun b o e hx => ?_, I.base.tups, I.base.frzs, I.base.tbls⟩, ⟨_, hn', fun j y v' e1 e2 e3 => ?_⟩, fun y c e => ?_, I.free, I.freeC, fun p hp => ?_, fun b u e => ?_, by simpa using I.len⟩
  · obtain ⟨sl, z⟩ := I.base.slot b o e n hb hx
    exact ⟨sl, (hs.2 b (lt b o e)).trans z⟩
  · obtain ⟨o', z⟩ := I.base.there b o e hx
    exact ⟨o', (hs.2 b (lt b o e)).trans z⟩
  · by_cases hj : j = i
    · subst hj
      rw [List.getElem?_set_self hiσ] at e2
      cases e2
    · rw [List.getElem?_set_ne (Ne.symm hj)] at e2
      obtain ⟨u', r', q⟩ := hl j y v' e1 e2 e3
      refine ⟨u', r', ?_⟩
      rcases q with ⟨k, e⟩ | ⟨k, c, e, z⟩
      · refine .inl ⟨k, ?_⟩
        have ny : y ≠ n := fun e => hj (nodup_ix hN e1 (e ▸ hi))
        simp [ny, e]
      · exact .inr ⟨k, c, e, z.sameBut hs (I.cne y c e)⟩
  · obtain ⟨w', z⟩ := I.cell y c e
    exact ⟨w', z.sameBut hs (I.cne y c e)⟩
  · obtain ⟨e, n, ne, nf, d⟩ := I.pin p hp
    exact ⟨(hs.2 p.1 ne).trans e, n, ne, nf, d⟩
  · have nl : ∀ c, (H c).isSome = true → c ≠ X.env.locals := fun c hc z => by
      rw [z, I.free] at hc
      cases hc
    refine (I.hok b u e).stay (fun c w' hc q => (hs.2 c (nl c ?_)).trans q) (fun _ q => q) fun _ _ q => q
    rcases hc with rfl | hc
    · rw [e]; rfl
    · rw [hc]; rfl
end
theorem matches_up {K : PySem.W.Frag} {M : Model} {A : Around} {E : Value → Shared → Prop} {h : Heap} {g : Array GenState} {d : Drawn} {t : Nat} {os : OsState} {e C CB : Addr} {oe : Obj} {Q : Bool → Shared → Prop}
    (Y : K.In h) (he : h.get? e = some oe) (hcls : oe.cls = .ref C) (hB : PySem.W.excIn K CB veB "ValueError.__new__" = true) (hm : PySem.W.mroIn K C (.ref CB) = some true)
    (hq : Q true ⟨h, g, d, t, os⟩) : wpAny M A (excMatches (.ref e) (.ref CB)) Q E ⟨h, g, d, t, os⟩ := by
  obtain ⟨bm, N, nm, qn, bs, hd, sn, sub, ab, col, dd, k0, k1, k2, k3, k5, mN, oB, _, _, oT⟩ := own_obj Y hB
  have a1 : (Value.ref CB :: bm).contains (.type "BaseException") = true := by rw [List.contains_cons, oT.hasType (b := true) (by decide), Bool.or_true]
  have LM := PySem.W.looks_mroIn (M := M) Y hm
  have nt := tc_notTuple
  unfold excMatches
  repeat (first
    | (with_reducible refine wpAny_loadPart_at he ?_; rw [hcls])
    | with_reducible refine wpAny_loadPart_at oB ?_
    | (with_reducible refine wpAny_isSubtype_exc oB ?_; rw [a1])
    | with_reducible refine PySem.W.Looks.at LM ?_
    | wp_step)
  exact hq
def ExcAt (e C : Addr) (h : Heap) : Prop := ∃ ox, h.get? e = some ox ∧ ox.cls = .ref C
theorem excAt_ok {P : Program} {w : World} {H : Hp} {h : Heap} {e C : Addr} (x : ExcAt e C h) : ObjOk P w H h e (.ext (ExcAt e C)) := by
  obtain ⟨ox, h1, h2⟩ := x
  exact ⟨⟨ox, h1, h2⟩, ⟨ox, h1⟩, fun _ _ ⟨o, a, b⟩ k => ⟨o, k o a, b⟩⟩
structure Under (K : PySem.W.Frag) (C CB : Addr) : Prop where
  up : PySem.W.excIn K CB veB "ValueError.__new__" = true
  mro : PySem.W.mroIn K C (.ref CB) = some true
section
variable {X : Cx}
end
end L2
namespace L2
open PySem PySem.Spec PyProof.Rows BP
open PySem.Calls PySem.Builtin PySem.Builtin.ObjectAttr PySem.Builtin.Getset_descriptor
structure ExcCls (K : PySem.W.Frag) (C : Addr) : Prop where
  cls : (PySem.W.clsIn K C).isSome = true
  ga : PySem.W.findIn K (.ref C) "__getattribute__" = some (some (.builtin "BaseException.__getattribute__"))
  hook : PySem.W.findIn K (.ref C) "__getattr__" = some none
  own : PySem.W.findIn K (.ref C) "__class__" = some (some (.builtin "object.__class__"))
  get : PySem.W.specialIn K (.builtin "object.__class__") "__get__" = some (some (.builtin "getset_descriptor.__get__"))
  takes : PySem.W.takesIn K (.builtin "object.__class__") = some true
  obj : PySem.W.mroIn K C (.type "object") = some true
  exc : PySem.W.mroIn K C (.type "BaseException") = some true
theorem cls_of_exc {K : PySem.W.Frag} {C : Addr} {n : String} (q : PySem.W.excIn K C veB n = true) : (PySem.W.clsIn K C).isSome = true := by
  unfold PySem.W.excIn at q
  split at q
  next dd cd sl look =>
    unfold PySem.W.clsIn
    rw [look]
    rfl
  all_goals exact absurd q Bool.false_ne_true
section
variable {K : PySem.W.Frag} {C ea : Addr} {prog : Program} {w : World} {A : Around} {E : Value → Shared → Prop} {s : Shared}
theorem excAt_type {M : Model} {h : Heap} (x : ExcAt ea C h) : PySem.W.Looks M h (typeOf (.ref ea)) (.ref C) := by
  obtain ⟨ox, h1, h2⟩ := x
  exact h2 ▸ (PySem.W.Looks.ld h1).andThen .now
theorem exc_class_get {R : Result → Shared → Prop} {tp : Value} (Y : K.In s.heap) (x : ExcAt ea C s.heap) (Z : ExcCls K C) (q : R (.ok (.ret (.ref C))) s) :
    codeAny (model prog w) A (.call (.builtin "getset_descriptor.__get__") ⟨[.builtin "object.__class__", .ref ea, tp], []⟩) R s := by
  have LT := excAt_type (M := model prog w) x
  have LO := PySem.W.looks_mroIn (M := model prog w) Y Z.obj
  obtain ⟨hh, g, dr, t, os⟩ := s
  refine codeAny_call_builtin PySem.F.slot_gs_get.plain PySem.F.entry_gs_get
    (PySem.F.slot_gs_get.check _ _ _ _ _ _ _ _ (show (⟨hh, g, dr, t, os⟩ : Shared).TypeIs (.builtin "object.__class__") "getset_descriptor" from PySem.F.typeOf_object_class) (PySem.F.args_gs_get _ _ _) ?_)
  unfold Builtin.«getset_descriptor.__get__» descrGet
  rw [PySem.W.dga_obj]
  refine wpAny_bind (wpAny_pure ?_)
  unfold descrGetter descrCheckInstance descrNameAndClass isInstance
  simp only [PySem.W.KF.owner_class]
  repeat lk
  refine ⟨Code.quiet_builtin _ (by decide +kernel), codeAny_builtin PySem.F.entry_object_class ?_⟩
  unfold Builtin.«object.__class__» shownTypeOf
  repeat lk
  exact q
theorem exc_find {M : Model} {h : Heap} (Y : K.In h) (Z : ExcCls K C) : PySem.W.Looks M h (find (.ref ea) (.ref C) "__class__") (.bind (.builtin "getset_descriptor.__get__") (.builtin "object.__class__")) := by
  have L1 := PySem.W.looks_findIn (M := M) Y Z.own
  have L2 : PySem.W.Looks M h (getOf (some (.builtin "object.__class__"))) (some (.builtin "getset_descriptor.__get__")) := PySem.W.looks_specialIn Y Z.get
  have L3 := PySem.W.looks_takesIn (M := M) Y Z.takes
  refine L1.andThen (L2.andThen ?_)
  refine PySem.W.Looks.andThen (a := some (Value.builtin "getset_descriptor.__get__", Value.builtin "object.__class__")) ?_ (PySem.W.Looks.tag .now)
  refine L3.andThen ?_
  exact .now
theorem exc_class {Q : Option Value → Shared → Prop} (Y : K.In s.heap) (x : ExcAt ea C s.heap) (Z : ExcCls K C) (q : Q (some (.ref C)) { s with toks := s.toks + 1 }) :
    wpAny (model prog w) A (getAttr? (.ref ea) "__class__") Q E s := by
  obtain ⟨hh, g, d, t, os⟩ := s
  have LT := excAt_type (M := model prog w) x
  have LG := PySem.W.looks_findIn (M := model prog w) Y Z.ga
  have LH := PySem.W.looks_findIn (M := model prog w) Y Z.hook
  have LB := PySem.W.looks_mroIn (M := model prog w) Y Z.exc
  have LF := exc_find (M := model prog w) (ea := ea) Y Z
  unfold getAttr? getAttrBy? getAttrBy
  refine wpAny_bind (wpAny_mkText (wpAny_bind (wpAny_attempt ?_)))
  refine wpAny_holding (wpAny_bind (LT.at ?_))
  refine wpAny_bind (LG.at ?_)
  show wpAny _ _ (getAttrByItsOwn _ _ _ _ _ _) _ _ _
  unfold getAttrByItsOwn
  refine wpAny_bind (LH.at ?_)
  refine wpAny_bind (wpAny_attempt (wpAny_holding ?_))
  show wpAny _ _ (boundAndCalled _ _ _) _ _ _
  unfold boundAndCalled
  rw [PySem.F.excAttr_ValueError.ga.bind (.ref ea)]
  refine wpAny_bind (wpAny_pure ?_)
  refine wpAny_call (codeAny_call_builtin PySem.F.excAttr_ValueError.ga.plain PySem.F.entry_bexc_ga ?_)
  have kd : builtinKind "BaseException.__getattribute__" = some .slot := by
    decide +kernel
  have sp : splitId "BaseException.__getattribute__" = some ("BaseException", "__getattribute__") := by
    decide +kernel
  have ok := PySem.F.args_bexc_ga (.ref ea) (.str "__class__" t)
  simp only [checkBuiltinCall, kd, sp]
  refine wpAny_bind ?_
  unfold isInstance
  repeat lk
  refine wpAny_run (h := none) (c := .call (.builtin "getset_descriptor.__get__") ⟨[.builtin "object.__class__", .ref ea, .ref C], []⟩) ?_
  refine exc_class_get (s := ⟨hh, g, d, t + 1, os⟩) Y x Z ?_
  repeat lk
  exact q
theorem kitx_exc (Z : ExcCls K C) : PySem.W.KitX K (.ref ea) (.ref C) (ExcAt ea C) where
  ty := fun _ _ _ x => excAt_type x
  it := fun _ _ Y _ => by
    have z := Z.cls
    unfold PySem.W.clsIn at z
    split at z
    next c' d' cd' sl' ho =>
      intro A' Q' E' s' k q
      unfold isType loadHead
      refine wpAny_bind ?_
      exact wpAny_loadPart (k _ _ (Y _ _ ho)) (wpAny_pure q)
    next => exact absurd z (by decide)
  ne := fun h tp dd its n sl Y htp => by
    have z := Z.cls
    refine Bool.eq_false_iff.mpr fun q => ?_
    have e : C = tp := Value.ref.inj (beq_iff_eq.mp q)
    subst e
    unfold PySem.W.clsIn at z
    split at z
    next c' d' cd' sl' ho =>
      have y := Eq.trans (Eq.symm (Y _ _ ho)) htp
      cases y
    next => exact absurd z (by decide)
  ca := fun Y x q => exc_class Y x Z q
end
def clsV : V → Option Value
  | .ref D => some (.ref D)
  | .ty t => some (.type t)
  | _ => none
theorem call_isiE {X : Cx} : CallR X (.builtin "isinstance") (fun xs H Q => ∃ ea C c cv b, xs = [.ref ea, c] ∧ clsV c = some cv ∧ H ea = some (.ext (ExcAt ea C)) ∧ ExcCls X.K C ∧ PySem.W.kitOne X.K (.ref C) cv = some b ∧ Q (.bl b) H) := by
  intro pins s σ H xs us Q I r h
  obtain ⟨ea, C, c, cv, b, rfl, hc, he, Z, kt, q⟩ := h
  obtain ⟨u, u', rfl, rx, rc⟩ := vals2 r
  cases rx
  have ev : u' = cv := by
    cases c with
    | ref D => cases rc; exact Option.some.inj hc
    | ty t => cases rc; exact Option.some.inj hc
    | _ => exact absurd hc (by simp [clsV])
  subst ev
  obtain ⟨x, _, _⟩ := (show ObjOk X.prog X.w H s.heap ea (.ext (ExcAt ea C)) from I.hok ea _ he)
  exact PySem.W.kia_one (kitx_exc Z) I.kIn x kt (fun z => nomatch z) fun tk => ⟨.bl b, H, I.tok tk, rfl, q⟩
theorem boot_ValueError : bootBuiltins "ValueError" = some (.type "ValueError") := PyProof.Rows.Boot.«ValueError»
end L2
namespace L2
open PySem PySem.Spec PyProof.Rows BP
section
variable {X : Cx} {e stp : Expr} {te : TE} {lo hi : Option Expr} {tl th ts : TO} {pos p2 : Pos}
theorem kit_none {K : PySem.W.Frag} {C : Addr} : ∀ {Cs : List Addr}, (∀ D ∈ Cs, PySem.W.kitOne K (.ref C) (.ref D) = some false) → PySem.W.kitAny K (.ref C) (Cs.map Value.ref) = some false
  | [], _ => rfl
  | D :: Cs, h => by
    rw [List.map_cons]
    unfold PySem.W.kitAny
    rw [h D (List.mem_cons_self ..)]
    exact kit_none fun E hE => h E (List.mem_cons_of_mem _ hE)
theorem vals_refs : ∀ {Cs : List Addr} {us : List Value}, Vals (Cs.map V.ref) us → us = Cs.map Value.ref
  | [], _, .nil => rfl
  | _ :: _, _, .cons h r => by
    cases h
    rw [vals_refs r]
    rfl
theorem call_isiN : CallR X (.builtin "isinstance") (fun xs H Q => ∃ (ea C tp : Addr) (Cs : List Addr), xs = [.ref ea, .ref tp] ∧ H ea = some (.ext (ExcAt ea C)) ∧ ExcCls X.K C ∧ SqT X.K H tp (Cs.map V.ref) ∧ (∀ D ∈ Cs, PySem.W.kitOne X.K (.ref C) (.ref D) = some false) ∧ Q (.bl false) H) := by
  intro pins s σ H xs us Q I r h
  obtain ⟨ea, C, tp, Cs, rfl, he, Z, ht, kt, q⟩ := h
  obtain ⟨u, u', rfl, rx, rc⟩ := vals2 r
  cases rx
  cases rc
  obtain ⟨x, _, _⟩ := (show ObjOk X.prog X.w H s.heap ea (.ext (ExcAt ea C)) from I.hok ea _ he)
  obtain ⟨its, rv, ⟨o, ho, hc, hd⟩, _⟩ := I.tuple ht
  have ei := vals_refs rv
  subst ei
  obtain ⟨c, d, dt, sl⟩ := o
  cases hc
  obtain ⟨n, hn⟩ := hd
  cases hn
  exact PySem.W.kia_tup (kitx_exc Z) I.kIn x ho (kit_none kt) (fun z => nomatch z) fun tk => ⟨.bl false, H, I.tok tk, rfl, q⟩
end
end L2
namespace L2
open PySem PySem.Spec PyProof.Rows BP
section
variable {X : Cx} {tg : Expr}
def Its (x : Str) : It := ⟨fun i _ => i < x.cps.size, fun i H v H' => H' = H ∧ ∃ c, x.cps[i]? = some c ∧ v = .str ⟨#[c]⟩, fun i _ => x.cps.size ≤ i⟩
theorem turn_str {P : Program} {w : World} {K : PySem.W.Frag} {tg : Expr} (it : Addr) (x : Str) (t : Tok) : Turn P w K tg (Its x) [it] it (fun i h => h.IsStrIter it "str_ascii_iterator" x t i) where
  mem := List.mem_singleton.mpr rfl
  obj := fun _ _ st b hb => by
    rw [List.mem_singleton.mp hb]
    obtain ⟨o, e, _, d⟩ := st
    exact ⟨o, e, fun _ z => (by rw [d] at z; cases z)⟩
  keep := fun _ _ _ ⟨o, e, r⟩ k => ⟨o, k it (List.mem_singleton.mpr rfl) o e, r⟩
  item := by
    intro X hP hw hK hc i pins s σ H E I hf st hg
    subst hP hw hK
    obtain ⟨f0, f1, _, f3, f4, f5⟩ := hf it (List.mem_singleton.mpr rfl)
    have hg : i < x.cps.size := hg
    refine wpAny_pyNext_ascii_item st (c := x.cps[i]) (Array.getElem?_eq_getElem hg) fun h2 st2 sb => ?_
    have I1 : Inv X pins σ H { s with heap := h2, toks := s.toks + 1 } := I.turned (t' := s.toks + 1) (fun b o hb e => (sb.2 b hb).trans e) f0 f1 f3 f4 f5
    obtain ⟨o, e, c, d⟩ := id st2
    exact ⟨_, rfl, go_of (s := { s with heap := h2, toks := s.toks + 1 }) e c d (by decide) ⟨.str ⟨#[x.cps[i]]⟩, H, I1, ⟨_, rfl⟩, ⟨rfl, _, Array.getElem?_eq_getElem hg, rfl⟩, st2, fun b hb => (hf b hb).1⟩⟩
  done := by
    intro X hP hw hK hc i pins s σ H E I hf st hg
    subst hP hw hK
    obtain ⟨f0, f1, _, f3, f4, f5⟩ := hf it (List.mem_singleton.mpr rfl)
    exact wpAny_pyNext_ascii_end (I.ok.hd hc) st (Array.getElem?_eq_none hg) fun h2 eb => ⟨rfl, I.turned (t' := s.toks) (fun b o hb e => eb b o hb e) f0 f1 f3 f4 f5⟩
  self := fun _ _ _ _ _ st h => wpAny_pyIter_striter_ascii st h
def iStr (tl : TE) : TI := fun σ H R => tl σ H fun v H1 => ∃ x : Str, v = .str x ∧ x.cps.all (· < 128) = true ∧ R (Its x) H1
theorem pi_str {l : Expr} {tl : TE} (hl : PE X l tl) : PI X tg l (iStr tl) := by
  intro pins s σ H R I h
  refine thn (hl pins s σ H _ I h) fun v s1 ⟨y, H1, I1, r1, x, ey, ha, q⟩ => ?_
  subst ey
  obtain ⟨t, rfl⟩ := r1
  refine wpAny_pyIter_ascii ha ⟨s1.heap.objs.size, [s1.heap.objs.size], _, Its x, H1, rfl, I1.kept (t' := s1.toks) (fun b o e => Heap.get?_push_of_some _ e), turn_str _ x t, ⟨_, Heap.get?_push_size _ rfl, rfl, rfl⟩, fun b hb => ?_, q⟩
  rw [List.mem_singleton.mp hb]
  exact I1.fpOk (Nat.le_refl _) (I1.hok.fresh (Nat.le_refl _))
theorem call_int_str : CallR X (.type "int") (fun xs H Q => ∃ (x : Str) (n : Int), xs = [.str x] ∧ x.length ≤ 640 ∧ intText? x = some n ∧ Q (.int n) H) := by
  intro pins s σ H xs us Q I r h
  obtain ⟨x, n, rfl, hz, hn, q⟩ := h
  obtain ⟨u, rfl, t, rfl⟩ := vals1 r
  exact PySem.W.KIN.call_text hn hz ⟨.int n, H, I.tok _, ⟨_, rfl⟩, q⟩
theorem mt_startswith : MtR X "str.startswith" (fun x vs H Q => ∃ a b : Str, x = .str a ∧ vs = [.str b] ∧ Q (.bl (Txt.startswith a b)) H) := by
  intro pins s σ H x vs v us Q I rx rv h
  obtain ⟨a, b, rfl, rfl, q⟩ := h
  obtain ⟨t, rfl⟩ := rx
  obtain ⟨u, rfl, t2, rfl⟩ := vals1 rv
  exact SC.startswith ⟨.bl _, H, I, rfl, q⟩
theorem YJ : MtR X "str.partition" (fun x vs H Q => ∃ a b : Str, x = .str a ∧ vs = [.str b] ∧ (b.length == 0) = false ∧ a.length ≤ sizeLine ∧ ∀ p, H p = none → Q (.ref p) (upd H p (.tup [.str (Txt.partition a b).1, .str (Txt.partition a b).2.1, .str (Txt.partition a b).2.2]))) := by
  intro pins s σ H x vs v us Q I rx rv h
  obtain ⟨a, b, rfl, rfl, hb, ha, q⟩ := h
  obtain ⟨t, rfl⟩ := rx
  obtain ⟨u, rfl, t2, rfl⟩ := vals1 rv
  have q := q _ I.fresh
  refine call_meets F.slot_str_partition (typeIs_str _ _ _) F.entry_str_partition (F.args_str_partition_2 _ _) (meets_str_partition a b t t2 hb ha) ?_
  unfold Txt.partition at q
  cases c : Builtin.Str.occurrences a b 0 a.length 1 with
  | nil =>
    rw [c] at q
    refine ⟨.ref s.heap.objs.size, _, ?_, rfl, q⟩
    exact I.laid (fun _ _ e => Heap.get?_push_of_some _ e) (Nat.le_refl _) ⟨(show 3 ≤ sizeLine by decide), _, .cons ⟨_, rfl⟩ (.cons ⟨_, rfl⟩ (.cons ⟨_, rfl⟩ .nil)), ⟨_, Heap.get?_push_size _ rfl, rfl, _, rfl⟩⟩
  | cons i rest =>
    rw [c] at q
    refine ⟨.ref s.heap.objs.size, _, ?_, rfl, q⟩
    exact I.laid (fun _ _ e => Heap.get?_push_of_some _ e) (Nat.le_refl _) ⟨(show 3 ≤ sizeLine by decide), _, .cons ⟨_, rfl⟩ (.cons ⟨_, rfl⟩ (.cons ⟨_, rfl⟩ .nil)), ⟨_, Heap.get?_push_size _ rfl, rfl, _, rfl⟩⟩
end
section
variable {prog : Program} {w : World} {A : Around} {E : Value → Shared → Prop} {s : Shared} {I l : Addr}
theorem rev_nolen : typeLookup (.type "list_reverseiterator") "__len__" = pure none := by rw [typeLookup_type, builtinLookup_eq_fast]; kernel_rfl
theorem rev_hint : typeLookup (.type "list_reverseiterator") "__length_hint__" = pure (some (.builtin "list_reverseiterator.__length_hint__")) := by rw [typeLookup_type, builtinLookup_eq_fast]; kernel_rfl
theorem collect_rev {items : Array Value} {Q : List Value → Shared → Prop} (hh : A.handled = none) (hne : l ≠ I) (hit : s.heap.IsRevIter I l ((items.size : Int) - 1)) (hl : s.heap.IsList l items) (hn : items.size ≤ sizeLine)
    (hQ : ∀ s2 acc, Moved [I] (fun a b => b = a) s s2 → ItemsOf (fun i v => items[items.size - 1 - i]? = some v) acc items.size → Q acc.toList s2) : wpAny (model prog w) A (collect (.ref I)) Q E s := by
  have W := (Walks.listRev (prog := prog) (w := w) (A := A.in1) hh I l hne items).toS
  have lt : ∀ b ∈ [I, l], b < s.heap.objs.size := fun b hb => by
    obtain ⟨o1, e1, _⟩ := id hit
    obtain ⟨o2, e2, _⟩ := id hl
    rcases List.mem_cons.mp hb with z | z
    · rw [z]; exact Heap.lt_size e1
    · rw [List.mem_singleton.mp z]; exact Heap.lt_size e2
  have nf : s.heap.objs.size ∉ [I, l] := fun z => Nat.lt_irrefl _ (lt _ z)
  have nI : s.heap.objs.size ≠ I := fun z => nf (by rw [z]; exact List.mem_cons_self ..)
  unfold collect
  refine wpAny_bind <| wpAny_runValue <| codeAny_builtin F.entry_proto_collect ?_
  rw [Around.under_plainId F.plain_proto_collect]
  change wpAny _ A.in1 (newList [] >>= fun d => again (.builtin "list.__iadd__" ⟨[d, .ref I], []⟩)) _ _ s
  refine wpAny_bind <| wpAny_newObj_type <| wpAny_pure ⟨plainId_quiet F.plain_list_iadd _, codeAny_builtin F.entry_list_iadd ?_⟩
  rw [Around.under_plainId F.plain_list_iadd]
  have st := W.frame 0 s (s.heap.push { cls := .type "list", data := .seq ([] : List Value).toArray }) s.toks ⟨Nat.zero_le _, by simpa using hit, hl⟩ (Nat.le_refl _) (fun _ _ _ e => Heap.get?_push_of_some _ e)
  have hS : (s.heap.push { cls := .type "list", data := .seq ([] : List Value).toArray }).get? s.heap.objs.size = some { cls := .type "list", data := .seq ([] : List Value).toArray } := Heap.get?_push_size _ rfl
  have ns : Builtin.List.listSameRef (.ref s.heap.objs.size) (.ref I) = false := by simp [Builtin.List.listSameRef, nI]
  have ty : Shared.TypeIs { s with heap := s.heap.push { cls := .type "list", data := .seq ([] : List Value).toArray } } (.ref I) "list_reverseiterator" := st.2.1.typeIs (s := { s with heap := s.heap.push { cls := .type "list", data := .seq ([] : List Value).toArray } })
  change wpAny _ A.in1 (Builtin.List.listExtendWith (.ref s.heap.objs.size) (.ref I) (.ref s.heap.objs.size)) _ _ _
  unfold Builtin.List.listExtendWith; refine wpAny_bind <| wpAny_typeOf ty ?_
  rw [ns, if_neg (by decide)]
  refine wpAny_bind <| W.self 0 _ _ _ st <| wpAny_bind <| wpAny_holding ?_
  unfold Builtin.List.listLengthHint; refine wpAny_bind <| wpAny_specialOf ty rev_nolen ?_
  change wpAny _ A.in1 (specialOf (Value.ref I) (Str.ofString "__length_hint__") >>= _) _ _ _
  refine wpAny_bind <| wpAny_specialOf ty rev_hint ?_
  generalize hid : ("list_reverseiterator.__length_hint__" : String) = id0
  wp_delta
  rw [show splitId id0 = some ("list_reverseiterator", "__length_hint__") by subst hid; decide +kernel]
  subst hid
  refine wpAny_bind <| wpAny_isInstance (b := true) ty (by rw [isSubtype_type]; kernel_rfl) <| wpAny_pure ?_
  rw [if_neg (by decide)]
  refine wpAny_pure ⟨plainId_quiet F.plain_extend_loop _, codeAny_extend_loopS W hn _ nf _ items.size 0 _ _ _ rfl (Nat.zero_le _) st hS (ItemsOf.nil _) fun s2 acc c2 hm e2 ha => ?_⟩
  change wpAny _ A (load s.heap.objs.size >>= _) _ _ s2
  refine wpAny_bind <| wpAny_load e2 ?_
  exact wpAny_pure (hQ s2 acc (Moved.drop_new (o := { cls := .type "list", data := .seq ([] : List Value).toArray }) (tk := s.toks) hm (Nat.le_refl _)) ha)
theorem join_rev {sep a : Str} {t u : Tok} {n : Nat} {Q : Value → Shared → Prop} (hh : A.handled = none) (hne : l ≠ I) (hit : s.heap.IsRevIter I l 0) (hl : s.heap.IsList l #[.str a u]) (hz : Builtin.Str.tooLong (0 + a.length + sep.length) = false)
    (hQ : ∀ s2, Moved [I] (fun a b => b = a) s s2 → Q (.str a u) s2) : wpAny (model prog w) A (call (.builtin "str.join") [.str sep t, .ref I]) Q E s := by
  refine wpAny_call <| codeAny_call_builtin F.slot_str_join.plain F.entry_str_join <| F.slot_str_join.check _ _ _ _ _ _ _ _ (typeIs_str _ _ _) (F.args_str_join_2 _ _) ?_
  rw [join_tree_other]
  refine wpAny_bind <| wpAny_typeOf hit.typeIs ?_
  change wpAny _ A.in1 ((pyIter (.ref I)).tryCatch _ >>= fun it => collect it >>= fun items => joinTail sep items) _ _ s
  refine wpAny_bind <| wpAny_tryCatch <| wpAny_pyIter_revIter hit ?_
  refine wpAny_bind (collect_rev (items := #[.str a u]) hh hne hit hl (show 1 ≤ sizeLine by decide) fun s2 acc hm ha => ?_)
  have ea : acc.toList = strValues [(a, u)] := by
    obtain ⟨h1, h2⟩ := ha
    have l1 : acc.toList.length = 1 := h1
    obtain ⟨z, ez⟩ := List.length_eq_one_iff.mp l1
    have e0 : acc[0]? = some z := by rw [← Array.getElem?_toList, ez]; rfl
    have z2 := h2 0 z e0
    have z3 : (Value.str a u) = z := Option.some.inj z2
    rw [ez, ← z3]
    rfl
  rw [ea]
  exact gives_joinTail sep [(a, u)] hz prog w A (wants Q E) s2 (hQ s2 hm)
end
section
variable {X : Cx}
def tJoinRev (sep : Str) (te : TE) : TE := fun σ H Q => te σ H fun x H1 => ∃ (p : Addr) (a : Str), x = .ref p ∧ H1 p = some (.lst [.str a]) ∧ Builtin.Str.tooLong (0 + a.length + sep.length) = false ∧ Q (.str a) H1
theorem pe_joinRev {e : Expr} {te : TE} {sep : Str} {j : Nat} {kpos apos p p1 cpos : Pos} (hc : X.calm = true) (hg : Gl X "reversed") (hm : X.mg "reversed" = none) (he : PE X e te)
    (hbase : attributeBase (.Constant (.str sep) j kpos) "join" X.env (eval (.Constant (.str sep) j kpos) X.env) = eval (.Constant (.str sep) j kpos) X.env := by rfl)
    (hline : (apos.endLine == cpos.line) = true := by rfl) (hs : starEach [e] X.env = [(false, eval e X.env)] := by rfl) :
    PE X (.Call (.Attribute (.Constant (.str sep) j kpos) "join" apos) [.Call (.Name "reversed" p) [e] [] p1] [] cpos) (tJoinRev sep te) := by
  intro pins s σ H Q I h
  refine wpAny_Call_method_late hbase rfl hline rfl (thn (qV (X := X) pins s σ H (fun x H1 => x = .str sep ∧ H1 = H) I ⟨rfl, rfl⟩) fun v s1 ⟨x, H1, I1, r1, ex, eH⟩ => ?_)
  subst ex eH
  obtain ⟨t, rfl⟩ := r1
  refine ⟨"str", "str.join", F.plainAttrs_str, F.slot_str_join, F.type_str_join, typeIs_str _ _ _, (fun _ z => nomatch z), ?_⟩
  refine Calls.callWith_builtin rfl (Calls.evalArgs_plain (Calls.spliced_cons ?_))
  refine wpAny_Call_Name_kw (ld_blt I1 hg hm Boot.«reversed» ?_ (by decide) (by decide))
  refine PyProof.Rows.callWith_type1 (thn (pa_cons he qj hs p1 pins s1 σ H1 (fun vs H2 => match vs with | [x] => ∃ (p : Addr) (a : Str), x = .ref p ∧ H2 p = some (.lst [.str a]) ∧ Builtin.Str.tooLong (0 + a.length + sep.length) = false ∧ Q (.str a) H2 | _ => False) I1 ?_) fun us s2 ⟨vs, H2, I2, r2, qv⟩ => ?_) hs rfl
  · exact h
  obtain ⟨x2, rfl⟩ : ∃ x, vs = [x] := by
    match vs, qv with
    | [x], _ => exact ⟨x, rfl⟩
  obtain ⟨p2, a, ex, hp, hz, q⟩ := qv
  subst ex
  obtain ⟨u2, rfl, ru⟩ := vals1 r2
  cases ru
  obtain ⟨_, its, k, rv, _, eo⟩ := I2.lstM hp
  obtain ⟨u, rfl, t3, rfl⟩ := vals1 rv
  have il : s2.heap.IsList p2 #[.str a t3] := ⟨_, eo, rfl, _, rfl⟩
  refine call_reversed_list il (Calls.spliced_nil ?_)
  have f := I2.fpOk (Nat.le_refl _) (I2.hok.fresh (Nat.le_refl _))
  have I3 : Inv X pins σ H2 { s2 with heap := s2.heap.push (revObj p2 0) } := I2.kept (t' := s2.toks) fun b o e => Heap.get?_push_of_some _ e
  have ne : p2 ≠ s2.heap.objs.size := Nat.ne_of_lt (Heap.lt_size eo)
  refine join_rev (s := { s2 with heap := s2.heap.push (revObj p2 0) }) (n := 0) (I2.ok.hd hc) ne ⟨_, Heap.get?_push_size _ rfl, rfl, rfl⟩ (il.push _) hz fun s4 hm4 => ?_
  obtain ⟨f0, f1, _, f3, f4, f5⟩ := f
  have I4 : Inv X pins σ H2 { s2 with heap := s4.heap, toks := s4.toks } := I3.turned (t' := s4.toks) (fun b o hb e => hm4.heap b o (fun z => hb (List.mem_singleton.mp z)) e) f0 f1 f3 f4 f5
  have e4 : s4 = { s2 with heap := s4.heap, toks := s4.toks } := by
    obtain ⟨h4, g4, d4, t4, o4⟩ := s4
    have a1 : g4 = s2.gens := hm4.gens
    have a2 : d4 = s2.drawn := hm4.drawn
    have a3 : o4 = s2.os := hm4.os
    subst a1 a2 a3
    rfl
  rw [e4]
  exact ⟨.str a, H2, I4, ⟨_, rfl⟩, q⟩
end
end L2
namespace BP
open PySem PySem.NumText
def figs (n : Nat) : Str := Str.ofString (toString ((n : Nat) : Int))
def figL (n : Nat) : List Nat := (Nat.toDigits 10 n).map Char.toNat
theorem xK (n : Nat) : (figs n).cps.toList = figL n := PySem.W.KIN.signs_num n
theorem vJ {a b : Str} (h : a.cps.toList = b.cps.toList) : a = b := by
  obtain ⟨⟨x⟩⟩ := a
  obtain ⟨⟨y⟩⟩ := b
  have h : x = y := h
  rw [h]
theorem v3 (a : Str) : a.length = a.cps.toList.length := (Array.length_toList ..).symm
theorem Z7 {n : Nat} (h : n < 10) : figL n = [48 + n] := by
  unfold figL
  rw [Nat.toDigits_of_lt_base h]
  have c : ∀ d : Nat, d < 10 → (Nat.digitChar d).toNat = 48 + d := by decide
  rw [List.map_cons, c n h]
  rfl
theorem figL_step {n : Nat} (h : 10 ≤ n) : figL n = figL (n / 10) ++ [48 + n % 10] := by
  have hm : n % 10 < 10 := Nat.mod_lt n (by decide)
  have t : Nat.toDigits 10 (n / 10) ++ Nat.toDigits 10 (n % 10) = Nat.toDigits 10 (10 * (n / 10) + n % 10) := Nat.toDigits_append_toDigits (by decide) (by omega) hm
  rw [Nat.div_add_mod] at t
  have e := Z7 hm
  unfold figL at e ⊢
  rw [← t, List.map_append, e]
theorem figL_all (n : Nat) : AllDigits (figL n) := by
  induction n using Nat.strongRecOn with
  | _ n ih =>
    by_cases h : n < 10
    · rw [Z7 h]
      intro c hc
      rw [List.mem_singleton.mp hc]
      omega
    · rw [figL_step (by omega)]
      intro c hc
      rcases List.mem_append.mp hc with z | z
      · exact ih (n / 10) (by omega) c z
      · rw [List.mem_singleton.mp z]
        omega
theorem figL_head (n : Nat) : ∃ c cs, figL n = c :: cs ∧ (n ≠ 0 → c ≠ 48) ∧ (n = 0 → c = 48 ∧ cs = []) := by
  induction n using Nat.strongRecOn with
  | _ n ih =>
    by_cases h : n < 10
    · exact ⟨48 + n, [], Z7 h, fun _ => by omega, fun z => ⟨by omega, rfl⟩⟩
    · obtain ⟨c, cs, e, h1, _⟩ := ih (n / 10) (by omega)
      exact ⟨c, cs ++ [48 + n % 10], by rw [figL_step (by omega), e]; rfl, fun _ => h1 (by omega), fun z => by omega⟩
theorem figL_len : ∀ {k n : Nat}, n < 10 ^ (k + 1) → (figL n).length ≤ k + 1
  | 0, n, h => by rw [Z7 (by omega)]; exact Nat.le_refl _
  | k + 1, n, h => by
    by_cases c : n < 10
    · rw [Z7 c]
      show 1 ≤ _
      omega
    · have q : n / 10 < 10 ^ (k + 1) := by
        rw [Nat.div_lt_iff_lt_mul (by decide), ← Nat.pow_succ]
        exact h
      have := figL_len q
      rw [figL_step (by omega), List.length_append]
      show _ + 1 ≤ _
      omega
theorem w5 {n : Nat} (h : n < 10 ^ 60) : 1 ≤ (figs n).length ∧ (figs n).length ≤ 60 := by
  rw [v3, xK]
  refine ⟨?_, figL_len (k := 59) h⟩
  obtain ⟨c, cs, e, _⟩ := figL_head n
  rw [e]
  show 1 ≤ cs.length + 1
  omega
theorem sub_one {x : Str} {c i : Nat} : Builtin.Str.subAt x ⟨#[c]⟩ i = true ↔ x.cps.toList[i]? = some c := by
  unfold Builtin.Str.subAt
  rw [beq_iff_eq]
  show x.cps.extract i (i + 1) = #[c] ↔ _
  obtain ⟨⟨l⟩⟩ := x
  constructor
  · intro h
    have h2 := congrArg Array.toList h
    simp only [Array.toList_extract] at h2
    have h3 : (l.drop i).take 1 = [c] := by simpa [List.extract] using h2
    have h4 : ((l.drop i).take 1)[0]? = some c := by rw [h3]; rfl
    simpa using h4
  · intro h
    have h : l[i]? = some c := h
    apply Array.ext'
    simp only [Array.toList_extract]
    show List.extract l i (i + 1) = [c]
    have hl := (List.getElem?_eq_some_iff.mp h).1
    have e : l.drop i = c :: l.drop (i + 1) := by
      rw [List.drop_eq_getElem_cons hl]
      congr 1
      exact (List.getElem?_eq_some_iff.mp h).2
    simp [List.extract, e]
theorem at_one {x : Str} {c i : Nat} : StrLaws.At x ⟨#[c]⟩ x.length i ↔ x.cps.toList[i]? = some c := by
  unfold StrLaws.At
  rw [sub_one]
  constructor
  · exact fun h => h.2
  · intro h
    refine ⟨?_, h⟩
    have := (List.getElem?_eq_some_iff.mp h).1
    rw [v3]
    exact this
theorem Yw {a b : Str} {c : Nat} (h : c ∉ a.cps.toList) : Txt.partition (a ++ ⟨#[c]⟩ ++ b) ⟨#[c]⟩ = (a, ⟨#[c]⟩, b) := by
  have el : (a ++ ⟨#[c]⟩ ++ b).cps.toList = a.cps.toList ++ c :: b.cps.toList := by
    rw [PyProof.Rows.cps_toList_append, PyProof.Rows.cps_toList_append, List.append_assoc]
    rfl
  have hat : StrLaws.At (a ++ ⟨#[c]⟩ ++ b) ⟨#[c]⟩ (a ++ ⟨#[c]⟩ ++ b).length a.cps.toList.length := at_one.mpr (by rw [el]; simp)
  unfold Txt.partition
  rcases StrLaws.occ_head (a ++ ⟨#[c]⟩ ++ b) ⟨#[c]⟩ 1 (Nat.le_refl 1) with ⟨_, hn⟩ | ⟨i, r, h0, hi, hn⟩
  · exact absurd hat (hn _)
  · rw [h0]
    have hi2 := at_one.mp hi
    have ei : i = a.cps.toList.length := by
      rcases Nat.lt_trichotomy i a.cps.toList.length with z | z | z
      · rw [el, List.getElem?_append_left z] at hi2
        exact absurd (List.mem_of_getElem? hi2) h
      · exact z
      · exact absurd hat (hn _ z)
    subst ei
    refine Prod.ext (vJ ?_) (Prod.ext rfl (vJ ?_))
    · show ((a ++ ⟨#[c]⟩ ++ b).cps.extract 0 a.cps.toList.length).toList = _
      rw [Array.toList_extract, el]
      simp [List.extract]
    · show ((a ++ ⟨#[c]⟩ ++ b).cps.extract (a.cps.toList.length + 1) (a ++ ⟨#[c]⟩ ++ b).length).toList = _
      rw [Array.toList_extract, v3, el]
      show ((a.cps.toList ++ c :: b.cps.toList).drop (a.cps.toList.length + 1)).take _ = _
      rw [← List.drop_drop, List.drop_left]
      show (b.cps.toList).take _ = _
      rw [List.take_of_length_le]
      rw [List.length_append, List.length_cons]
      omega
theorem part_none {a : Str} {c : Nat} (h : c ∉ a.cps.toList) : Txt.partition a ⟨#[c]⟩ = (a, Str.empty, Str.empty) := by
  unfold Txt.partition
  rcases StrLaws.occ_head a ⟨#[c]⟩ 1 (Nat.le_refl 1) with ⟨h0, _⟩ | ⟨i, r, _, hi, _⟩
  · rw [h0]
  · exact absurd (List.mem_of_getElem? (at_one.mp hi)) h
theorem starts_one (x : Str) (c : Nat) : Txt.startswith x ⟨#[c]⟩ = decide (x.cps.toList[0]? = some c) := by
  unfold Txt.startswith
  by_cases h : x.cps.toList[0]? = some c
  · rw [sub_one.mpr h, decide_eq_true h]
    have := (List.getElem?_eq_some_iff.mp h).1
    rw [← v3] at this
    show (decide (0 + 1 ≤ x.length) && true) = true
    rw [decide_eq_true (p := 0 + 1 ≤ x.length) (by omega)]
    rfl
  · rw [decide_eq_false h, Bool.eq_false_iff.mpr fun z => h (sub_one.mp z), Bool.and_false]
end BP
namespace L2
open PySem PySem.Spec PyProof.Rows BP
section
variable {X : Cx}
inductive IsS (K : PySem.W.Frag) (H : Hp) : V → Prop where
  | int (i : Int) : IsS K H (.int i)
  | bl (b : Bool) : IsS K H (.bl b)
  | non : IsS K H .non
  | tup {a : Addr} {xs : List V} (h : SqT K H a xs) : IsS K H (.ref a)
  | lst {a : Addr} {xs : List V} (h : SqL K H a xs) : IsS K H (.ref a)
  | dict {a : Addr} {kvs : List (Key × V)} (h : H a = some (.dK kvs)) : IsS K H (.ref a)
theorem call_iss : CallR X (.builtin "isinstance") (fun xs H Q => ∃ x, xs = [x, .ty "str"] ∧ ((∃ z : Str, x = .str z ∧ Q (.bl true) H) ∨ (IsS X.K H x ∧ Q (.bl false) H))) := by
  intro pins s σ H xs us Q I r h
  obtain ⟨x, rfl, h⟩ := h
  obtain ⟨u, u', rfl, rx, rt⟩ := vals2 r
  cases rt
  rcases h with ⟨z, rfl, q⟩ | ⟨hi, q⟩
  · obtain ⟨t, rfl⟩ := rx
    exact IsiPair.str_str ⟨.bl true, H, I, rfl, q⟩
  cases hi with
  | int i => obtain ⟨t, rfl⟩ := rx; exact IsiPair.int_str ⟨.bl false, H, I.tok _, rfl, q⟩
  | bl b => cases rx; exact IsiPair.bool_str ⟨.bl false, H, I.tok _, rfl, q⟩
  | non => cases rx; exact IsiPair.NoneType_str ⟨.bl false, H, I.tok _, rfl, q⟩
  | tup h =>
    cases rx
    obtain ⟨_, _, ⟨o, ho, hc, _⟩, _⟩ := I.tuple h
    exact IsiPair.tuple_str ho hc ⟨.bl false, H, I.tok _, rfl, q⟩
  | lst h =>
    cases rx
    obtain ⟨_, _, p, _⟩ := I.list h
    obtain ⟨o, ho, hc, _⟩ := p.isList
    exact IsiPair.list_str ho hc ⟨.bl false, H, I.tok _, rfl, q⟩
  | @dict ad kvs h =>
    cases rx
    obtain ⟨_, _, _, _, o, _, _, h1, h2, _⟩ := (show ObjOk X.prog X.w H s.heap ad (.dK kvs) from I.hok ad _ h)
    exact IsiPair.dict_str h1 h2.1 ⟨.bl false, H, I.tok _, rfl, q⟩
def cutS (x : Str) (lo hi : Option Int) : Str := ⟨((x.cps.toList.drop (HT.sIx x.length 0 lo)).take (HT.sIx x.length x.length hi - HT.sIx x.length 0 lo)).toArray⟩
theorem cut_pick (x : Str) (lo hi : Option Int) : (Builtin.Str.strSliceIndices lo hi 1 x.length).filterMap (x.cps[·]?) = (cutS x lo hi).cps.toList := by
  obtain ⟨h1, h2, _⟩ := Yx lo hi x.length
  have e : Builtin.Str.strSliceIndices lo hi 1 x.length = sliceRange (sliceBounds lo hi none x.length).1 (sliceBounds lo hi none x.length).2.1 1 := rfl
  rw [e, h1, h2, sliceRange_one, pick_run]
  rfl
theorem cut_len (x : Str) (lo hi : Option Int) : (cutS x lo hi).cps.toList.length ≤ x.length := by
  show ((x.cps.toList.drop _).take _).length ≤ _
  rw [List.length_take, List.length_drop]
  have : x.cps.toList.length = x.length := Array.length_toList ..
  omega
theorem cut_whole (x : Str) (lo hi : Option Int) (h : (Builtin.Str.strSliceIndices lo hi 1 x.length).length = x.length) : cutS x lo hi = x := by
  obtain ⟨h1, h2, _⟩ := Yx lo hi x.length
  have e : Builtin.Str.strSliceIndices lo hi 1 x.length = sliceRange (sliceBounds lo hi none x.length).1 (sliceBounds lo hi none x.length).2.1 1 := rfl
  rw [e, h1, h2, sliceRange_one, List.length_map, List.length_range] at h
  have lx : x.cps.toList.length = x.length := Array.length_toList ..
  have b : HT.sIx x.length x.length hi ≤ x.length := by
    unfold HT.sIx
    cases hi with
    | none => exact Nat.le_refl _
    | some j => dsimp only; split <;> omega
  apply vJ
  show ((x.cps.toList.drop _).take _) = _
  by_cases z : x.length = 0
  · have : x.cps.toList = [] := List.length_eq_zero_iff.mp (by omega)
    rw [this]
    simp
  · rw [show HT.sIx x.length 0 lo = 0 by omega, List.drop_zero, List.take_of_length_le (by omega)]
theorem sl_strG : SlR X (fun x lo hi H Q => ∃ a : Str, x = .str a ∧ a.length ≤ sizeLine ∧ Q (.str (cutS a lo hi)) H) := by
  intro pins s σ H x v vl vu lo hi sl Q I rx hs pl pu h
  obtain ⟨a, rfl, hz, q⟩ := h
  obtain ⟨t, rfl⟩ := rx
  have key : ∀ l u : Option (Int × Tok), s.heap.IsSlice sl l u none → l.map (·.1) = lo → u.map (·.1) = hi → wpAny (model X.prog X.w) X.A (getItem (.str a t) (.ref sl)) (EP X pins σ Q) X.xe s := fun l u hsl el eu => by
    refine wpAny_getItem_str_slice hsl rfl ?_
    have ep : slicePicked a l u none = Builtin.Str.strSliceIndices lo hi 1 a.length := by unfold slicePicked; rw [el, eu]; rfl
    unfold sliceMade
    rw [ep]
    by_cases c : (Builtin.Str.strSliceIndices lo hi 1 a.length).length = a.length
    · rw [if_pos (by rw [c]; simp)]
      rw [cut_whole a lo hi c] at q
      exact ⟨.str a, H, I, ⟨_, rfl⟩, q⟩
    · rw [if_neg (by simp [c]), cut_pick]
      refine ⟨?_, .str _, H, I.tok _, ⟨_, rfl⟩, q⟩
      have := cut_len a lo hi
      exact Nat.le_trans (show (cutS a lo hi).cps.toList.toArray.size ≤ _ by rw [List.size_toArray]; exact this) hz
  refine ⟨"str", _, F.slot_str_getitem.lookup, typeIs_str _ _ _, ?_⟩
  cases pl with
  | none =>
    cases pu with
    | none => exact key none none hs rfl rfl
    | int j tj => exact key none (some (j, tj)) hs rfl rfl
  | int i ti =>
    cases pu with
    | none => exact key (some (i, ti)) none hs rfl rfl
    | int j tj => exact key (some (i, ti)) (some (j, tj)) hs rfl rfl
theorem vals_from : ∀ (xs : List Str) (k : Nat), Vals (xs.map V.str) (strsFrom k xs)
  | [], _ => .nil
  | _ :: xs, k => .cons ⟨_, rfl⟩ (vals_from xs (k + 1))
theorem QZ : MtR X "str.split" (fun x vs H Q => ∃ a b : Str, x = .str a ∧ vs = [.str b] ∧ (b.length == 0) = false ∧ a.length + 2 ≤ sizeLine ∧ ∀ p, H p = none → Q (.ref p) (upd H p (.lst ((Txt.split a b).map V.str)))) := by
  intro pins s σ H x vs v us Q I rx rv h
  obtain ⟨a, b, rfl, rfl, hb, ha, q⟩ := h
  obtain ⟨t, rfl⟩ := rx
  obtain ⟨u, rfl, t2, rfl⟩ := vals1 rv
  have q := q _ I.fresh
  have sl := split_le a b
  unfold Txt.split at q sl
  by_cases h1 : (decide (a.length < b.length) || decide (Builtin.Str.strKind a < Builtin.Str.strKind b)) = true
  · rw [if_pos h1] at q
    refine call_meets F.slot_str_split (typeIs_str _ _ _) F.entry_str_split (F.args_str_split_2 _ _) (meets_str_split_cannot_occur a b t t2 h1) ?_
    exact ⟨.ref s.heap.objs.size, _, I.lnew (t' := s.toks) (its := [.str a t]) (ys := [.str a]) (.cons ⟨_, rfl⟩ .nil) (show 1 ≤ sizeLine by decide), rfl, q⟩
  · rw [if_neg h1] at q sl
    have h1 := Bool.eq_false_iff.mpr h1
    by_cases h2 : (Builtin.Str.occurrences a b 0 a.length (a.length + 1)).isEmpty = true
    · rw [if_pos h2] at q
      refine call_meets F.slot_str_split (typeIs_str _ _ _) F.entry_str_split (F.args_str_split_2 _ _) (meets_str_split_not_found a b t t2 h1 hb h2) ?_
      exact ⟨.ref s.heap.objs.size, _, I.lnew (t' := s.toks) (its := [.str a t]) (ys := [.str a]) (.cons ⟨_, rfl⟩ .nil) (show 1 ≤ sizeLine by decide), rfl, q⟩
    · rw [if_neg h2] at q sl
      have hl : (Builtin.Str.partsBetween a (Builtin.Str.occurrences a b 0 a.length (a.length + 1)) b.length).length ≤ sizeLine := by omega
      refine call_meets F.slot_str_split (typeIs_str _ _ _) F.entry_str_split (F.args_str_split_2 _ _) (meets_str_split_sep a b t t2 h1 hb (Bool.eq_false_iff.mpr h2) (by omega) hl) ?_
      exact ⟨.ref s.heap.objs.size, _, I.lnew (t' := s.toks + _) (vals_from _ _) (by rw [List.length_map]; exact hl), rfl, q⟩
theorem op_mul_str : OpR X (binaryOp .Mult) (fun x y H Q => ∃ (a : Str) (n : Int), x = .str a ∧ y = .int n ∧ MulOk a n ∧ Q (.str (Txt.mul a n)) H) := by
  intro pins s σ H x y v u Q I rx ry h
  obtain ⟨a, n, rfl, rfl, hok, q⟩ := h
  obtain ⟨t, rfl⟩ := rx
  obtain ⟨t2, rfl⟩ := ry
  exact SB.mul hok fun t3 k => ⟨.str _, H, I.tok _, ⟨_, rfl⟩, q⟩
def cV : Expr → Option V
  | .Constant (.str z) _ _ =>
    some (.str z)
  | .Constant (.int n) _ _ => some (.int n)
  | .Constant (.bool b) _ _ => some (.bl b)
  | .Constant .none _ _ => some .non
  | _ => none
def cVs : List Expr → Option (List V)
  | [] => some []
  | e :: es => (cV e).bind fun v => (cVs es).map (v :: ·)
theorem pa_one {e : Expr} {es : List Expr} {v : V} {t : TA} (h : cV e = some v) (hr : PA X es t) : PA X (e :: es) (fun σ H Q => t σ H fun vs H' => Q (v :: vs) H') := by
  cases e with
  | Constant k j pos =>
    cases k with
    | str x => cases h; exact pa_cons qV hr (qq rfl _ _)
    | int n => cases h; exact pa_cons qw hr (qq rfl _ _)
    | bool b => cases h; exact pa_cons pe_bl hr (qq rfl _ _)
    | none => cases h; exact pa_cons vX hr (qq rfl _ _)
    | _ => cases h
  | _ => cases h
theorem pa_all : ∀ {es : List Expr} {vs : List V}, cVs es = some vs → PA X es (fun _ H Q => Q vs H)
  | [], vs, h => by cases h; exact qj
  | e :: es, vs, h => by
    unfold cVs at h
    cases h1 : cV e with
    | none =>
      rw [h1] at h
      cases h
    | some v =>
      cases h2 : cVs es with
      | none =>
        rw [h1, h2] at h
        cases h
      | some ws =>
        rw [h1, h2] at h
        cases h
        exact pa_one h1 (pa_all h2)
theorem pa_cut : ∀ (n : Nat) {es : List Expr} {vs : List V} {t : TA}, cVs (es.take n) = some vs → PA X (es.drop n) t → PA X es (fun σ H Q => t σ H fun ws H' => Q (vs ++ ws) H')
  | 0, es, vs, t, h, k => by cases h; exact k
  | n + 1, [], vs, t, h, k => by cases h; exact k
  | n + 1, e :: es, vs, t, h, k => by
    rw [List.take_succ_cons] at h
    unfold cVs at h
    cases h1 : cV e with
    | none =>
      rw [h1] at h
      cases h
    | some v =>
      cases h2 : cVs (es.take n) with
      | none =>
        rw [h1, h2] at h
        cases h
      | some ws =>
        rw [h1, h2] at h
        cases h
        exact pa_one h1 (pa_cut n h2 k)
end
end L2
namespace BP
open PySem PySem.NumText L2
def valS (a : Str) : Nat := digitsVal a.cps.toList
def goodS (a : Str) : Prop := 1 ≤ a.length ∧ a.length ≤ 60 ∧ AllDigits a.cps.toList ∧ (a.cps.toList[0]? = some 48 → a = ⟨#[48]⟩)
theorem fig_back : ∀ (k : Nat) (cs : List Nat), cs.length = k → AllDigits cs → cs ≠ [] → (cs[0]? = some 48 → cs = [48]) → figL (digitsVal cs) = cs
  | 0, cs, hk, _, ne, _ => absurd (List.length_eq_zero_iff.mp hk) ne
  | k + 1, cs, hk, hd, ne, h0 => by
    obtain ⟨ds, d, e⟩ : ∃ ds d, cs = ds ++ [d] := ⟨cs.dropLast, cs.getLast ne, (List.dropLast_concat_getLast ne).symm⟩
    subst e
    have hdd : 48 ≤ d ∧ d ≤ 57 := hd d (List.mem_append_right _ (List.mem_singleton.mpr rfl))
    rw [digitsVal_snoc]
    have ld : ds.length = k := by
      rw [List.length_append] at hk
      exact Nat.succ.inj hk
    cases hds : ds with
    | nil =>
      show figL (0 * 10 + (d - 48)) = [d]
      rw [Z7 (by omega)]
      exact congrArg (fun z => [z]) (by omega)
    | cons c rest =>
      have c48 : c ≠ 48 := fun z => by
        have y := h0 (by rw [hds, z]; rfl)
        rw [hds] at y
        have y2 := congrArg List.length y
        simp at y2
      have ih := fig_back k ds ld (fun x hx => hd x (List.mem_append_left _ hx)) (by rw [hds]; exact List.cons_ne_nil _ _) (fun z => by
        rw [hds] at z
        exact absurd (Option.some.inj z) c48)
      rw [← hds]
      have pos : 1 ≤ digitsVal ds := by
        rcases Nat.eq_zero_or_pos (digitsVal ds) with z | z
        · rw [z, Z7 (by decide), hds] at ih
          have y : (48 : Nat) = c := (List.cons.inj ih).1
          exact absurd y.symm c48
        · exact z
      rw [figL_step (by omega), show (digitsVal ds * 10 + (d - 48)) / 10 = digitsVal ds by omega, show 48 + (digitsVal ds * 10 + (d - 48)) % 10 = d by omega, ih]
theorem goodS_figs {a : Str} (h : goodS a) : a = figs (valS a) := by
  obtain ⟨h1, _, h3, h4⟩ := h
  have ne : a.cps.toList ≠ [] := fun z => by rw [v3, z] at h1; exact absurd h1 (by decide)
  exact vJ (by
    rw [xK]
    exact (fig_back _ _ rfl h3 ne fun z => by rw [h4 z]).symm)
theorem val_lt : ∀ (k : Nat) (cs : List Nat), cs.length = k → AllDigits cs → digitsVal cs < 10 ^ k
  | 0, cs, hk, _ => by
    rw [List.length_eq_zero_iff.mp hk]
    decide
  | k + 1, cs, hk, hd => by
    have ne : cs ≠ [] := fun z => by rw [z] at hk; cases hk
    obtain ⟨ds, d, e⟩ : ∃ ds d, cs = ds ++ [d] := ⟨cs.dropLast, cs.getLast ne, (List.dropLast_concat_getLast ne).symm⟩
    subst e
    have hdd : 48 ≤ d ∧ d ≤ 57 := hd d (List.mem_append_right _ (List.mem_singleton.mpr rfl))
    have ld : ds.length = k := by
      rw [List.length_append] at hk
      exact Nat.succ.inj hk
    have ih := val_lt k ds ld fun x hx => hd x (List.mem_append_left _ hx)
    rw [digitsVal_snoc, Nat.pow_succ]
    omega
theorem goodS_val {a : Str} (h : goodS a) : valS a < 10 ^ 60 := by
  have z := val_lt _ _ rfl h.2.2.1
  have l := h.2.1
  rw [v3] at l
  exact Nat.lt_of_lt_of_le z (Nat.pow_le_pow_right (by decide) l)
theorem ZX {a : Str} (h : goodS a) : intText? a = some (valS a : Int) := by
  have ne : a.cps.toList ≠ [] := fun z => by
    have := h.1
    rw [v3, z] at this
    exact absurd this (by decide)
  exact intText_digits h.2.2.1 ne (by have := h.2.1; omega)
theorem figs_val (n : Nat) : valS (figs n) = n := by
  unfold valS
  rw [xK]
  exact PySem.W.KIN.val_back n
def sgnS (s : Bool) : Str := if s then Str.ofString "-" else Str.empty
def Asc (x : Str) : Prop := ∀ c ∈ x.cps.toList, c < 128
theorem Asc.all {x : Str} (h : Asc x) : x.cps.all (· < 128) = true := by
  rw [Array.all_eq_true']
  exact fun c hc => decide_eq_true (show c < 128 from h c (Array.mem_toList_iff.mpr hc))
structure Pts (x : Str) (s : Bool) (ps : List Str) : Prop where
  sg : s = decide (x.cps.toList[0]? = some 45)
  eq : x = sgnS s ++ Str.join ⟨#[47]⟩ ps
  ne : ps ≠ []
  free : ∀ p ∈ ps, 47 ∉ p.cps.toList
theorem zX (a b : Str) : (a ++ b).cps.toList = a.cps.toList ++ b.cps.toList := PyProof.Rows.cps_toList_append a b
theorem join_mem {c : Nat} : ∀ {ps : List Str} {p : Str}, p ∈ ps → c ∈ p.cps.toList → c ∈ (Str.join ⟨#[47]⟩ ps).cps.toList
  | [a], p, hp, hc => by rw [List.mem_singleton.mp hp] at hc; exact hc
  | a :: b :: r, p, hp, hc => by
    show c ∈ (a ++ ⟨#[47]⟩ ++ Str.join ⟨#[47]⟩ (b :: r)).cps.toList
    rw [zX, zX]
    rcases List.mem_cons.mp hp with z | z
    · rw [z] at hc
      exact List.mem_append_left _ (List.mem_append_left _ hc)
    · exact List.mem_append_right _ (join_mem z hc)
theorem Pts.asc {x : Str} {s : Bool} {ps : List Str} (h : Pts x s ps) (hx : Asc x) : ∀ p ∈ ps, Asc p := fun p hp c hc => hx c (by
  rw [h.eq, zX]
  exact List.mem_append_right _ (join_mem hp hc))
theorem pts_split {x y : Str} {s : Bool} (hs : s = decide (x.cps.toList[0]? = some 45)) (e : x = sgnS s ++ y) : Pts x s (Txt.split y ⟨#[47]⟩) :=
  ⟨hs, by rw [StrLaws.join_split]; exact e, fun z => by
    have := PyProof.Rows.split_pos y ⟨#[47]⟩
    rw [z] at this
    exact absurd this (by decide), StrLaws.split_free y 47⟩
def tv (s : Bool) (a : Str) : Int := if s then -(valS a : Int) else (valS a : Int)
open Classical in
noncomputable def outP (s : Bool) : List Str → Option (Int × Int)
  | [a] => if goodS a ∧ ¬ (s = true ∧ valS a = 0) then some (tv s a, 1) else none
  | [a, b] => if goodS a ∧ goodS b ∧ ¬ (s = true ∧ valS a = 0) ∧ 2 ≤ valS b ∧ Nat.gcd (valS b) (valS a) = 1 then some (tv s a, (valS b : Int)) else none
  | _ => none
theorem out1 {s : Bool} {a : Str} (k : goodS a ∧ ¬ (s = true ∧ valS a = 0)) : outP s [a] = some (tv s a, 1) := if_pos k
theorem out1n {s : Bool} {a : Str} (k : ¬ (goodS a ∧ ¬ (s = true ∧ valS a = 0))) : outP s [a] = none := if_neg k
theorem out2 {s : Bool} {a b : Str} (k : goodS a ∧ goodS b ∧ ¬ (s = true ∧ valS a = 0) ∧ 2 ≤ valS b ∧ Nat.gcd (valS b) (valS a) = 1) : outP s [a, b] = some (tv s a, (valS b : Int)) := if_pos k
theorem out2n {s : Bool} {a b : Str} (k : ¬ (goodS a ∧ goodS b ∧ ¬ (s = true ∧ valS a = 0) ∧ 2 ≤ valS b ∧ Nat.gcd (valS b) (valS a) = 1)) : outP s [a, b] = none := if_neg k
theorem tv_gcd (s : Bool) (a : Str) (m : Nat) : Int.gcd (tv s a) (m : Int) = Nat.gcd (valS a) m := by
  unfold tv
  split
  · rw [Int.neg_gcd]; rfl
  · rfl
theorem outP_ratio {s : Bool} {ps : List Str} {t b : Int} (h : outP s ps = some (t, b)) : IsR t b := by
  match ps, h with
  | [a], h =>
    by_cases k : goodS a ∧ ¬ (s = true ∧ valS a = 0)
    · rw [out1 k] at h
      cases h
      exact ⟨by decide, by simp⟩
    · rw [out1n k] at h
      cases h
  | [a, c], h =>
    by_cases k : goodS a ∧ goodS c ∧ ¬ (s = true ∧ valS a = 0) ∧ 2 ≤ valS c ∧ Nat.gcd (valS c) (valS a) = 1
    · rw [out2 k] at h
      cases h
      refine ⟨by omega, ?_⟩
      rw [tv_gcd, Nat.gcd_comm]
      exact k.2.2.2.2
    · rw [out2n k] at h
      cases h
  | [], h => cases h
  | _ :: _ :: _ :: _, h => cases h
end BP
namespace L2
open PySem PySem.Spec PyProof.Rows BP
def OnWay (B : Heap) (l : List Env) (e : Addr) (cls a0 : Value) (h : Heap) : Prop :=
  B.StaysIn h ∧ B.get? e = none ∧ h.FunFrames B l ∧ ∃ fl, h.TracedAtW B e cls a0 fl
theorem third_set {B h : Heap} {l : List Env} {T : Addr} {oT : Obj} {ts : Array Value} (v : Value) (k : B.StaysIn h) (fr : h.FunFrames B l) (nT : B.get? T = none) (hT : h.get? T = some oT) (dT : oT.data = .fields ts) :
    ∃ h', h' = h.update T (Obj.mapFields (·.setIfInBounds 3 v)) ∧ B.StaysIn h' ∧ h'.FunFrames B l ∧ (∀ b, b ≠ T → h'.get? b = h.get? b) ∧ (∃ oT', h'.get? T = some oT' ∧ oT'.data = .fields (ts.setIfInBounds 3 v)) ∧ h.UpToSlots h' := by
  have oth : ∀ b, b ≠ T → (h.update T (Obj.mapFields (·.setIfInBounds 3 v))).get? b = h.get? b := fun b hb => Heap.get?_update_other _ _ fun z => hb z.symm
  have ne : ∀ {b : Addr} {o : Obj}, h.get? b = some o → (∀ vs, o.data ≠ .fields vs) → b ≠ T := by
    intro b o e1 e2 z
    subst z
    rw [hT] at e1
    cases e1
    exact e2 _ dT
  have dd := Obj.data_mapFields dT (·.setIfInBounds 3 v)
  refine ⟨_, rfl, fun b o e => ?_, fr.of_keeps fun b o e1 e2 => ⟨o, ?_, rfl⟩, oth, ⟨_, Heap.get?_update_self _ hT (Obj.isFreed_of_fields dd), dd⟩, fun b o e1 e2 => ⟨o.slots, ?_⟩⟩
  · rw [oth b (fun z => by subst z; rw [nT] at e; cases e)]
    exact k b o e
  · rw [oth b (ne e1 e2)]
    exact e1
  · rw [oth b (ne e1 e2)]
    exact e1
section
variable {M : Model} {A : Around} {E : Value → Shared → Prop} {s : Shared} {B : Heap} {l : List Env} {e : Addr} {cls a0 : Value}
theorem flight_any {Q : Unit → Shared → Prop} {f : Option Addr} (w : OnWay B l e cls a0 s.heap) (q : ∀ h', OnWay B l e cls a0 h' → s.heap.UpToSlots h' → Q () { s with heap := h' }) : wpAny M A (setFlight (.ref e) f) Q E s := by
  obtain ⟨k, ne, fr, fl, oe, vs, T, oT, ts, eat, hc, dat, h1, nT, Te, hT, dT, h3⟩ := w
  obtain ⟨h', eh, k', fr', oth, ⟨oT', hT', dT'⟩, up⟩ := third_set (f.elim Value.none fun f => rawInt f) k fr nT hT dT
  have lt : 3 < ts.size := (Array.getElem?_eq_some_iff.mp h3).1
  unfold setFlight
  refine wpAny_bind (wpAny_field eat dat h1 ?_)
  rw [if_pos (by simp)]
  refine wpAny_setField hT dT lt ?_
  rw [← eh]
  exact q h' ⟨k', ne, fr', f.elim Value.none fun f => rawInt f, oe, vs, T, oT', _, by rw [oth e (Ne.symm Te)]; exact eat, hc, dat, h1, nT, Te, hT', dT', by rw [Array.getElem?_setIfInBounds_self_of_lt lt]⟩ up
theorem pass_any {what : String} {cenv : Env} {Q : Value → Shared → Prop} (w : OnWay B l e cls a0 s.heap) (q : ∀ h', OnWay B l e cls a0 h' → s.heap.UpToSlots h' → E (.ref e) { s with heap := h' }) :
    wpAny M A (PySem.passOn what (.ref e) cenv : Sem Value) Q E s := by
  obtain ⟨k, ne, fr, fl, oe, vs, T, oT, ts, eat, hc, dat, h1, nT, Te, hT, dT, h3⟩ := id w
  unfold PySem.passOn
  refine wpAny_bind (wpAny_field eat dat h1 ?_)
  rw [if_neg (by simp)]
  first
    | exact wpAny_bind (wpAny_pure (wpAny_bind (flight_any w fun h' w' up => wpAny_throw (q h' w' up))))
    | exact wpAny_bind (flight_any w fun h' w' up => wpAny_throw (q h' w' up))
theorem leave_any {env : Env} {outer : List Env} {L : Addr} {Q : Unit → Shared → Prop} (hA : A.frames = some (env :: outer)) (hf : env.frame = some L) (w : OnWay B (env :: outer) e cls a0 s.heap)
    (q : ∀ h', Heap.FlyingW B outer e cls a0 h' → s.heap.UpToSlots h' → Q () { s with heap := h' }) : wpAny M A (leaving env (.ref e)) Q E s := by
  have land : ∀ h4, Heap.HeldW B (env :: outer) e cls a0 L h4 → s.heap.UpToSlots h4 → wpAny M A (setFlight (.ref e) none) Q E { s with heap := h4 } := fun h4 held up =>
    wpAny_landsW held fun h5 fl up5 => by
      obtain ⟨k1, k2, ⟨_, _, k3⟩, k4⟩ := fl
      exact q h5 ⟨k1, k2, k3, k4⟩ (up.trans up5)
  have slots0 : s.heap.UpToSlots s.heap := fun b o e1 _ => ⟨o.slots, e1⟩
  obtain ⟨k, ne, fr, fl, tr⟩ := w
  unfold leaving
  refine wpAny_bind ?_
  by_cases hfl : fl = rawInt L
  · subst hfl
    exact wpAny_noteFrame_againW hf tr (land s.heap ⟨k, ne, fr, tr⟩ slots0)
  · obtain ⟨oe, vs, T, oT, ts, eat, ⟨hc, h0⟩, dat, h1, nT, Te, hT, dT, h3⟩ := tr
    obtain ⟨h', eh, k', fr', oth, ⟨oT', hT', dT'⟩, up⟩ := third_set .none k fr nT hT dT
    have lt : 1 < vs.size := (Array.getElem?_eq_some_iff.mp h1).1
    subst hc
    unfold noteFrame
    simp only [hf]
    refine wpAny_bind (wpAny_field eat dat h1 ?_)
    rw [if_pos (by simp)]
    refine wpAny_bind (wpAny_field hT dT h3 ?_)
    rw [if_neg (by simpa using hfl)]
    refine wpAny_bind (wpAny_setField hT dT (Array.getElem?_eq_some_iff.mp h3).1 ?_)
    rw [← eh]
    refine wpAny_entryW hA fr' hf (by rw [oth e (Ne.symm Te)]; exact eat) k' ne dat lt h0 fun h5 note => ?_
    obtain ⟨n1, n2, n3, n4⟩ := note
    exact land h5 ⟨n1, ne, n2, n3⟩ (up.trans n4)
theorem OnWay.but {h h' : Heap} {C : Addr} {m : Str → Option Value} (w : OnWay B l e cls a0 h) (hn : h.Ns C m) (hC : C ∉ l.filterMap (·.frame)) (sb : Heap.SameBut C h h') : OnWay (PySem.W.hideAll B [C]) l e cls a0 h' := by
  obtain ⟨o, es, ep, ho, hd, _⟩ := hn
  obtain ⟨k, ne, fr, fl, oe, vs, T, oT, ts, he, hc, hde, h1, nT, Te, hT, dT, h3⟩ := w
  have rcd : ∀ {b : Addr} {o' : Obj} {vs : Array Value}, h.get? b = some o' → o'.data = .fields vs → b ≠ C := by
    intro b o' vs e1 e2 z
    subst z
    rw [ho] at e1
    cases e1
    rw [hd] at e2
    cases e2
  have hide : ∀ {b : Addr}, B.get? b = none → (PySem.W.hideAll B [C]).get? b = none := by
    intro b z
    cases z2 : (PySem.W.hideAll B [C]).get? b with
    | none => rfl
    | some u =>
      rw [PySem.W.of_hideAll _ z2] at z
      cases z
  have frames : ∀ (l : List Env), C ∉ l.filterMap (·.frame) → h.FunFrames B l → h'.FunFrames (PySem.W.hideAll B [C]) l := by
    intro l
    induction l with
    | nil => exact fun _ _ => trivial
    | cons env r ih =>
      intro hC ⟨a1, ⟨L, oL, a2, a3, a4, a5⟩, a6⟩
      rw [List.filterMap_cons, a2] at hC
      have n1 : C ≠ L := fun z => hC (by rw [z]; exact List.mem_cons_self)
      exact ⟨a1, ⟨L, oL, a2, hide a3, by rw [sb.2 L (Ne.symm n1)]; exact a4, a5⟩, ih (fun z => hC (List.mem_cons_of_mem _ z)) a6⟩
  refine ⟨fun b o' e1 => ?_, hide ne, frames l hC fr, fl, oe, vs, T, oT, ts, by rw [sb.2 e (rcd he hde)]; exact he, hc, hde, h1, hide nT, Te, by rw [sb.2 T (rcd hT dT)]; exact hT, dT, h3⟩
  have n1 : b ≠ C := fun z => by
    rw [z, PySem.W.hideAll_none _ List.mem_cons_self] at e1
    cases e1
  rw [sb.2 b n1]
  exact k b o' (PySem.W.of_hideAll _ e1)
end
section
variable {X : Cx} {pins : List (Addr × Obj)} {σ : St} {H H' : Hp} {s s' : Shared} {h' B : Heap}
theorem Inv.flown2 (I : Inv X pins σ H' s') (st : B.StaysIn h')
    (cov : ∀ b o, s'.heap.get? b = some o → (((∃ u, X.s₀.heap.get? b = some u) ∧ b ∉ X.ex) ∨ (H' b).isSome = true) → b ∉ frs X.stack → B.get? b = some o) (up : s'.heap.UpToSlots h') :
    Un X.fs X.ex X.H₀ H' X.s₀.heap h' ∧ HOk X.prog X.w H' h' := by
  have fr : ∀ b, b ∈ X.fs → ∀ o, s'.heap.get? b = some o → ∃ sl, h'.get? b = some { o with slots := sl } := fun b hb o e => by
    obtain ⟨_, o', e', hd⟩ := I.funs.mem hb
    rw [e] at e'
    cases e'
    exact up b o e hd
  have tr : ∀ c : Addr, (H' c).isSome = true → c ∉ frs X.stack := fun c hc z => by
    rw [I.stkFree c z] at hc
    cases hc
  refine ⟨⟨fun b o q n hb hx => ?_, fun b o q n hb hx => ?_, I.base.free, fun b o q hx => ?_, I.base.tups, I.base.frzs, I.base.tbls⟩, fun b u e => ?_⟩
  · exact st b o (cov b o (I.base.keep b o q n hb hx) (.inl ⟨⟨o, q⟩, hx⟩) (I.inStack q hb))
  · obtain ⟨sl, e⟩ := I.base.slot b o q n hb hx
    obtain ⟨sl', e'⟩ := fr b hb _ e
    exact ⟨sl', e'⟩
  · obtain ⟨o', e⟩ := I.base.there b o q hx
    by_cases hb : b ∈ X.fs
    · obtain ⟨sl, e'⟩ := fr b hb _ e
      exact ⟨_, e'⟩
    · exact ⟨o', st b o' (cov b o' e (.inl ⟨⟨o, q⟩, hx⟩) (I.inStack q hb))⟩
  · refine (I.hok b u e).stay (fun c v hc q => ?_) (fun _ q => q) fun _ _ q => q
    have hs : (H' c).isSome = true := by
      rcases hc with rfl | hc
      · rw [e]; rfl
      · rw [hc]; rfl
    exact st c v (cov c v q (.inr hs) (tr c hs))
end
abbrev Cx.compE (X : Cx) (E : XK) (scope : Scope) (cl : List (Str × Addr)) (N : List Str) (c : CP) : Cx :=
  { X.comp scope cl N c with xe := fun e s' => ∃ pins σ H1 s1, Inv (X.comp scope cl N c) pins σ H1 s1 ∧ CXE X.prog X.w X.stack H1 s1 E e s' }
theorem passC {X : Cx} {E : XK} {scope : Scope} {cl : List (Str × Addr)} {N : List Str} {c : CP} : Passes (CXE X.prog X.w) (X.compE E scope cl N c) E := fun _ _ _ _ _ _ I h => ⟨_, _, _, _, I.wish _, h⟩
section
variable {X : Cx} {scope : Scope} {cl : List (Str × Addr)} {N : List Str} {ix : List (Option Nat)} {pins py : List (Addr × Obj)} {σ σy : St} {H1 H2 : Hp} {s1 s2 sx : Shared} {E : XK}
theorem comp_err {fp : List Addr} {C : Addr} {e : Value} {use : Option (Value → Sem Unit)} {Q0 : Value → Shared → Prop} {acc : Value} {E2 : Value → Shared → Prop} (hst : X.stack = X.env :: X.outer) (hfr : X.env.frame = some X.env.locals) (hex : X.ex = [])
    (hxe : X.xe = fun e s' => wpAny (model X.prog X.w) X.A (leaving X.env e) (fun _ s'' => CXE X.prog X.w X.outer X.H₀ X.s₀ E e s'') (fun e' s'' => CXE X.prog X.w X.outer X.H₀ X.s₀ E e' s'') s')
    (k : CompOk X scope cl N ix) (I2 : Inv X pins σ H2 s2) (f2 : ∀ b ∈ fp, FpOk X pins H2 b ∧ b < s2.heap.objs.size) (leC : s2.heap.objs.size ≤ C)
    (I1 : Inv (X.comp scope cl N ⟨C, fp, s2, H2⟩) py σy H1 s1) (hx : CXE X.prog X.w X.stack H1 s1 E e sx) :
    wpAny (model X.prog X.w) X.A (noteFrame e (compEnvC scope cl C X.env)) (fun _ s'' => compPost (model X.prog X.w) X.A X.xe use Q0 acc C (.error e) s'') E2 sx := by
  obtain ⟨ea, Cc, a0, H', B, rfl, os, bare, un, hok, fl, cov, hea, hE⟩ := hx
  have J : Inv (X.comp scope cl N ⟨C, fp, s2, H2⟩) py σy H' sx := I1.call' (ch := []) os un hok bare (fun b z => absurd z (by simp))
  have nex : ∀ b : Addr, b ∉ X.ex := fun b z => by rw [hex] at z; cases z
  have nCs : C ∉ frs X.stack := fun z => by
    rcases List.mem_cons.mp (I2.stkSub C z) with e | e
    · exact absurd I2.lt (by rw [← e]; exact Nat.not_lt.mpr leC)
    · exact I2.nofs leC e
  have fl2 : Heap.FlyingW B (X.env :: X.outer) ea (.ref Cc) a0 sx.heap := by rw [← hst]; exact fl
  show wpAny _ _ (noteFrame (.ref ea) X.env) _ _ sx
  refine wpAny_looks_onW (by rw [I2.ok.frames, hst]) hfr fl2 fun h4 held up4 => ?_
  obtain ⟨m, hm, _⟩ := J.loc
  have hm : sx.heap.Ns C m := hm
  have post : ∃ m, h4.Ns C m ∧ ∀ h', Heap.SameBut C h4 h' → ∀ cenv : Env, cenv.locals = C → wpAny (model X.prog X.w) X.A (PySem.passOn "comprehension.variables-let-go" (.ref ea) cenv : Sem Value) (fun _ _ => False) X.xe { sx with heap := h' } := by
    refine ⟨m, up4.ns hm, fun h5 sb cenv _ => ?_⟩
    have way : OnWay B (X.env :: X.outer) ea (.ref Cc) a0 h4 := ⟨held.1, held.2.1, held.2.2.1, _, held.2.2.2⟩
    have way5 := way.but (up4.ns hm) (by rw [← hst]; exact nCs) sb
    refine pass_any way5 fun h6 way6 up6 => ?_
    rw [hxe]
    refine leave_any (by rw [I2.ok.frames, hst]) hfr way6 fun h7 fl7 up7 => ?_
    have covY : ∀ b o, sx.heap.get? b = some o → (((∃ u, s2.heap.get? b = some u) ∧ b ∉ fp) ∨ (H' b).isSome = true) → b ∉ frs X.stack → B.get? b = some o := fun b o q hb hn =>
      cov b o q (hb.imp (fun ⟨⟨u, hu⟩, hf⟩ => I1.base.there b u hu hf) id) hn
    obtain ⟨un4, hok4⟩ := Inv.flown2 J held.1 covY up4
    have I4 : Inv X pins σ H' { sx with heap := h4 } := I2.call' (ch := fp) J.os un4 hok4 bare fun b hb => let ⟨⟨_, a1, _, a3, a4, a5⟩, _⟩ := f2 b hb; ⟨a3, a1, a4, a5⟩
    have fC : FpOk X pins H' C := I2.fpOk leC J.free
    have I5 : Inv X pins σ H' { sx with heap := h5 } := I4.turned (t' := sx.toks) (fun b o hb e => (sb.2 b hb).trans e) fC.1 fC.2.1 fC.2.2.2.1 fC.2.2.2.2.1 fC.2.2.2.2.2
    have cov5 : ∀ b o, h5.get? b = some o → ((∃ u, X.s₀.heap.get? b = some u) ∨ (H' b).isSome = true) → b ∉ frs X.stack → (PySem.W.hideAll B [C]).get? b = some o := fun b o q hb hn => by
      have nC : b ≠ C := by
        rcases hb with ⟨u, hu⟩ | hs
        · exact Nat.ne_of_lt (Nat.lt_of_lt_of_le (Heap.lt_size hu) (Nat.le_trans I2.sz leC))
        · intro z
          rw [z, show H' C = none from J.free] at hs
          cases hs
      have in2 : ((∃ u, s2.heap.get? b = some u) ∧ b ∉ fp) ∨ (H' b).isSome = true := by
        rcases hb with ⟨u, hu⟩ | hs
        · refine .inl ⟨I2.base.there b u hu (nex b), fun z => ?_⟩
          obtain ⟨⟨_, _, _, a3, _⟩, _⟩ := f2 b z
          rcases a3 with a3 | a3
          · exact nex b a3
          · exact absurd (Heap.lt_size hu) (Nat.not_lt.mpr a3)
        · exact .inr hs
      have inx : ∃ o', sx.heap.get? b = some o' := by
        rcases in2 with ⟨⟨u, hu⟩, hf⟩ | hs
        · exact J.base.there b u hu hf
        · exact J.hok.has hs
      obtain ⟨o', eo⟩ := inx
      have e1 := covY b o' eo in2 hn
      have e2 := held.1 b o' e1
      rw [sb.2 b nC, e2] at q
      cases q
      exact PySem.W.hideAll_get _ e1 fun z => nC (List.mem_singleton.mp z)
    obtain ⟨u1, k1, c1⟩ := I5.flown hex fl7.1 cov5 (up6.trans up7)
    exact ⟨ea, Cc, a0, H', _, rfl, I5.os, bare, u1, k1, fl7, c1, hea, hE⟩
  cases use <;> exact post
end
section
variable {A : Around} {prog : Program} {w : World} {s : Shared} {R : Result → Shared → Prop}
theorem comp_loopE {elt tg iter : Expr} {ifs : List Expr} {scope : Scope} {pos : Pos} {it acc : Value} {env : Env} (J : Nat → Shared → Prop)
    (turn : ∀ n s1, J n s1 → wpAny (model prog w) A (pyNext it) (fun r s2 => (r = none ∧ R (.ok .next) s2) ∨ ∃ v, r = some v ∧ wpAny (model prog w) A (letOwnedTupleGo tg it v) (fun _ s3 => wpAny (model prog w) A (assign tg env v) (fun _ s4 =>
        wpAny (model prog w) A (forIn ifs true fun c b => if b = true then do let ok ← isTrue c env (eval c env); pure (ForInStep.yield ok) else pure (ForInStep.yield b)) (fun ok s5 =>
          (ok = true ∧ wpAny (model prog w) A (eval elt env) (fun x s6 => wpAny (model prog w) A (call (.builtin "list.append") [acc, x]) (fun _ s7 => ∃ m, m < n ∧ J m s7) (notedBy (model prog w) A env fun e s' => R (.error e) s') s6) (notedBy (model prog w) A env fun e s' => R (.error e) s') s5) ∨ (ok = false ∧ ∃ m, m < n ∧ J m s5)) (notedBy (model prog w) A env fun e s' => R (.error e) s') s4) (notedBy (model prog w) A env fun e s' => R (.error e) s') s3) (notedBy (model prog w) A env fun e s' => R (.error e) s') s2) (notedBy (model prog w) A env fun e s' => R (.error e) s') s1)
    (n : Nat) (h : J n s) : codeAny (model prog w) A (.compLoop (.ListComp elt [⟨tg, iter, ifs, 0⟩] scope pos) 0 it acc env) R s := by
  refine codeAny_loop rfl J (fun n s1 hJ => ?_) n h
  show wpAny _ _ ((compTurn (.ListComp elt [⟨tg, iter, ifs, 0⟩] scope pos) 0 it acc env).onRaise fun x => do
    noteFrame x env
    theTreesLotGoes x) _ _ s1
  refine wpAny_noted ?_
  rw [compTurn_list]
  refine wpAny_bind (wpAny_standAt (wpAny_bind (thn (turn n s1 hJ) fun r s2 h2 => ?_)))
  rcases h2 with ⟨e, q⟩ | ⟨v, e, q⟩
  · subst e
    exact wpAny_pure q
  · subst e
    refine wpAny_bind (thn q fun _ s3 q3 => wpAny_bind (thn q3 fun _ s4 q4 => wpAny_bind (thn q4 fun ok s5 q5 => ?_)))
    rcases q5 with ⟨e, q5⟩ | ⟨e, q5⟩
    · subst e
      exact wpAny_bind (wpAny_bind (thn q5 fun x s6 q6 => wpAny_bind (thn q6 fun _ s7 q7 => wpAny_pure (wpAny_pure ⟨rfl, q7⟩))))
    · subst e
      exact wpAny_pure ⟨rfl, q5⟩
end
theorem comp_runE {X : Cx} {scope : Scope} {cl : List (Str × Addr)} {N : List Str} {ix : List (Option Nat)} {elt tg iter : Expr} {ifs : List Expr} {pos pos' : Pos} {wi : TI} {g : CP → TG} {tt : CP → TT} {te : CP → TE}
    {pins : List (Addr × Obj)} {σ : St} {H : Hp} {s : Shared} {Z : List V → Hp → Prop} {E : XK} {use : Option (Value → Sem Unit)} {Q0 : Value → Shared → Prop}
    (hst : X.stack = X.env :: X.outer) (hfr : X.env.frame = some X.env.locals) (hex : X.ex = [])
    (hxe : X.xe = fun e s' => wpAny (model X.prog X.w) X.A (leaving X.env e) (fun _ s'' => CXE X.prog X.w X.outer X.H₀ X.s₀ E e s'') (fun e' s'' => CXE X.prog X.w X.outer X.H₀ X.s₀ E e' s'') s')
    (k : CompOk X scope cl N ix) (hc : X.calm = true) (hi : PI X tg iter wi) (hg : ∀ c, PG (X.compE E scope cl N c) tg (g c)) (ho : ∀ c σ, GOk (g c) (compS ix σ)) (ht : ∀ c, PIfs (X.compE E scope cl N c) ifs (tt c)) (he : ∀ c, PE (X.compE E scope cl N c) elt (te c))
    (hs : ∀ x, foldedSetIterable iter X.env x = pure x) (I : Inv X pins σ H s) (h : tCompZ ix wi g tt te σ H Z)
    (fin : ∀ (D C : Addr) (s' : Shared) (H' : Hp) (ys : List V) (m : Str → Option Value), Inv X pins σ (upd H' D (.lst ys)) s' → FpOk X pins (upd H' D (.lst ys)) C → s'.heap.Ns C m → H' D = none → Z ys H' → compPost (model X.prog X.w) X.A X.xe use Q0 (.ref D) C (.ok .next) s') :
    wpAny (model X.prog X.w) X.A (comprehension (.ListComp elt [⟨tg, iter, ifs, 0⟩] scope pos) scope X.env pos' (newList []) false (eval iter X.env) use) Q0 X.xe s := by
  have hnm : ∀ x ∈ scope.names, x.2 = .local → scope.names.lookup x.1 = some .local := fun x hx hl => by
    have q := List.all_eq_true.mp k.nms x hx
    rw [hl] at q
    simpa using q
  have hnc : ∀ x ∈ scope.names, x.2 ≠ .cell := fun x hx => by
    have q := List.all_eq_true.mp k.nocell x hx
    simpa using q
  refine wpAny_comprehension_free rfl hs k.clos k.kind hnm (thn (hi pins s σ H _ I h) fun v s1 h1 => thn h1 fun itv s2 h2 => ?_)
  obtain ⟨it, fp, tn, J, H2, e, I2, T, st2, f2, W, ⟨m0, w0⟩, step⟩ := h2
  subst e
  refine wpAny_newObj_type (wpAny_newFunctionEnv hnc (by intro y hy; simp at hy) (fun h3 hns hsb => ?_) k.kind)
  dsimp only at hns hsb ⊢
  generalize hD : s2.heap.objs.size = D at hns hsb ⊢
  generalize hP : s2.heap.push { cls := .type "list", dict := none, data := .seq ([] : List Value).toArray } = P2 at hns hsb ⊢
  generalize hCe : P2.objs.size = C at hns hsb ⊢
  have szC : C = D + 1 := by rw [← hCe, ← hP, Heap.size_push, hD]
  have hDC : D ≠ C := by rw [szC]; exact Nat.ne_of_lt (Nat.lt_succ_self _)
  have ltD : ∀ {b : Addr} {o : Obj}, s2.heap.get? b = some o → b < D := fun e => hD ▸ Heap.lt_size e
  have pD : P2.get? D = some { cls := .type "list", dict := none, data := .seq ([] : List Value).toArray } := by rw [← hP, ← hD]; exact Heap.get?_push_size _ rfl
  have old : ∀ b o, s2.heap.get? b = some o → h3.get? b = some o := fun b o e => by
    have lb := ltD e
    have nb : b ≠ C := by rw [szC]; exact Nat.ne_of_lt (Nat.lt_succ_of_lt lb)
    refine (hsb.2 b nb).trans ?_
    refine Heap.get?_push_of_some _ ?_
    rw [← hP]
    exact Heap.get?_push_of_some _ e
  have lst0 : h3.PlainList D #[] := ⟨_, (hsb.2 D hDC).trans (Heap.get?_push_of_some _ pD)⟩
  have lt2 : ∀ b ∈ fp, b < s2.heap.objs.size := fun b hb => let ⟨_, e, _⟩ := T.obj _ _ st2 b hb; Heap.lt_size e
  have f2' : ∀ b ∈ fp, FpOk X pins H2 b ∧ b < s2.heap.objs.size := fun b hb => ⟨f2 b hb, lt2 b hb⟩
  have leC : s2.heap.objs.size ≤ C := by rw [szC, hD]; exact Nat.le_succ _
  have leD : s2.heap.objs.size ≤ D := by rw [hD]; exact Nat.le_refl _
  have nD : D ∉ fp := fun z => Nat.lt_irrefl _ (hD ▸ lt2 D z)
  have nC : C ∉ fp := fun z => Nat.lt_irrefl _ (Nat.lt_of_lt_of_le (lt2 C z) leC)
  have st3 : tn 0 h3 := T.keep _ _ _ st2 fun b _ o e => old b o e
  generalize hY : X.comp scope cl N ⟨C, fp, s2, H2⟩ = Y
  have I3 : Inv Y [] (compS ix σ) H2 { s2 with heap := h3, toks := s2.toks + ([] : List (Str × Value)).length } := hY ▸ k.enter I2 f2' leC old hns
  have fpY : ∀ {H' : Hp}, (∀ b ∈ fp, H' b = none) → ∀ b ∈ fp, FpOk Y [] H' b := fun {H'} hn b hb => by
    subst hY
    obtain ⟨_, a1, a2, a3, a4, a5⟩ := f2 b hb
    refine ⟨hn b hb, Nat.ne_of_lt (Nat.lt_of_lt_of_le (lt2 b hb) leC), fun z => ?_, .inl hb, fun x c e => a4 x c (k.sub.get e), fun p hp => by cases hp⟩
    rcases List.mem_cons.mp (I2.stkSub b z) with e | e
    · exact a1 e
    · exact a2 e
  have nDs : D ∉ frs X.stack := fun z => by
    rcases List.mem_cons.mp (I2.stkSub D z) with e | e
    · exact absurd I2.lt (by rw [← e]; exact Nat.not_lt.mpr leD)
    · exact I2.nofs leD e
  have cD : ∀ x c, cl.lookup x = some c → c ≠ D := fun x c e z => by
    obtain ⟨v, o, ho, _⟩ := I2.cell x c (k.sub.get e)
    exact absurd (Heap.lt_size ho) (by rw [z]; exact Nat.not_lt.mpr leD)
  have prgY : Y.prog = X.prog := by rw [← hY]
  have wY : Y.w = X.w := by rw [← hY]
  have KY : Y.K = X.K := by rw [← hY]
  have AY : Y.A = X.A := by rw [← hY]
  have cY : Y.calm = true := by rw [← hY]; exact hc
  have xeY : Y.xe = fun _ _ => False := by rw [← hY]
  have envY : Y.env = compEnvC scope cl C X.env := by rw [← hY]
  have pinD : ∀ {σ' : St} {H' : Hp} {s' : Shared} {us : Array Value} {n0 : Nat}, Inv Y [] σ' H' s' → H' D = none → s'.heap.PlainList D us → s'.heap.get? D = some { cls := .type "list", data := .seq us n0 } → Inv Y [(D, { cls := .type "list", data := .seq us n0 })] σ' H' s' := fun I' hn _ e => I'.pins_of fun p hp => by
    have e1 : p = (D, _) := List.mem_singleton.mp hp
    subst e1
    exact ⟨e, hn, by rw [← hY]; exact hDC, by rw [← hY]; exact nDs, fun v z => by cases z⟩
  have fpD : ∀ {H' : Hp}, (∀ b ∈ fp, H' b = none) → ∀ (o : Obj), ∀ b ∈ fp, FpOk Y [(D, o)] H' b := fun {H'} hn o b hb => by
    obtain ⟨a0, a1, a2, a3, a4, a5⟩ := fpY hn b hb
    refine ⟨a0, a1, a2, a3, a4, fun p hp => ?_⟩
    rcases List.mem_append.mp hp with zl | z
    · exact a5 p (List.mem_append_left _ zl)
    · have e1 : p = (D, o) := List.mem_singleton.mp z
      subst e1
      exact fun z => by
        have z' : D = b := z
        rw [z'] at nD
        exact nD hb
  have leave : ∀ {s' : Shared} {H' : Hp} {ys : List V} {us : Array Value}, Inv Y [] (compS ix σ) H' s' → H' D = none → s'.heap.PlainList D us → Vals ys us.toList → ys.length ≤ sizeLine → Z ys H' → compPost (model X.prog X.w) X.A X.xe use Q0 (.ref D) C (.ok .next) s' := fun {s' H' ys us} I' hn hpl rv hl z => by
    subst hY
    have I4 : Inv X pins σ H' s' := I2.call' (ch := fp) I'.os I'.base I'.hok I'.bare fun b hb => let ⟨_, a1, _, a3, a4, a5⟩ := f2 b hb; ⟨a3, a1, a4, a5⟩
    have fD := I2.fpOk (H' := H') leD hn
    have ok : ObjOk X.prog X.w (upd H' D (.lst ys)) s'.heap D (.lst ys) := by
      obtain ⟨n, e⟩ := hpl
      exact ⟨hl, us.toList, n, rv, by simpa using e⟩
    have I5 : Inv X pins σ (upd H' D (.lst ys)) s' := by
      refine I4.track hn ?_ fD.2.2.2.2.2 fD.2.1 fD.2.2.2.2.1 ok
      refine Heap.get?_none_of_le (Nat.le_trans I2.sz leD)
    obtain ⟨m, hm, _⟩ := I'.loc
    have hC' : upd H' D (.lst ys) C = none := by
      rw [zK (Ne.symm hDC)]
      exact I'.free
    exact fin D C s' H' ys m I5 (I2.fpOk leC hC') hm hn z
  have errs : ∀ (e : Value) (sx : Shared), (X.compE E scope cl N ⟨C, fp, s2, H2⟩).xe e sx → notedBy (model X.prog X.w) X.A (compEnvC scope cl C X.env) (fun e s' => compPost (model X.prog X.w) X.A X.xe use Q0 (.ref D) C (.error e) s') e sx := by
    rintro e sx ⟨py, σy, H1, s1, I1, hx⟩
    exact comp_err hst hfr hex hxe k I2 f2' leC I1 hx
  have loop : codeAny (model X.prog X.w) X.A (.compLoop (.ListComp elt [⟨tg, iter, ifs, 0⟩] scope pos) 0 (.ref it) (.ref D) (compEnvC scope cl C X.env))
      (compPost (model X.prog X.w) X.A X.xe use Q0 (.ref D) C) { s2 with heap := h3, toks := s2.toks + ([] : List (Str × Value)).length } := by
    refine comp_loopE (fun n s' => ∃ i H' ys us, Inv Y [] (compS ix σ) H' s' ∧ tn i s'.heap ∧ (∀ b ∈ fp, H' b = none) ∧ H' D = none ∧ s'.heap.PlainList D us ∧ Vals ys us.toList ∧ W i n ys H') ?_ m0
      ⟨0, H2, [], #[], I3, st3, fun b hb => (f2 b hb).1, I2.hok.fresh leD, lst0, .nil, w0⟩
    rintro n s4 ⟨i, H4, ys, us, I4, st4, fr4, d4, l4, v4, w4⟩
    obtain ⟨hl, step4⟩ := step i n ys H4 w4
    rcases step4 with ⟨stop, z⟩ | ⟨go, turn⟩
    · obtain ⟨n0, e0⟩ := l4
      have I4' := pinD I4 d4 ⟨n0, e0⟩ e0
      have q := T.done Y prgY wY KY cY i _ s4 (compS ix σ) H4 (notedBy (model X.prog X.w) X.A (compEnvC scope cl C X.env) fun e s' => compPost (model X.prog X.w) X.A X.xe use Q0 (.ref D) C (.error e) s') I4' (fpD fr4 _) st4 stop
      rw [AY] at q
      refine thn q fun r s5 q5 => .inl ⟨q5.1, ?_⟩
      have e5 := (q5.2.pin _ (List.mem_append_right _ List.mem_cons_self)).1
      exact leave (q5.2.pins_of fun p hp => by cases hp) d4 ⟨n0, e5⟩ v4 (Nat.le_of_lt hl) z
    · obtain ⟨n0, e0⟩ := l4
      have I4' := pinD I4 d4 ⟨n0, e0⟩ e0
      have q := T.item Y prgY wY KY cY i _ s4 (compS ix σ) H4 (notedBy (model X.prog X.w) X.A (compEnvC scope cl C X.env) fun e s' => compPost (model X.prog X.w) X.A X.xe use Q0 (.ref D) C (.error e) s') I4' (fpD fr4 _) st4 go
      rw [AY] at q
      refine thn q fun r s5 q5 => .inr ?_
      obtain ⟨v, er, q5⟩ := q5
      refine ⟨v, er, thn q5 fun _ s6 q6 => ?_⟩
      obtain ⟨x, H6, I6, r6, y6, st6, fr6⟩ := q6
      have I6' := I6.pinned (fpD fr6 _) (T.obj _ _ st6)
      have g6 := ho ⟨C, fp, s2, H2⟩ σ x H6 _ (turn ⟨C, fp, s2, H2⟩ x H6 y6)
      have inD : ∀ {l : List (Addr × Obj)}, (D, ({ cls := .type "list", data := .seq us n0 } : Obj)) ∈ Y.pn ++ ([(D, { cls := .type "list", data := .seq us n0 })] ++ l) := List.mem_append_right _ (List.mem_append_left _ List.mem_cons_self)
      have inF : ∀ {b : Addr} {o : Obj}, b ∈ fp → s6.heap.get? b = some o → (b, o) ∈ Y.pn ++ ([(D, ({ cls := .type "list", data := .seq us n0 } : Obj))] ++ pinsAt fp s6.heap) := fun hb e => List.mem_append_right _ (List.mem_append_right _ (YX hb e))
      have back : ∀ {σ7 : St} {H7 : Hp} {s7 : Shared}, Inv Y ([(D, { cls := .type "list", data := .seq us n0 })] ++ pinsAt fp s6.heap) σ7 H7 s7 → LeS (compS ix σ) σ7 → Inv Y [] (compS ix σ) H7 s7 ∧ tn (i + 1) s7.heap ∧ (∀ b ∈ fp, H7 b = none) ∧ H7 D = none ∧ s7.heap.PlainList D us := fun {σ7 H7 s7} I7 le => by
        refine ⟨(I7.weak le.len fun i v e => le.get e).pins_of (fun p hp => (by cases hp)), T.keep _ _ _ st6 fun b hb o e => (I7.pin _ (inF hb e)).1, fun b hb => ?_, (I7.pin _ inD).2.1, n0, (I7.pin _ inD).1⟩
        obtain ⟨o, e, _⟩ := T.obj _ _ st6 b hb
        exact (I7.pin _ (inF hb e)).2.1
      have hgY := hg ⟨C, fp, s2, H2⟩
      have htY := ht ⟨C, fp, s2, H2⟩
      have heY := he ⟨C, fp, s2, H2⟩
      have I6'' := (hY ▸ I6' : Inv (X.comp scope cl N ⟨C, fp, s2, H2⟩) _ _ _ _)
      have q7 := hgY _ s6 _ H6 x v _ (I6''.wish _) r6 g6
      refine wpAny_mono q7 (fun _ s7 q7 => ?_) errs
      obtain ⟨σ7, H7, I7, le7, t7⟩ := q7
      have q8 := htY _ s7 σ7 H7 _ I7 t7
      refine wpAny_mono q8 (fun ok s8 q8 => ?_) errs
      obtain ⟨H8, I8, q8⟩ := q8
      rcases q8 with ⟨eo, q8⟩ | ⟨eo, m', hm, w8⟩
      · refine .inl ⟨eo, ?_⟩
        have q9 := heY _ s8 σ7 H8 _ I8 q8
        refine wpAny_mono q9 (fun u s9 q9 => ?_) errs
        obtain ⟨y, H9, I9, r9, m', hm, w9⟩ := q9
        obtain ⟨J9, t9, f9, d9, l9⟩ := back (hY ▸ I9.unwish) le7
        have hsz : us.size ≤ sizeLine := by
          have e1 : ys.length = us.toList.length := v4.length
          have e2 : us.toList.length = us.size := by simp
          exact Nat.le_of_lt (e2 ▸ e1 ▸ hl)
        refine wpAny_list_append_plain l9 (fun h10 l10 sb => ?_) hsz
        have J10 : Inv Y [] (compS ix σ) H9 { s9 with heap := h10 } := J9.turned (t' := s9.toks) (fun b o hb e => (sb.2 b hb).trans e) d9 (by rw [← hY]; exact hDC) (.inr (by rw [← hY]; exact leD)) (fun x c e => by rw [← hY] at e; exact cD x c e) fun p hp => by rw [← hY] at hp; cases hp
        refine ⟨m', hm, i + 1, H9, ys ++ [y], us.push u, J10, T.keep _ _ _ t9 fun b hb o e => (sb.2 b fun z => nD (z ▸ hb)).trans e, f9, d9, l10, ?_, w9⟩
        rw [Array.toList_push]
        exact v4.append (.cons r9 .nil)
      · refine .inr ⟨eo, m', hm, i + 1, H8, ys, us, ?_⟩
        obtain ⟨J8, t8, f8, d8, l8⟩ := back (hY ▸ I8.unwish) le7
        exact ⟨J8, t8, f8, d8, l8, v4, w8⟩
  exact codeAny_compStart_list loop (T.self _ 0 _ _ _ st3 loop)
theorem pe_compE {X : Cx} {E : XK} {scope : Scope} {N : List Str} {ix : List (Option Nat)} {elt tg iter : Expr} {ifs : List Expr} {pos : Pos} {wi : TI} {g : CP → TG} {tt : CP → TT} {te : CP → TE}
    (hst : X.stack = X.env :: X.outer) (hfr : X.env.frame = some X.env.locals) (hex : X.ex = [])
    (hxe : X.xe = fun e s' => wpAny (model X.prog X.w) X.A (leaving X.env e) (fun _ s'' => CXE X.prog X.w X.outer X.H₀ X.s₀ E e s'') (fun e' s'' => CXE X.prog X.w X.outer X.H₀ X.s₀ E e' s'') s')
    (k : CompOk X scope (closL scope X.env) N ix) (hc : X.calm = true) (hi : PI X tg iter wi) (hg : ∀ c, PG (X.compE E scope (closL scope X.env) N c) tg (g c)) (ho : ∀ c σ, GOk (g c) (compS ix σ)) (ht : ∀ c, PIfs (X.compE E scope (closL scope X.env) N c) ifs (tt c)) (he : ∀ c, PE (X.compE E scope (closL scope X.env) N c) elt (te c))
    (hs : ∀ x, foldedSetIterable iter X.env x = pure x := by intro _; rfl) : PE X (.ListComp elt [⟨tg, iter, ifs, 0⟩] scope pos) (tComp ix wi g tt te) := by
  intro pins s σ H Q I h
  rw [eval_ListComp]
  refine comp_runE (use := none) hst hfr hex hxe k hc hi hg ho ht he hs I h fun D C s' H' ys m I' fC hm hn z => ?_
  refine ⟨m, hm, fun h' sb => ⟨.ref D, _, I'.turned (t' := s'.toks) (fun b o hb e => (sb.2 b hb).trans e) fC.1 fC.2.1 fC.2.2.2.1 fC.2.2.2.2.1 fC.2.2.2.2.2, rfl, z D hn⟩⟩
end L2
namespace L2
open PySem PySem.Spec PyProof.Rows BP
section
variable {X : Cx}
def EHof (K : PySem.W.Frag) (i : Nat) (CB : Addr) (ts : Addr → TS) (D : Ends) (σ : St) : XK := fun cls _ H2 =>
  ∃ C, cls = .ref C ∧ Under K C CB ∧ ∀ ea, H2 ea = none → ts ea { nx := fun σ' H' => D.nx (σ'.set i none) H', rt := fun _ _ => False } (σ.set i (some (.ref ea))) (upd H2 ea (.ext (ExcAt ea C)))
end
end L2
namespace L2
open PySem PySem.Spec PyProof.Rows BP
inductive IsA (K : PySem.W.Frag) (H : Hp) : V → String → Bool → Prop where
  | old {v : V} {s : String} {b : Bool} (h : IsL K H v s b) : IsA K H v s b
  | blTup (b : Bool) : IsA K H (.bl b) "tuple" false
  | blList (b : Bool) : IsA K H (.bl b) "list" false
  | nonTup : IsA K H .non "tuple" false
  | nonList : IsA K H .non "list" false
  | strTup (z : Str) : IsA K H (.str z) "tuple" false
  | strList (z : Str) : IsA K H (.str z) "list" false
  | dictTup {a : Addr} {kvs : List (Key × V)} (h : H a = some (.dK kvs)) : IsA K H (.ref a) "tuple" false
  | dictList {a : Addr} {kvs : List (Key × V)} (h : H a = some (.dK kvs)) : IsA K H (.ref a) "list" false
section
variable {X : Cx}
theorem call_isa : CallR X (.builtin "isinstance") (fun xs H Q => ∃ x T b, xs = [x, .ty T] ∧ IsA X.K H x T b ∧ Q (.bl b) H) := by
  intro pins s σ H xs us Q I r h
  obtain ⟨x, T, b, rfl, hi, q⟩ := h
  cases hi with
  | old h => exact call_isl pins s σ H _ us Q I r ⟨_, _, _, rfl, h, q⟩
  | blTup b => obtain ⟨u, u', rfl, rx, rt⟩ := vals2 r; cases rt; cases rx; exact IsiPair.bool_tuple ⟨.bl false, H, I.tok _, rfl, q⟩
  | blList b => obtain ⟨u, u', rfl, rx, rt⟩ := vals2 r; cases rt; cases rx; exact IsiPair.bool_list ⟨.bl false, H, I.tok _, rfl, q⟩
  | nonTup => obtain ⟨u, u', rfl, rx, rt⟩ := vals2 r; cases rt; cases rx; exact IsiPair.NoneType_tuple ⟨.bl false, H, I.tok _, rfl, q⟩
  | nonList => obtain ⟨u, u', rfl, rx, rt⟩ := vals2 r; cases rt; cases rx; exact IsiPair.NoneType_list ⟨.bl false, H, I.tok _, rfl, q⟩
  | strTup z => obtain ⟨u, u', rfl, rx, rt⟩ := vals2 r; cases rt; obtain ⟨t, rfl⟩ := rx; exact IsiPair.str_tuple ⟨.bl false, H, I.tok _, rfl, q⟩
  | strList z => obtain ⟨u, u', rfl, rx, rt⟩ := vals2 r; cases rt; obtain ⟨t, rfl⟩ := rx; exact IsiPair.str_list ⟨.bl false, H, I.tok _, rfl, q⟩
  | @dictTup ad kvs h =>
    obtain ⟨u, u', rfl, rx, rt⟩ := vals2 r
    cases rt
    cases rx
    obtain ⟨_, _, _, _, o, _, _, h1, h2, _⟩ := (show ObjOk X.prog X.w H s.heap ad (.dK kvs) from I.hok ad _ h)
    exact IsiPair.dict_tuple h1 h2.1 ⟨.bl false, H, I.tok _, rfl, q⟩
  | @dictList ad kvs h =>
    obtain ⟨u, u', rfl, rx, rt⟩ := vals2 r
    cases rt
    cases rx
    obtain ⟨_, _, _, _, o, _, _, h1, h2, _⟩ := (show ObjOk X.prog X.w H s.heap ad (.dK kvs) from I.hok ad _ h)
    exact IsiPair.dict_list h1 h2.1 ⟨.bl false, H, I.tok _, rfl, q⟩
end
end L2
namespace L2
open PySem PySem.Spec PyProof.Rows BP
inductive IsB (K : PySem.W.Frag) (H : Hp) : V → String → Bool → Prop where
  | a {v : V} {s : String} {b : Bool} (h : IsA K H v s b) : IsB K H v s b
  | str (z : Str) : IsB K H (.str z) "str" true
  | noStr {v : V} (h : IsS K H v) : IsB K H v "str" false
section
variable {X : Cx}
theorem Y9 : CallR X (.builtin "isinstance") (fun xs H Q => ∃ x T b, xs = [x, .ty T] ∧ IsB X.K H x T b ∧ Q (.bl b) H) := by
  intro pins s σ H xs us Q I r h
  obtain ⟨x, T, b, rfl, hi, q⟩ := h
  cases hi with
  | a h => exact call_isa pins s σ H _ us Q I r ⟨_, _, _, rfl, h, q⟩
  | str z => exact call_iss pins s σ H _ us Q I r ⟨_, rfl, .inl ⟨z, rfl, q⟩⟩
  | noStr h => exact call_iss pins s σ H _ us Q I r ⟨_, rfl, .inr ⟨h, q⟩⟩
end
end L2
namespace L2
open PySem PySem.Spec PyProof.Rows BP
theorem ps_setCompE {X : Cx} {E : XK} {scope : Scope} {N : List Str} {ix : List (Option Nat)} {elt tg iter : Expr} {ifs : List Expr} {pos ps pn : Pos} {wi : TI} {g : CP → TG} {tt : CP → TT} {te : CP → TE} {i : Nat} {x : Str}
    (hst : X.stack = X.env :: X.outer) (hfr : X.env.frame = some X.env.locals) (hex : X.ex = [])
    (hxe : X.xe = fun e s' => wpAny (model X.prog X.w) X.A (leaving X.env e) (fun _ s'' => CXE X.prog X.w X.outer X.H₀ X.s₀ E e s'') (fun e' s'' => CXE X.prog X.w X.outer X.H₀ X.s₀ E e' s'') s')
    (hN : X.N.Nodup) (hx : X.N[i]? = some x) (hl : Loc X.env.scope x) (k : CompOk X scope (closL scope X.env) N ix) (hc : X.calm = true) (hi : PI X tg iter wi) (hg : ∀ c, PG (X.compE E scope (closL scope X.env) N c) tg (g c)) (ho : ∀ c σ, GOk (g c) (compS ix σ)) (ht : ∀ c, PIfs (X.compE E scope (closL scope X.env) N c) ifs (tt c))
    (he : ∀ c, PE (X.compE E scope (closL scope X.env) N c) elt (te c)) (hsw : swapsWith (.ListComp elt [⟨tg, iter, ifs, 0⟩] scope pos) (some (.Name x pn)) ps.line X.env = pure true := by rfl)
    (hs : ∀ x, foldedSetIterable iter X.env x = pure x := by intro _; rfl) (hf : X.fn x = true ∨ X.env.scope.names.lookup x = some .local := by first | exact .inl rfl | exact .inr rfl | assumption) :
    PS X (.Assign [.Name x pn] (.ListComp elt [⟨tg, iter, ifs, 0⟩] scope pos) ps) (sComp ix i wi g tt te) := by
  intro pins s σ H D I h
  rw [exec_Assign_Name_used _ _ _ _ hsw]
  refine wpAny_bind (wpAny_standAt (wpAny_bind ?_))
  show wpAny _ _ (comprehension (.ListComp elt [⟨tg, iter, ifs, 0⟩] scope pos) scope X.env _ (newList []) false (eval iter X.env) (some (assign (.Name x pn) X.env)) >>= fun _ => _) _ _ s
  refine wpAny_bind (thn (comp_runE (use := some (assign (.Name x pn) X.env)) (Q0 := fun _ s' => SP X pins D .next s') hst hfr hex hxe k hc hi hg ho ht he hs I h fun p C s' H' ys m I' fC hm hn z => ?_) fun _ s' q => wpAny_pure (wpAny_pure q))
  show wpAny _ _ (assign (.Name x pn) X.env (.ref p)) _ _ s'
  refine wpAny_assign_Name (store_ok2 (v := .ref p) I' hN hx hl rfl (fun s3 I3 same => ?_) hf)
  obtain ⟨b, sb, hb⟩ := same
  have nb : C ≠ b := by
    rcases hb with e | e
    · rw [e]; exact fC.2.1
    · exact Ne.symm (fC.2.2.2.2.1 x b e)
  refine ⟨m, hm.sameBut sb nb, fun h' sb' => ⟨_, _, I3.turned (t' := s3.toks) (fun c o hc e => (sb'.2 c hc).trans e) fC.1 fC.2.1 fC.2.2.2.1 fC.2.2.2.2.1 fC.2.2.2.2.2, z p hn⟩⟩
end L2
namespace L2
open PySem PySem.Spec PyProof.Rows BP
theorem dedup_len : ∀ (xs acc : List Int), acc.Nodup → (xs.foldl step_dedup acc).length ≤ acc.length + xs.length ∧ ((xs.foldl step_dedup acc).length = acc.length + xs.length → (acc ++ xs).Nodup)
  | [], acc, h => ⟨by simp, fun _ => by simpa using h⟩
  | x :: xs, acc, h => by
    by_cases hx : x ∈ acc
    · have e : step_dedup acc x = acc := by unfold step_dedup; simp [hx]
      rw [List.foldl_cons, e]
      have k := dedup_len xs acc h
      exact ⟨by rw [List.length_cons]; omega, fun z => by rw [List.length_cons] at z; omega⟩
    · have e : step_dedup acc x = acc ++ [x] := by unfold step_dedup; simp [hx]
      rw [List.foldl_cons, e]
      have k := dedup_len xs (acc ++ [x]) (by rw [List.nodup_append]; exact ⟨h, by simp, fun a ha b hb z => by rw [List.mem_singleton.mp hb] at z; exact hx (z ▸ ha)⟩)
      rw [List.length_append, List.length_singleton] at k
      refine ⟨by rw [List.length_cons]; omega, fun z => ?_⟩
      have := k.2 (by rw [List.length_cons] at z; omega)
      simpa using this
theorem firstMet_len (ns : List Int) : (firstMet (fun i => ns.getD i 0) ns.length).length ≤ ns.length ∧ ((firstMet (fun i => ns.getD i 0) ns.length).length = ns.length ↔ ns.Nodup) := by
  have k : (firstMet (fun i => ns.getD i 0) ns.length).length ≤ ns.length ∧ ((firstMet (fun i => ns.getD i 0) ns.length).length = ns.length → ns.Nodup) := by
    unfold firstMet
    have e : (List.range ns.length).map (fun i => ns.getD i 0) = ns := by
      apply List.ext_getElem?
      intro j
      by_cases hj : j < ns.length
      · simp [hj, List.getD]
      · simp [hj]
    rw [e]
    have k := dedup_len ns [] List.nodup_nil
    simpa using k
  exact ⟨k.1, k.2, fun h => by rw [firstMet_nodup h]⟩
section
variable {X : Cx}
theorem call_set_all (hc : X.calm = true) : CallR X (.type "set") (fun xs H Q => ∃ (p : Addr) (ns : List Int), xs = [.ref p] ∧ SqL X.K H p (ns.map V.int) ∧ ns.length ≤ 100 ∧ ∀ l S n, n ≤ 100 → (n = ns.length ↔ ns.Nodup) → H l = none → Q (.ref l) (upd H l (.set S n))) := by
  intro pins s σ H xs us Q I r h
  obtain ⟨p, ns, rfl, hq, small, q⟩ := h
  obtain ⟨u, rfl, rx⟩ := vals1 r
  cases rx
  obtain ⟨its, rv, pl, hz⟩ := I.list hq
  have hlen : its.length = ns.length := by rw [← rv.length, List.length_map]
  refine call_set_list (I.ok.hd hc) pl.isList (ns := ns) (by simpa using ints_are rv) (by rw [List.size_toArray, hlen]; exact Nat.lt_of_le_of_lt (show ns.length + 1 ≤ 101 by omega) (by decide)) fun h' tk hs kp => ?_
  have ez : its.toArray.size = ns.length := by rw [List.size_toArray, hlen]
  rw [ez] at hs
  have k := firstMet_len ns
  exact ⟨.ref s.heap.objs.size, _, I.laid (t' := tk) (fun b o e => kp b o (Heap.lt_size e) e) (Nat.le_refl _) (show ObjOk X.prog X.w _ h' _ (.set _ _) from hs), rfl, q _ _ _ (by omega) k.2 (I.hok.fresh (Nat.le_refl _))⟩
end
end L2
namespace L2
open PySem PySem.Spec PyProof.Rows BP
structure OwnCls (K : PySem.W.Frag) (C : Addr) : Prop where
  own : PySem.W.findIn K (.ref C) "__class__" = some (some (.builtin "object.__class__"))
  get : PySem.W.specialIn K (.builtin "object.__class__") "__get__" = some (some (.builtin "getset_descriptor.__get__"))
  takes : PySem.W.takesIn K (.builtin "object.__class__") = some true
  obj : PySem.W.mroIn K C (.type "object") = some true
  one : PySem.W.kitOne K (.ref C) (.ref C) = some true
theorem join_txt (a : Str) (ys : List Str) : Txt.join a ys = Str.join a ys := by
  have h := join_closes (sep := a) (ys := ys) rfl
  simpa using h
section
variable {X : Cx}
theorem mt_join : MtR X "str.join" (fun x vs H Q => ∃ (a : Str) (p : Addr) (ys : List Str), x = .str a ∧ vs = [.ref p] ∧ SqL X.K H p (ys.map V.str) ∧ a.length ≤ 16 ∧ (ys.map (·.length)).sum + ys.length ≤ 1048576 ∧ Q (.str (Str.join a ys)) H) := by
  intro pins s σ H x vs v us Q I rx rv h
  obtain ⟨a, p, ys, rfl, rfl, hp, ha, hz, q⟩ := h
  obtain ⟨t, rfl⟩ := rx
  obtain ⟨u, rfl, rp⟩ := vals1 rv
  cases rp
  obtain ⟨its, rv, pl, _⟩ := I.list hp
  refine join_listW pl.isList (by simpa using strs_are rv) ha hz fun t' k => ⟨.str (Str.join a ys), H, I.tok k, ⟨_, by rw [join_txt]⟩, q⟩
end
theorem join_inj {c : Nat} : ∀ {ps qs : List Str}, ps ≠ [] → qs ≠ [] → (∀ p ∈ ps, c ∉ p.cps.toList) → (∀ p ∈ qs, c ∉ p.cps.toList) → Str.join ⟨#[c]⟩ ps = Str.join ⟨#[c]⟩ qs → ps = qs
  | [], _, h, _, _, _, _ => absurd rfl h
  | _, [], _, h, _, _, _ => absurd rfl h
  | [p], [q], _, _, _, _, e => by
    have e : p = q := e
    rw [e]
  | [p], q :: q2 :: qs, _, _, h1, _, e => by
    have e : p = q ++ ⟨#[c]⟩ ++ Str.join ⟨#[c]⟩ (q2 :: qs) := e
    refine absurd ?_ (h1 p (List.mem_singleton.mpr rfl))
    rw [e, cps_toList_append, cps_toList_append]
    exact List.mem_append_left _ (List.mem_append_right _ (List.mem_singleton.mpr rfl))
  | p :: p2 :: ps, [q], _, _, _, h2, e => by
    have e : p ++ ⟨#[c]⟩ ++ Str.join ⟨#[c]⟩ (p2 :: ps) = q := e
    refine absurd ?_ (h2 q (List.mem_singleton.mpr rfl))
    rw [← e, cps_toList_append, cps_toList_append]
    exact List.mem_append_left _ (List.mem_append_right _ (List.mem_singleton.mpr rfl))
  | p :: p2 :: ps, q :: q2 :: qs, _, _, h1, h2, e => by
    have e : p ++ ⟨#[c]⟩ ++ Str.join ⟨#[c]⟩ (p2 :: ps) = q ++ ⟨#[c]⟩ ++ Str.join ⟨#[c]⟩ (q2 :: qs) := e
    have k := congrArg (fun z => Txt.partition z ⟨#[c]⟩) e
    have k : Txt.partition (p ++ ⟨#[c]⟩ ++ Str.join ⟨#[c]⟩ (p2 :: ps)) ⟨#[c]⟩ = Txt.partition (q ++ ⟨#[c]⟩ ++ Str.join ⟨#[c]⟩ (q2 :: qs)) ⟨#[c]⟩ := k
    rw [Yw (h1 p List.mem_cons_self), Yw (h2 q List.mem_cons_self)] at k
    have k1 : p = q := congrArg (fun z => z.1) k
    have k2 : Str.join ⟨#[c]⟩ (p2 :: ps) = Str.join ⟨#[c]⟩ (q2 :: qs) := congrArg (fun z => z.2.2) k
    rw [k1, join_inj (by simp) (by simp) (fun p hp => h1 p (List.mem_cons_of_mem _ hp)) (fun p hp => h2 p (List.mem_cons_of_mem _ hp)) k2]
theorem Q7 {c : Nat} {ps : List Str} (n : ps ≠ []) (h : ∀ p ∈ ps, c ∉ p.cps.toList) : Txt.split (Str.join ⟨#[c]⟩ ps) ⟨#[c]⟩ = ps := by
  refine join_inj (fun z => ?_) n (StrLaws.split_free _ c) h (StrLaws.join_split _ _)
  have := split_pos (Str.join ⟨#[c]⟩ ps) ⟨#[c]⟩
  rw [z] at this
  exact absurd this (by decide)
end L2
namespace L2
open PySem PySem.Spec PyProof.Rows BP
theorem sum_le {B : Nat} : ∀ {ys : List Str}, (∀ y ∈ ys, y.length ≤ B) → (ys.map (·.length)).sum ≤ ys.length * B
  | [], _ => by simp
  | y :: ys, h => by
    rw [List.map_cons, List.sum_cons, List.length_cons, Nat.succ_mul]
    have h1 := h y List.mem_cons_self
    have h2 := sum_le (ys := ys) fun z hz => h z (List.mem_cons_of_mem _ hz)
    omega
theorem ZJ {c : Nat} : ∀ (ps : List Str), (Str.join ⟨#[c]⟩ ps).length ≤ (ps.map (·.length)).sum + ps.length
  | [] => by simp [Str.join]; decide
  | [p] => by
    show p.length ≤ _
    simp
  | p :: p2 :: ps => by
    have h := ZJ (c := c) (p2 :: ps)
    have e : (Str.join ⟨#[c]⟩ (p :: p2 :: ps)).length = p.length + 1 + (Str.join ⟨#[c]⟩ (p2 :: ps)).length := by
      show (p ++ ⟨#[c]⟩ ++ Str.join ⟨#[c]⟩ (p2 :: ps)).length = _
      rw [v3, cps_toList_append, cps_toList_append, List.length_append, List.length_append, ← v3, ← v3]
      rfl
    rw [e, List.map_cons, List.sum_cons, List.length_cons]
    omega
theorem Z1 {c d : Nat} (n : d ≠ c) : ∀ {ps : List Str}, (∀ p ∈ ps, d ∉ p.cps.toList) → d ∉ (Str.join ⟨#[c]⟩ ps).cps.toList
  | [], _ => by
    intro z
    exact absurd z (by show d ∉ ([] : List Nat); simp)
  | [p], h => h p (List.mem_singleton.mpr rfl)
  | p :: p2 :: ps, h => by
    show d ∉ (p ++ ⟨#[c]⟩ ++ Str.join ⟨#[c]⟩ (p2 :: ps)).cps.toList
    rw [cps_toList_append, cps_toList_append]
    intro z
    rcases List.mem_append.mp z with z | z
    · rcases List.mem_append.mp z with z | z
      · exact h p List.mem_cons_self z
      · exact n (List.mem_singleton.mp z)
    · exact Z1 n (fun q hq => h q (List.mem_cons_of_mem _ hq)) z
theorem Y8 {n c : Nat} (h : c < 48 ∨ 57 < c) : c ∉ (figs n).cps.toList := by
  rw [xK]
  intro z
  have := figL_all n c z
  omega
end L2
namespace L2
open PySem PySem.Spec PyProof.Rows BP
section
variable {X : Cx}
theorem ps_tryB {n bn : Str} {st : Stmt} {tt : Ends → St → Hp → Prop} {ts : Addr → TS} {i : Nat} {CB : Addr} {b0 : Stmt} {suite : List Stmt} {hp np p2 : Pos}
    (hst : X.stack = X.env :: X.outer) (hfr : X.env.frame = some X.env.locals) (hex : X.ex = []) (hN : X.N.Nodup) (hi : X.N[i]? = some n) (hn : X.env.scope.names.lookup n = some .local)
    (hgB : Gl X bn) (hmB : X.mg bn = some (.ref CB)) (hs : ∀ ea, PSs (X.inHandler ea) (b0 :: suite) (ts ea))
    (body : ∀ (pins : List (Addr × Obj)) (s : Shared) (σ : St) (H : Hp) (D : Ends), Inv X pins σ H s → tt D σ H → wpAny (model X.prog X.w) X.A (exec st X.env) (fun fl s2 => fl = .next ∧ ∃ σ2 H2, Inv X pins σ2 H2 s2 ∧ D.nx σ2 H2)
      (fun e s2 => ∃ H1 s1, Inv X pins σ H1 s1 ∧ CXE X.prog X.w X.stack H1 s1 (EHof X.K i CB ts D σ) e s2) s)
    (hdB : (bn == ("__debug__" : Str)) = false := by decide) :
    PS X (.Try [st] [.ExceptHandler (some (.Name bn np)) (some n) (b0 :: suite) hp] [] [] p2) tt := by
  intro pins s σ H D I h
  refine wpAny_Try_except ?_
  refine wpAny_execs_cons (wpAny_mono (body pins s σ H D I h) (fun v s2 z => ?_) fun e2 s2 z => ?_)
  · obtain ⟨rfl, σ2, H2, I2, q⟩ := z
    exact wpAny_execs_nil (wpAny_execs_nil ⟨σ2, H2, I2, q⟩)
  · obtain ⟨H1, s1, I1, ea, C, a0, H', B, rfl, os, bare, un, hok, fl, cov, hea, C', ec, und, q⟩ := z
    cases ec
    have I2 : Inv X pins σ H' s2 := I1.call' (ch := []) os un hok bare (fun b z => absurd z (by simp))
    have fl2 : Heap.FlyingW B (X.env :: X.outer) ea (.ref C) a0 s2.heap := by rw [← hst]; exact fl
    have no1 : ∀ u, s1.heap.get? ea ≠ some u := fun u z => by
      obtain ⟨ox, ws, e1, _, e3, _⟩ := fl2.first
      by_cases hb : ea ∈ frs X.stack
      · obtain ⟨_, o', e', hd⟩ := I2.stack.mem hb
        rw [e1] at e'
        cases e'
        exact hd _ e3
      · have e4 := cov ea ox e1 (.inl ⟨u, z⟩) hb
        rw [fl2.2.1] at e4
        cases e4
    refine wpAny_looks_onW (by rw [I.ok.frames, hst]) hfr fl2 fun h4 held up4 => ?_
    refine wpAny_landsW held fun h5 fl5 up5 => ?_
    have I5 : Inv X pins σ H' { s2 with heap := h5 } := I1.fly I2 hex cov fl5.1 (up4.trans up5)
    obtain ⟨ob, hob, hobc⟩ := fl5.there
    refine wpAny_handleBy_cons (codeAny_handlers_test (ld_glob (X := X.inHandler ea) (I5.toHandler ea) hgB hmB ?_ hdB)) (by intro z; cases z)
    refine matches_up (K := X.K) I5.kIn hob hobc und.up und.mro (codeAny_handlers_suite_as ?_)
    refine lands_againW fl5 fun h6 fl6 up6 => ?_
    have I6 : Inv X pins σ H' { s2 with heap := h6 } := I1.fly I2 hex cov fl6.1 ((up4.trans up5).trans up6)
    obtain ⟨ob6, hob6, hobc6⟩ := fl6.there
    have n0 : X.s₀.heap.get? ea = none := by
      cases z : X.s₀.heap.get? ea with
      | none => rfl
      | some u =>
        obtain ⟨u', z'⟩ := I1.base.there ea u z (by rw [hex]; simp)
        exact absurd z' (no1 u')
    have I7 : Inv X pins σ (upd H' ea (.ext (ExcAt ea C))) { s2 with heap := h6 } := by
      refine I6.track hea n0 (fun pp hpp z => ?_) (fun z => ?_) (fun y c ec z => ?_) (excAt_ok ⟨ob6, hob6, hobc6⟩)
      · obtain ⟨e1, _⟩ := I1.pin pp hpp
        rw [z] at e1
        exact no1 _ e1
      · obtain ⟨m, ⟨o, _, _, ho, _⟩, _⟩ := I1.loc
        rw [← z] at ho
        exact no1 _ ho
      · obtain ⟨v, o, ho, _⟩ := I1.cell y c ec
        rw [z] at ho
        exact no1 _ ho
    refine Y4 (X := X.inHandler ea) (I7.toHandler ea) hN hi (.inl hn) (v := .ref ea) rfl (fun s8 I8 => ?_) (.inr hn)
    refine wpAny_mono (hs ea pins s8 _ _ _ I8 (q ea hea)) (fun fl9 s9 z => ?_) fun _ _ z => False.elim z
    cases fl9 with
    | next =>
      obtain ⟨σ9, H9, I9, q9⟩ := z
      exact Inv.goes (I9.fromHandler I.ok) hN hi hn fun s10 I10 => ⟨_, H9, I10, q9⟩
    | ret u =>
      obtain ⟨_, _, _, _, _, q9⟩ := z
      exact False.elim q9
    | brk =>
      obtain ⟨_, _, _, q9⟩ := z
      exact False.elim q9
    | cont =>
      obtain ⟨_, _, _, q9⟩ := z
      exact False.elim q9
def tTryTold (K : PySem.W.Frag) (i j : Nat) (CB C : Addr) (m : Str) (sp sp2 : Sp) (ta : TA) (ts : Addr → TS) : Ends → St → Hp → Prop := fun D σ H => ta σ H fun vs H1 =>
  sp vs H1 (fun v H2 => ∃ (p dx : Addr) (fs : List (Str × V)), v = .ref p ∧ H2 p = some (.ins C dx fs) ∧ fs.lookup m = none ∧ sp2 [.ref p] H2 (fun y H3 => D.nx (σ.set j (some y)) H3) E0) (EHof K i CB ts D σ)
theorem ps_tryTold {k k2 : Nat} {f f2 C : Addr} {fd fd2 : FuncData} {ps ps2 : List Str} {sp sp2 : Sp} {x y n bn m : Str} {e : Expr} {es : List Expr} {ta : TA} {ts : Addr → TS} {i j : Nat} {CB : Addr} {b0 : Stmt} {suite : List Stmt} {p pos p1 hp np p2 py apos pos2 : Pos} {pl : Sem Bool}
    (hst : X.stack = X.env :: X.outer) (hfr : X.env.frame = some X.env.locals) (hex : X.ex = []) (hN : X.N.Nodup) (hi : X.N[i]? = some n) (hn : X.env.scope.names.lookup n = some .local) (hj : X.N[j]? = some y) (hy : X.env.scope.names.lookup y = some .local)
    (F : FnOk X.prog X.w X.K X.mg X.base (CXE X.prog X.w) k f fd ps sp) (hr : Room k X.A) (hg : Gl X x) (hm : X.mg x = some (.ref f)) (hk : PySem.W.keepIn X.K (.ref f) = true) (hb : Binds X.K fd ps [])
    (c : Cls X.K C) (mt : Meth X.K C m f2) (F2 : FnOk X.prog X.w X.K X.mg X.base CX0 k2 f2 fd2 ps2 sp2) (hr2 : Room k2 X.A) (hb2 : Binds X.K fd2 ps2 [])
    (hgB : Gl X bn) (hmB : X.mg bn = some (.ref CB)) (ha : PA X.nox (e :: es) ta) (hs : ∀ ea, PSs (X.inHandler ea) (b0 :: suite) (ts ea))
    (hdb : (x == ("__debug__" : Str)) = false := by decide) (hdB : (bn == ("__debug__" : Str)) = false := by decide)
    (he : starEach (e :: es) X.env = (false, eval e X.env) :: starEach es X.env := by rfl) (hpl : (backTo pos (starEach es X.env)).any (·.1) = false := by rfl)
    (ht : eval (.Call (.Attribute (.Call (.Name x p) (e :: es) [] pos) m apos) [] [] pos2) X.env = (do
      let ov ← eval (.Call (.Name x p) (e :: es) [] pos) X.env
      standAt apos.atName
      let (f, first) ← holding [ov] (getMethod ov m pl)
      callWith pos2 f first (backTo pos2 (starEach [] X.env)) (backToKw pos2 (keywordEach [] X.env))) := by rfl)
    (hsw : swapsWith (.Call (.Attribute (.Call (.Name x p) (e :: es) [] pos) m apos) [] [] pos2) (some (.Name y py)) p1.line X.env = pure false := by rfl) :
    PS X (.Try [.Assign [.Name y py] (.Call (.Attribute (.Call (.Name x p) (e :: es) [] pos) m apos) [] [] pos2) p1] [.ExceptHandler (some (.Name bn np)) (some n) (b0 :: suite) hp] [] [] p2) (tTryTold X.K i j CB C m sp sp2 ta ts) := by
  refine ps_tryB hst hfr hex hN hi hn hgB hmB hs (fun pins s σ H D I h => ?_) hdB
  have body : wpAny (model X.prog X.w) X.A (eval (.Call (.Name x p) (e :: es) [] pos) X.env) (fun u s2 => ∃ (q dx : Addr) (fs : List (Str × V)) (H2 : Hp), u = .ref q ∧ Inv X pins σ H2 s2 ∧ H2 q = some (.ins C dx fs) ∧ fs.lookup m = none ∧ sp2 [.ref q] H2 (fun y H3 => D.nx (σ.set j (some y)) H3) E0)
      (fun e s2 => ∃ H1 s1, Inv X pins σ H1 s1 ∧ CXE X.prog X.w X.stack H1 s1 (EHof X.K i CB ts D σ) e s2) s := by
    refine wpAny_Call_Name_kw (ld_glob I hg hm ?_ hdb)
    have pa := ha pos pins s σ H _ (I.wish _) h
    refine PySem.W.callWith_K (h₀ := X.base) I.ok.mod.kin hk (wpAny_mono pa (fun us s1 z => ?_) fun _ _ z => False.elim z) he hpl
    obtain ⟨vs, H1, I1, r, q⟩ := z
    have I1 : Inv X pins σ H1 s1 := I1.unwish
    refine ⟨I1.kIn, ?_⟩
    have hl : us.length = ps.length := by rw [← r.length]; exact F.len _ _ _ _ q
    have bd := hb s1 us I1.kIn (by rw [List.append_nil]; exact hl)
    rw [List.append_nil] at bd
    refine wpAny_call (codeAny_mono (F.run X.A X.stack s1 H1 ⟨us, []⟩ us vs _ _ hr I1.env0 bd r q) fun r s' hq => ?_)
    cases r with
    | error e => exact ⟨H1, s1, I1, hq⟩
    | ok fl =>
      cases fl with
      | ret u =>
        obtain ⟨v, H2, I2, ru, pq, dx, fs, rfl, ea, l, q2⟩ := I1.after hq
        cases ru
        exact ⟨pq, dx, fs, H2, rfl, I2, ea, l, q2⟩
      | _ => exact False.elim hq
  refine wpAny_Assign_Name (PySem.W.methodCall_KW (pl := pl) (wpAny_mono body (fun u s1 z => ?_) fun _ _ z => z) ht) hsw
  obtain ⟨q, dx, fs, H1, rfl, I1, ea, l, sq⟩ := z
  refine getmeth_ok I1 ea c mt l ?_
  refine PySem.W.callWith_K0 (first := [.ref q]) I1.kIn mt.kp (wpAny_mono (run_fn (X := X.nox) (us := [.ref q]) (vs := [.ref q]) F2 hr2 hb2 .nil pass0 (I1.wish _) (.cons rfl .nil) sq) (fun v s3 z => ?_) fun _ _ z => False.elim z)
  obtain ⟨y3, H3, I3, r3, q3⟩ := z
  exact Y4 I3.unwish hN hj (.inl hy) r3 (fun s4 I4 => ⟨rfl, _, _, I4, q3⟩) (.inr hy)
end
end L2
namespace L2
open PySem PySem.Spec PyProof.Rows BP
section
variable {X : Cx}
def rNeT (K : PySem.W.Frag) : R2 := fun x y H Q => ∃ a b xs ys, x = .ref a ∧ y = .ref b ∧ SqT K H a xs ∧ SqT K H b ys ∧ xs.all flatV = true ∧ ys.all flatV = true ∧ Q (.bl (!eqVs xs ys)) H
theorem op_neT (hu : X.A.units + 1 < cLine) : OpR X (compareOp .NotEq) (rNeT X.K) := by
  intro pins s σ H x y v u Q I rx ry h
  obtain ⟨a, b, xs, ys, rfl, rfl, ha, hb, fx, fy, q⟩ := h
  cases rx
  cases ry
  obtain ⟨its, r1, p1, _⟩ := I.tuple ha
  obtain ⟨its2, r2, p2, _⟩ := I.tuple hb
  have h1 := r1.length
  have h2 := r2.length
  refine SeqAt.RcNeAt.tuples (e := fun j => match xs[j]?, ys[j]? with | some x, some y => eqV x y | _, _ => true) p1 p2 (by omega) (fun j g1 g2 => ?_) _ _ _ _ ⟨.bl _, H, I, rfl, ?_⟩
  · obtain ⟨x, e1, q1⟩ := kY r1 j (by simpa using g1)
    obtain ⟨y, e2, q2⟩ := kY r2 j (by simpa using g2)
    rw [e1, e2]
    exact eqAt_V (by simpa using q1) (by simpa using q2) (flat_at fx e1) (flat_at fy e2)
  · rw [List.size_toArray, List.size_toArray, ← h1, ← h2, YY xs ys _ fun j x y e1 e2 => by rw [e1, e2]]
    exact q
end
end L2
namespace L2
open PySem PySem.Spec PyProof.Rows BP
section
variable {X : Cx}
def NoOr (K : PySem.W.Frag) (H : Hp) (v : V) : Prop := v = .non ∨ (∃ i : Int, v = .int i) ∨ ∃ t ys, v = .ref t ∧ SqT K H t ys
def isNo : Value → Bool
  | .none => true
  | _ => false
def rInNo (K : PySem.W.Frag) : R2 := fun x y H Q => ∃ p xs, x = .non ∧ y = .ref p ∧ SqL K H p xs ∧ (∀ v ∈ xs, NoOr K H v) ∧ Q (.bl (decide (V.non ∈ xs))) H
theorem no_any {K : PySem.W.Frag} {H : Hp} : ∀ {xs : List V} {us : List Value}, Vals xs us → (∀ v ∈ xs, NoOr K H v) → us.any isNo = decide (V.non ∈ xs)
  | [], _, .nil, _ => by simp
  | x :: xs, u :: us, .cons r t, h => by
    rw [List.any_cons, no_any t fun v hv => h v (List.mem_cons_of_mem _ hv)]
    rcases h x List.mem_cons_self with rfl | ⟨i, rfl⟩ | ⟨t, ys, rfl, _⟩
    · cases r
      simp [isNo]
    · obtain ⟨k, rfl⟩ := r
      simp [isNo]
    · cases r
      simp [isNo]
theorem no_all {pins : List (Addr × Obj)} {σ : St} {H : Hp} {s : Shared} {A : Around} (I : Inv X pins σ H s) (hu : A.units < cLine) : ∀ {xs : List V} {us : List Value}, Vals xs us → (∀ v ∈ xs, NoOr X.K H v) → ∀ u ∈ us, SeqAt.EqAt A s u .none (isNo u)
  | [], _, .nil, _, u, hu' => by cases hu'
  | x :: xs, w :: us, .cons r t, h, u, hm => by
    rcases List.mem_cons.mp hm with rfl | hm
    · rcases h x List.mem_cons_self with rfl | ⟨i, rfl⟩ | ⟨t, ys, rfl, ht⟩
      · cases r
        exact eqAt_V (x := .non) (y := .non) rfl rfl rfl rfl
      · obtain ⟨k, rfl⟩ := r
        exact SeqAt.EqAt.int_none i k
      · cases r
        obtain ⟨its, _, p, _⟩ := I.tuple ht
        exact SeqAt.EqAt.tuple_none p hu
    · exact no_all I hu t (fun v hv => h v (List.mem_cons_of_mem _ hv)) u hm
theorem op_inNo (hu : X.A.units + 1 < cLine) : OpR X (compareOp .In) (rInNo X.K) := by
  intro pins s σ H x y v u Q I rx ry h
  obtain ⟨p, xs, rfl, rfl, hp, all, q⟩ := h
  cases rx
  cases ry
  obtain ⟨its, r, pl, hz⟩ := I.list hp
  refine SeqAt.in_listAt isNo pl.isList (fun w hw => no_all (A := X.A.in1) I hu r all w (by simpa using hw)) ⟨.bl _, H, I, ?_, q⟩
  rw [show its.toArray.any isNo = its.any isNo by simp, no_any r all]
  rfl
end
end L2
namespace L2
open PySem
section
variable {X : Cx}
theorem seq_cut {t u : TS} {D : Ends} {σ : St} {H : Hp} (h : ∀ N : St → Hp → Prop, N = u D → t { D with nx := N } σ H) : tSeq t u D σ H := h _ rfl
def bS (s : Stmt) (i : Nat) : Stmt := (zz s).getD i (.Pass ⟨0, 0, 0, 0⟩)
theorem body2 {s : Stmt} {t0 t1 : TS} (hb : zz s = [bS s 0, bS s 1]) (h0 : PS X (bS s 0) t0) (h1 : PS X (bS s 1) t1) : PSs X (zz s) (tSeq t0 t1) := by
  rw [hb]
  exact (qZ h0 (qJ h1))
theorem body3 {s : Stmt} {t0 t1 t2 : TS} (hb : zz s = [bS s 0, bS s 1, bS s 2]) (h0 : PS X (bS s 0) t0) (h1 : PS X (bS s 1) t1) (h2 : PS X (bS s 2) t2) : PSs X (zz s) (tSeq t0 (tSeq t1 t2)) := by
  rw [hb]
  exact (qZ h0 (qZ h1 (qJ h2)))
theorem body4 {s : Stmt} {t0 t1 t2 t3 : TS} (hb : zz s = [bS s 0, bS s 1, bS s 2, bS s 3]) (h0 : PS X (bS s 0) t0) (h1 : PS X (bS s 1) t1) (h2 : PS X (bS s 2) t2) (h3 : PS X (bS s 3) t3) : PSs X (zz s) (tSeq t0 (tSeq t1 (tSeq t2 t3))) := by
  rw [hb]
  exact (qZ h0 (qZ h1 (qZ h2 (qJ h3))))
theorem body5 {s : Stmt} {t0 t1 t2 t3 t4 : TS} (hb : zz s = [bS s 0, bS s 1, bS s 2, bS s 3, bS s 4]) (h0 : PS X (bS s 0) t0) (h1 : PS X (bS s 1) t1) (h2 : PS X (bS s 2) t2) (h3 : PS X (bS s 3) t3) (h4 : PS X (bS s 4) t4) : PSs X (zz s) (tSeq t0 (tSeq t1 (tSeq t2 (tSeq t3 t4)))) := by
  rw [hb]
  exact (qZ h0 (qZ h1 (qZ h2 (qZ h3 (qJ h4)))))
theorem body6 {s : Stmt} {t0 t1 t2 t3 t4 t5 : TS} (hb : zz s = [bS s 0, bS s 1, bS s 2, bS s 3, bS s 4, bS s 5]) (h0 : PS X (bS s 0) t0) (h1 : PS X (bS s 1) t1) (h2 : PS X (bS s 2) t2) (h3 : PS X (bS s 3) t3) (h4 : PS X (bS s 4) t4) (h5 : PS X (bS s 5) t5) : PSs X (zz s) (tSeq t0 (tSeq t1 (tSeq t2 (tSeq t3 (tSeq t4 t5))))) := by
  rw [hb]
  exact (qZ h0 (qZ h1 (qZ h2 (qZ h3 (qZ h4 (qJ h5))))))
theorem body7 {s : Stmt} {t0 t1 t2 t3 t4 t5 t6 : TS} (hb : zz s = [bS s 0, bS s 1, bS s 2, bS s 3, bS s 4, bS s 5, bS s 6]) (h0 : PS X (bS s 0) t0) (h1 : PS X (bS s 1) t1) (h2 : PS X (bS s 2) t2) (h3 : PS X (bS s 3) t3) (h4 : PS X (bS s 4) t4) (h5 : PS X (bS s 5) t5) (h6 : PS X (bS s 6) t6) : PSs X (zz s) (tSeq t0 (tSeq t1 (tSeq t2 (tSeq t3 (tSeq t4 (tSeq t5 t6)))))) := by
  rw [hb]
  exact (qZ h0 (qZ h1 (qZ h2 (qZ h3 (qZ h4 (qZ h5 (qJ h6)))))))
theorem body8 {s : Stmt} {t0 t1 t2 t3 t4 t5 t6 t7 : TS} (hb : zz s = [bS s 0, bS s 1, bS s 2, bS s 3, bS s 4, bS s 5, bS s 6, bS s 7]) (h0 : PS X (bS s 0) t0) (h1 : PS X (bS s 1) t1) (h2 : PS X (bS s 2) t2) (h3 : PS X (bS s 3) t3) (h4 : PS X (bS s 4) t4) (h5 : PS X (bS s 5) t5) (h6 : PS X (bS s 6) t6) (h7 : PS X (bS s 7) t7) : PSs X (zz s) (tSeq t0 (tSeq t1 (tSeq t2 (tSeq t3 (tSeq t4 (tSeq t5 (tSeq t6 t7))))))) := by
  rw [hb]
  exact (qZ h0 (qZ h1 (qZ h2 (qZ h3 (qZ h4 (qZ h5 (qZ h6 (qJ h7))))))))
theorem body10 {s : Stmt} {t0 t1 t2 t3 t4 t5 t6 t7 t8 t9 : TS} (hb : zz s = [bS s 0, bS s 1, bS s 2, bS s 3, bS s 4, bS s 5, bS s 6, bS s 7, bS s 8, bS s 9]) (h0 : PS X (bS s 0) t0) (h1 : PS X (bS s 1) t1) (h2 : PS X (bS s 2) t2) (h3 : PS X (bS s 3) t3) (h4 : PS X (bS s 4) t4) (h5 : PS X (bS s 5) t5) (h6 : PS X (bS s 6) t6) (h7 : PS X (bS s 7) t7) (h8 : PS X (bS s 8) t8) (h9 : PS X (bS s 9) t9) : PSs X (zz s) (tSeq t0 (tSeq t1 (tSeq t2 (tSeq t3 (tSeq t4 (tSeq t5 (tSeq t6 (tSeq t7 (tSeq t8 t9))))))))) := by
  rw [hb]
  exact (qZ h0 (qZ h1 (qZ h2 (qZ h3 (qZ h4 (qZ h5 (qZ h6 (qZ h7 (qZ h8 (qJ h9))))))))))
theorem body13 {s : Stmt} {t0 t1 t2 t3 t4 t5 t6 t7 t8 t9 t10 t11 t12 : TS} (hb : zz s = [bS s 0, bS s 1, bS s 2, bS s 3, bS s 4, bS s 5, bS s 6, bS s 7, bS s 8, bS s 9, bS s 10, bS s 11, bS s 12]) (h0 : PS X (bS s 0) t0) (h1 : PS X (bS s 1) t1) (h2 : PS X (bS s 2) t2) (h3 : PS X (bS s 3) t3) (h4 : PS X (bS s 4) t4) (h5 : PS X (bS s 5) t5) (h6 : PS X (bS s 6) t6) (h7 : PS X (bS s 7) t7) (h8 : PS X (bS s 8) t8) (h9 : PS X (bS s 9) t9) (h10 : PS X (bS s 10) t10) (h11 : PS X (bS s 11) t11) (h12 : PS X (bS s 12) t12) : PSs X (zz s) (tSeq t0 (tSeq t1 (tSeq t2 (tSeq t3 (tSeq t4 (tSeq t5 (tSeq t6 (tSeq t7 (tSeq t8 (tSeq t9 (tSeq t10 (tSeq t11 t12)))))))))))) := by
  rw [hb]
  exact (qZ h0 (qZ h1 (qZ h2 (qZ h3 (qZ h4 (qZ h5 (qZ h6 (qZ h7 (qZ h8 (qZ h9 (qZ h10 (qZ h11 (qJ h12)))))))))))))
end
end L2
namespace BP
open PySem L2
theorem sc_law_cell_at : FnScope ["_law_script", "_law_k"] ["_law_script", "_law_k"] (qQ wW) := ⟨rfl, rfl, rfl, by decide +kernel, rfl, by decide +kernel, by decide +kernel⟩
theorem Yk : FnScope ["_law_cell", "_law_k", "_law_number"] ["_law_cell", "_law_k"] (qQ xZ) := ⟨rfl, rfl, rfl, by decide +kernel, rfl, by decide +kernel, by decide +kernel⟩
theorem Zk : FnScope ["_law_number", "_law_k", "_law_wide_here", "_law_j"] ["_law_number", "_law_k"] (qQ Q9) := ⟨rfl, rfl, rfl, by decide +kernel, rfl, by decide +kernel, by decide +kernel⟩
theorem v5 : FnScope ["_law_script", "_law_start", "_law_many", "_law_total", "_law_rest", "_law_at", "_law_cell", "_law_seeds_here", "_law_k"] ["_law_script", "_law_start", "_law_many"] (qQ j6) := ⟨rfl, rfl, rfl, by decide +kernel, rfl, by decide +kernel, by decide +kernel⟩
theorem Zw : FnScope ["_law_top", "_law_bottom", "_law_rest", "_law_by"] ["_law_top", "_law_bottom"] (qQ Qq) := ⟨rfl, rfl, rfl, by decide +kernel, rfl, by decide +kernel, by decide +kernel⟩
theorem vj : FnScope ["_law_number", "_law_great", "_law_top", "_law_way", "_law_far", "_law_tail"] ["_law_number", "_law_great"] (qQ v9) := ⟨rfl, rfl, rfl, by decide +kernel, rfl, by decide +kernel, by decide +kernel⟩
theorem sc_law_small : FnScope ["_law_number", "_law_great"] ["_law_number", "_law_great"] (qQ xy) := ⟨rfl, rfl, rfl, by decide +kernel, rfl, by decide +kernel, by decide +kernel⟩
theorem yv : FnScope ["_law_number", "_law_places", "_law_bent", "_law_great", "_law_kind", "_law_way", "_law_more", "_law_left", "_law_terms", "_law_k", "_law_coin", "_law_spot", "_law_share"] ["_law_number", "_law_places", "_law_bent", "_law_great"] (qQ jX) := ⟨rfl, rfl, rfl, by decide +kernel, rfl, by decide +kernel, by decide +kernel⟩
theorem yJ : FnScope ["_law_script", "_law_start", "_law_most_bends", "_law_seeds_here", "_law_lead", "_law_more", "_law_many", "_law_great", "_law_size", "_law_units", "_law_bends", "_law_number", "_law_unit_here", "_law_outs", "_law_k"] ["_law_script", "_law_start", "_law_most_bends"] (qQ yQ) := ⟨rfl, rfl, rfl, by decide +kernel, rfl, by decide +kernel, by decide +kernel⟩
theorem sc_law_figures : FnScope ["_law_word", "_law_most"] ["_law_word", "_law_most"] (qQ jy) := ⟨rfl, rfl, rfl, by decide +kernel, rfl, by decide +kernel, by decide +kernel⟩
theorem vW : FnScope ["_law_word", "_law_top", "_law_stroke", "_law_bottom", "_law_number", "_law_other"] ["_law_word"] (qQ yX) := ⟨rfl, rfl, rfl, by decide +kernel, rfl, by decide +kernel, by decide +kernel⟩
theorem ky : FnScope ["_law_words_here", "_law_place", "_law_terms", "_law_word", "_law_pieces"] ["_law_words_here"] (qQ yW) := ⟨rfl, rfl, rfl, by decide +kernel, rfl, by decide +kernel, by decide +kernel⟩
theorem QQ : FnScope ["_law_text", "_law_rows_here", "_law_many", "_law_units", "_law_outs"] ["_law_text"] (qQ jq) := ⟨rfl, rfl, rfl, by decide +kernel, rfl, by decide +kernel, by decide +kernel⟩
theorem sc_told_unit : FnScope ["unit"] ["unit"] (qQ xk) := ⟨rfl, rfl, rfl, by decide +kernel, rfl, by decide +kernel, by decide +kernel⟩
theorem sc_Net_told : FnScope ["self"] ["self"] (qQ Qx) := ⟨rfl, rfl, rfl, by decide +kernel, rfl, by decide +kernel, by decide +kernel⟩
theorem vw : FnScope ["_law_told", "_law_many", "_law_units", "_law_outs", "_law_k", "_law_unit_here", "_law_some"] ["_law_told"] (qQ jK) := ⟨rfl, rfl, rfl, by decide +kernel, rfl, by decide +kernel, by decide +kernel⟩
theorem sc_read_whole : FnScope ["text"] ["text"] (qQ jJ) := ⟨rfl, rfl, rfl, by decide +kernel, rfl, by decide +kernel, by decide +kernel⟩
theorem sc_read_places : FnScope ["row", "head", "words"] ["row", "head"] (qQ jw) := ⟨rfl, rfl, rfl, by decide +kernel, rfl, by decide +kernel, by decide +kernel⟩
theorem sc_common : FnScope ["one", "other", "rest"] ["one", "other"] (qQ Y7) := ⟨rfl, rfl, rfl, by decide +kernel, rfl, by decide +kernel, by decide +kernel⟩
theorem sc_is_whole : FnScope ["thing"] ["thing"] (qQ Qz) := ⟨rfl, rfl, rfl, by decide +kernel, rfl, by decide +kernel, by decide +kernel⟩
theorem sc_is_ratio : FnScope ["thing"] ["thing"] (qQ Qj) := ⟨rfl, rfl, rfl, by decide +kernel, rfl, by decide +kernel, by decide +kernel⟩
theorem sc_checked_place : FnScope ["place", "end"] ["place", "end"] (qQ vV) := ⟨rfl, rfl, rfl, by decide +kernel, rfl, by decide +kernel, by decide +kernel⟩
theorem sc_plain : FnScope ["one"] ["one"] (qQ s_plain) := ⟨rfl, rfl, rfl, by decide +kernel, rfl, by decide +kernel, by decide +kernel⟩
theorem sc_checked_term : FnScope ["term", "end"] ["term", "end"] (qQ j7) := ⟨rfl, rfl, rfl, by decide +kernel, rfl, by decide +kernel, by decide +kernel⟩
theorem sc_checked_sum : FnScope ["constant", "terms", "end", "found"] ["constant", "terms", "end"] (qQ yY) := ⟨rfl, rfl, rfl, by decide +kernel, rfl, by decide +kernel, by decide +kernel⟩
theorem sc_checked_unit : FnScope ["unit", "end"] ["unit", "end"] (qQ yK) := ⟨rfl, rfl, rfl, by decide +kernel, rfl, by decide +kernel, by decide +kernel⟩
theorem Y6 : FnScope ["units", "many", "found"] ["units", "many"] (qQ yy) := ⟨rfl, rfl, rfl, by decide +kernel, rfl, by decide +kernel, by decide +kernel⟩
theorem sc_checked_outs : FnScope ["outs", "end"] ["outs", "end"] (qQ ww) := ⟨rfl, rfl, rfl, by decide +kernel, rfl, by decide +kernel, by decide +kernel⟩
theorem sc_Net_init : FnScope ["self", "many", "units", "outs"] ["self", "many", "units", "outs"] (qQ vQ) := ⟨rfl, rfl, rfl, by decide +kernel, rfl, by decide +kernel, by decide +kernel⟩
theorem sc_read_top : FnScope ["text"] ["text"] (qQ Q8) := ⟨rfl, rfl, rfl, by decide +kernel, rfl, by decide +kernel, by decide +kernel⟩
theorem sc_ratio : FnScope ["top", "bottom", "by"] ["top", "bottom"] (qQ s_ratio) := ⟨rfl, rfl, rfl, by decide +kernel, rfl, by decide +kernel, by decide +kernel⟩
theorem sc_figures : FnScope ["number", "step", "pieces"] ["number"] (qQ vK) := ⟨rfl, rfl, rfl, by decide +kernel, rfl, by decide +kernel, by decide +kernel⟩
theorem sc_shown : FnScope ["one", "text"] ["one"] (qQ Q4) := ⟨rfl, rfl, rfl, by decide +kernel, rfl, by decide +kernel, by decide +kernel⟩
theorem sc_read : FnScope ["text", "parts", "top", "bottom", "one"] ["text"] (qQ xj) := ⟨rfl, rfl, rfl, by decide +kernel, rfl, by decide +kernel, by decide +kernel⟩
theorem sc_read_term : FnScope ["word", "parts"] ["word"] (qQ xv) := ⟨rfl, rfl, rfl, by decide +kernel, rfl, by decide +kernel, by decide +kernel⟩
theorem sc_read_unit : FnScope ["row", "words"] ["row"] (qQ v8) := ⟨rfl, rfl, rfl, by decide +kernel, rfl, by decide +kernel, by decide +kernel⟩
theorem Zx : FnScope ["text", "rows", "many", "units"] ["text"] (qQ jW) := ⟨rfl, rfl, rfl, by decide +kernel, rfl, by decide +kernel, by decide +kernel⟩
theorem Q3 : FnScope ["_law_text", "_law_told", "_law_found", "e"] ["_law_text"] (qQ jk) := ⟨rfl, rfl, rfl, by decide +kernel, rfl, by decide +kernel, by decide +kernel⟩
theorem sc_law_odd : FnScope ["_law_number", "_law_some"] ["_law_number"] (qQ jx) := ⟨rfl, rfl, rfl, by decide +kernel, rfl, by decide +kernel, by decide +kernel⟩
theorem zY : FnScope ["_law_text", "_law_number", "_law_way", "_law_rows_here", "_law_at", "_law_k", "_law_word", "_law_here", "_law_sign", "_law_other"] ["_law_text", "_law_number"] (qQ y9) := ⟨rfl, rfl, rfl, by decide +kernel, rfl, by decide +kernel, by decide +kernel⟩
theorem sc_law_shown : FnScope ["_law_one"] ["_law_one"] (qQ xQ) := ⟨rfl, rfl, rfl, by decide +kernel, rfl, by decide +kernel, by decide +kernel⟩
theorem sc_law_words : FnScope ["_law_unit_here"] ["_law_unit_here"] (qQ xw) := ⟨rfl, rfl, rfl, by decide +kernel, rfl, by decide +kernel, by decide +kernel⟩
theorem Zv : FnScope ["_law_told", "_law_many", "_law_units", "_law_outs"] ["_law_told"] (qQ wJ) := ⟨rfl, rfl, rfl, by decide +kernel, rfl, by decide +kernel, by decide +kernel⟩
theorem Z3 : FnScope ["_law_script", "_law_told", "_law_text", "_law_k", "_law_cell", "_law_number", "_law_other", "_law_odd_here", "_law_lead", "_law_some"] ["_law_script"] (qQ s_law) := ⟨rfl, rfl, rfl, by decide +kernel, rfl, by decide +kernel, by decide +kernel⟩
structure Adr where
  f_law_cell_at : Addr
  d_law_cell_at : FuncData
  f_law_mixed : Addr
  d_law_mixed : FuncData
  f_law_wide : Addr
  d_law_wide : FuncData
  f_law_seeds : Addr
  d_law_seeds : FuncData
  f_law_part : Addr
  d_law_part : FuncData
  f_law_taken : Addr
  d_law_taken : FuncData
  f_law_small : Addr
  d_law_small : FuncData
  f_law_unit : Addr
  d_law_unit : FuncData
  f_law_net : Addr
  d_law_net : FuncData
  f_law_figures : Addr
  d_law_figures : FuncData
  f_law_ratio : Addr
  d_law_ratio : FuncData
  f_law_unit_of : Addr
  d_law_unit_of : FuncData
  f_law_read : Addr
  d_law_read : FuncData
  f_told_unit : Addr
  d_told_unit : FuncData
  f_Net_told : Addr
  d_Net_told : FuncData
  f_law_is_net : Addr
  d_law_is_net : FuncData
  f_read_whole : Addr
  d_read_whole : FuncData
  f_read_places : Addr
  d_read_places : FuncData
  f_common : Addr
  d_common : FuncData
  f_is_whole : Addr
  d_is_whole : FuncData
  f_is_ratio : Addr
  d_is_ratio : FuncData
  f_checked_place : Addr
  d_checked_place : FuncData
  f_plain : Addr
  d_plain : FuncData
  f_checked_term : Addr
  d_checked_term : FuncData
  f_checked_sum : Addr
  d_checked_sum : FuncData
  f_checked_unit : Addr
  d_checked_unit : FuncData
  f_checked_units : Addr
  d_checked_units : FuncData
  f_checked_outs : Addr
  d_checked_outs : FuncData
  f_Net_init : Addr
  d_Net_init : FuncData
  f_read_top : Addr
  d_read_top : FuncData
  f_ratio : Addr
  d_ratio : FuncData
  f_figures : Addr
  d_figures : FuncData
  f_shown : Addr
  d_shown : FuncData
  f_read : Addr
  d_read : FuncData
  f_read_term : Addr
  d_read_term : FuncData
  f_read_unit : Addr
  d_read_unit : FuncData
  f_read_net : Addr
  d_read_net : FuncData
  f_law_asked : Addr
  d_law_asked : FuncData
  f_law_odd : Addr
  d_law_odd : FuncData
  f_law_spoilt : Addr
  d_law_spoilt : FuncData
  f_law_shown : Addr
  d_law_shown : FuncData
  f_law_words : Addr
  d_law_words : FuncData
  f_law_rows : Addr
  d_law_rows : FuncData
  f_law : Addr
  d_law : FuncData
  c_BendError : Addr
  c_NoRatio : Addr
  c_NoText : Addr
  c_NoBox : Addr
  c_NoNet : Addr
  c_Unlike : Addr
  c_NoLine : Addr
  c_Net : Addr
  t_MOST_FIGURES : Tok
  t_FIGURES : Tok
  t_MOST_BENDS : Tok
  t_MOST_UNITS : Tok
  t_MOST_OUTS : Tok
  t_MOST_INS : Tok
structure Txt (K : PySem.W.Frag) (mg : Str → Option Value) (a : Adr) : Prop where
  F_law_cell_at : Fun K "_law_cell_at" "_law_cell_at" wW a.f_law_cell_at a.d_law_cell_at
  m_law_cell_at : mg "_law_cell_at" = some (.ref a.f_law_cell_at)
  b_law_cell_at : Binds K a.d_law_cell_at ["_law_script", "_law_k"] []
  F_law_mixed : Fun K "_law_mixed" "_law_mixed" xZ a.f_law_mixed a.d_law_mixed
  m_law_mixed : mg "_law_mixed" = some (.ref a.f_law_mixed)
  b_law_mixed : Binds K a.d_law_mixed ["_law_cell", "_law_k"] []
  F_law_wide : Fun K "_law_wide" "_law_wide" Q9 a.f_law_wide a.d_law_wide
  m_law_wide : mg "_law_wide" = some (.ref a.f_law_wide)
  b_law_wide : Binds K a.d_law_wide ["_law_number", "_law_k"] []
  F_law_seeds : Fun K "_law_seeds" "_law_seeds" j6 a.f_law_seeds a.d_law_seeds
  m_law_seeds : mg "_law_seeds" = some (.ref a.f_law_seeds)
  b_law_seeds : Binds K a.d_law_seeds ["_law_script", "_law_start", "_law_many"] []
  F_law_part : Fun K "_law_part" "_law_part" Qq a.f_law_part a.d_law_part
  m_law_part : mg "_law_part" = some (.ref a.f_law_part)
  b_law_part : Binds K a.d_law_part ["_law_top", "_law_bottom"] []
  F_law_taken : Fun K "_law_taken" "_law_taken" v9 a.f_law_taken a.d_law_taken
  m_law_taken : mg "_law_taken" = some (.ref a.f_law_taken)
  b_law_taken : Binds K a.d_law_taken ["_law_number", "_law_great"] []
  F_law_small : Fun K "_law_small" "_law_small" xy a.f_law_small a.d_law_small
  m_law_small : mg "_law_small" = some (.ref a.f_law_small)
  b_law_small : Binds K a.d_law_small ["_law_number", "_law_great"] []
  F_law_unit : Fun K "_law_unit" "_law_unit" jX a.f_law_unit a.d_law_unit
  m_law_unit : mg "_law_unit" = some (.ref a.f_law_unit)
  b_law_unit : Binds K a.d_law_unit ["_law_number", "_law_places", "_law_bent", "_law_great"] []
  F_law_net : Fun K "_law_net" "_law_net" yQ a.f_law_net a.d_law_net
  m_law_net : mg "_law_net" = some (.ref a.f_law_net)
  b_law_net : Binds K a.d_law_net ["_law_script", "_law_start", "_law_most_bends"] []
  F_law_figures : Fun K "_law_figures" "_law_figures" jy a.f_law_figures a.d_law_figures
  m_law_figures : mg "_law_figures" = some (.ref a.f_law_figures)
  b_law_figures : Binds K a.d_law_figures ["_law_word", "_law_most"] []
  F_law_ratio : Fun K "_law_ratio" "_law_ratio" yX a.f_law_ratio a.d_law_ratio
  m_law_ratio : mg "_law_ratio" = some (.ref a.f_law_ratio)
  b_law_ratio : Binds K a.d_law_ratio ["_law_word"] []
  F_law_unit_of : Fun K "_law_unit_of" "_law_unit_of" yW a.f_law_unit_of a.d_law_unit_of
  m_law_unit_of : mg "_law_unit_of" = some (.ref a.f_law_unit_of)
  b_law_unit_of : Binds K a.d_law_unit_of ["_law_words_here"] []
  F_law_read : Fun K "_law_read" "_law_read" jq a.f_law_read a.d_law_read
  m_law_read : mg "_law_read" = some (.ref a.f_law_read)
  b_law_read : Binds K a.d_law_read ["_law_text"] []
  F_told_unit : Fun K "told_unit" "told_unit" xk a.f_told_unit a.d_told_unit
  m_told_unit : mg "told_unit" = some (.ref a.f_told_unit)
  b_told_unit : Binds K a.d_told_unit ["unit"] []
  F_Net_told : Fun K "told" "Net.told" Qx a.f_Net_told a.d_Net_told
  t_Net_told : Meth K a.c_Net "told" a.f_Net_told
  b_Net_told : Binds K a.d_Net_told ["self"] []
  F_law_is_net : Fun K "_law_is_net" "_law_is_net" jK a.f_law_is_net a.d_law_is_net
  m_law_is_net : mg "_law_is_net" = some (.ref a.f_law_is_net)
  b_law_is_net : Binds K a.d_law_is_net ["_law_told"] []
  F_read_whole : Fun K "read_whole" "read_whole" jJ a.f_read_whole a.d_read_whole
  m_read_whole : mg "read_whole" = some (.ref a.f_read_whole)
  b_read_whole : Binds K a.d_read_whole ["text"] []
  F_read_places : Fun K "read_places" "read_places" jw a.f_read_places a.d_read_places
  m_read_places : mg "read_places" = some (.ref a.f_read_places)
  b_read_places : Binds K a.d_read_places ["row", "head"] []
  F_common : Fun K "common" "common" Y7 a.f_common a.d_common
  m_common : mg "common" = some (.ref a.f_common)
  b_common : Binds K a.d_common ["one", "other"] []
  F_is_whole : Fun K "is_whole" "is_whole" Qz a.f_is_whole a.d_is_whole
  m_is_whole : mg "is_whole" = some (.ref a.f_is_whole)
  b_is_whole : Binds K a.d_is_whole ["thing"] []
  F_is_ratio : Fun K "is_ratio" "is_ratio" Qj a.f_is_ratio a.d_is_ratio
  m_is_ratio : mg "is_ratio" = some (.ref a.f_is_ratio)
  b_is_ratio : Binds K a.d_is_ratio ["thing"] []
  F_checked_place : Fun K "checked_place" "checked_place" vV a.f_checked_place a.d_checked_place
  m_checked_place : mg "checked_place" = some (.ref a.f_checked_place)
  b_checked_place : Binds K a.d_checked_place ["place", "end"] []
  F_plain : Fun K "plain" "plain" s_plain a.f_plain a.d_plain
  m_plain : mg "plain" = some (.ref a.f_plain)
  b_plain : Binds K a.d_plain ["one"] []
  F_checked_term : Fun K "checked_term" "checked_term" j7 a.f_checked_term a.d_checked_term
  m_checked_term : mg "checked_term" = some (.ref a.f_checked_term)
  b_checked_term : Binds K a.d_checked_term ["term", "end"] []
  F_checked_sum : Fun K "checked_sum" "checked_sum" yY a.f_checked_sum a.d_checked_sum
  m_checked_sum : mg "checked_sum" = some (.ref a.f_checked_sum)
  b_checked_sum : Binds K a.d_checked_sum ["constant", "terms", "end"] []
  F_checked_unit : Fun K "checked_unit" "checked_unit" yK a.f_checked_unit a.d_checked_unit
  m_checked_unit : mg "checked_unit" = some (.ref a.f_checked_unit)
  b_checked_unit : Binds K a.d_checked_unit ["unit", "end"] []
  F_checked_units : Fun K "checked_units" "checked_units" yy a.f_checked_units a.d_checked_units
  m_checked_units : mg "checked_units" = some (.ref a.f_checked_units)
  b_checked_units : Binds K a.d_checked_units ["units", "many"] []
  F_checked_outs : Fun K "checked_outs" "checked_outs" ww a.f_checked_outs a.d_checked_outs
  m_checked_outs : mg "checked_outs" = some (.ref a.f_checked_outs)
  b_checked_outs : Binds K a.d_checked_outs ["outs", "end"] []
  F_Net_init : Fun K "__init__" "Net.__init__" vQ a.f_Net_init a.d_Net_init
  M_Net : Mk K a.c_Net a.f_Net_init
  b_Net_init : Binds K a.d_Net_init ["self", "many", "units", "outs"] []
  F_read_top : Fun K "read_top" "read_top" Q8 a.f_read_top a.d_read_top
  m_read_top : mg "read_top" = some (.ref a.f_read_top)
  b_read_top : Binds K a.d_read_top ["text"] []
  F_ratio : Fun K "ratio" "ratio" s_ratio a.f_ratio a.d_ratio
  m_ratio : mg "ratio" = some (.ref a.f_ratio)
  b_ratio : Binds K a.d_ratio ["top", "bottom"] []
  F_figures : Fun K "figures" "figures" vK a.f_figures a.d_figures
  m_figures : mg "figures" = some (.ref a.f_figures)
  b_figures : Binds K a.d_figures ["number"] []
  F_shown : Fun K "shown" "shown" Q4 a.f_shown a.d_shown
  m_shown : mg "shown" = some (.ref a.f_shown)
  b_shown : Binds K a.d_shown ["one"] []
  F_read : Fun K "read" "read" xj a.f_read a.d_read
  m_read : mg "read" = some (.ref a.f_read)
  b_read : Binds K a.d_read ["text"] []
  F_read_term : Fun K "read_term" "read_term" xv a.f_read_term a.d_read_term
  m_read_term : mg "read_term" = some (.ref a.f_read_term)
  b_read_term : Binds K a.d_read_term ["word"] []
  F_read_unit : Fun K "read_unit" "read_unit" v8 a.f_read_unit a.d_read_unit
  m_read_unit : mg "read_unit" = some (.ref a.f_read_unit)
  b_read_unit : Binds K a.d_read_unit ["row"] []
  F_read_net : Fun K "read_net" "read_net" jW a.f_read_net a.d_read_net
  m_read_net : mg "read_net" = some (.ref a.f_read_net)
  b_read_net : Binds K a.d_read_net ["text"] []
  F_law_asked : Fun K "_law_asked" "_law_asked" jk a.f_law_asked a.d_law_asked
  m_law_asked : mg "_law_asked" = some (.ref a.f_law_asked)
  b_law_asked : Binds K a.d_law_asked ["_law_text"] []
  F_law_odd : Fun K "_law_odd" "_law_odd" jx a.f_law_odd a.d_law_odd
  m_law_odd : mg "_law_odd" = some (.ref a.f_law_odd)
  b_law_odd : Binds K a.d_law_odd ["_law_number"] []
  F_law_spoilt : Fun K "_law_spoilt" "_law_spoilt" y9 a.f_law_spoilt a.d_law_spoilt
  m_law_spoilt : mg "_law_spoilt" = some (.ref a.f_law_spoilt)
  b_law_spoilt : Binds K a.d_law_spoilt ["_law_text", "_law_number"] []
  F_law_shown : Fun K "_law_shown" "_law_shown" xQ a.f_law_shown a.d_law_shown
  m_law_shown : mg "_law_shown" = some (.ref a.f_law_shown)
  b_law_shown : Binds K a.d_law_shown ["_law_one"] []
  F_law_words : Fun K "_law_words" "_law_words" xw a.f_law_words a.d_law_words
  m_law_words : mg "_law_words" = some (.ref a.f_law_words)
  b_law_words : Binds K a.d_law_words ["_law_unit_here"] []
  F_law_rows : Fun K "_law_rows" "_law_rows" wJ a.f_law_rows a.d_law_rows
  m_law_rows : mg "_law_rows" = some (.ref a.f_law_rows)
  b_law_rows : Binds K a.d_law_rows ["_law_told"] []
  F_law : Fun K "law" "law" s_law a.f_law a.d_law
  m_law : mg "law" = some (.ref a.f_law)
  b_law : Binds K a.d_law ["_law_script"] []
  m_len : mg "len" = none
  m_range : mg "range" = none
  m_enumerate : mg "enumerate" = none
  m_abs : mg "abs" = none
  m_divmod : mg "divmod" = none
  m_list : mg "list" = none
  m_min : mg "min" = none
  m_int : mg "int" = none
  m_any : mg "any" = none
  m_isinstance : mg "isinstance" = none
  m_str : mg "str" = none
  m_set : mg "set" = none
  m_all : mg "all" = none
  m_bool : mg "bool" = none
  m_tuple : mg "tuple" = none
  m_reversed : mg "reversed" = none
  m_ValueError : mg "ValueError" = none
  m_BendError : mg "BendError" = some (.ref a.c_BendError)
  m_NoRatio : mg "NoRatio" = some (.ref a.c_NoRatio)
  m_NoText : mg "NoText" = some (.ref a.c_NoText)
  m_NoBox : mg "NoBox" = some (.ref a.c_NoBox)
  m_NoNet : mg "NoNet" = some (.ref a.c_NoNet)
  m_Unlike : mg "Unlike" = some (.ref a.c_Unlike)
  m_NoLine : mg "NoLine" = some (.ref a.c_NoLine)
  x_BendError : PySem.W.excIn K a.c_BendError veB "ValueError.__new__" = true
  x_NoText : PySem.W.excIn K a.c_NoText veB "ValueError.__new__" = true
  u_NoText : PySem.W.mroIn K a.c_NoText (.ref a.c_BendError) = some true
  e_NoText : ExcCls K a.c_NoText
  k_ValueError : PySem.W.kitOne K (.ref a.c_NoText) (.type "ValueError") = some true
  k_NoRatio : PySem.W.kitOne K (.ref a.c_NoText) (.ref a.c_NoRatio) = some false
  k_NoText : PySem.W.kitOne K (.ref a.c_NoText) (.ref a.c_NoText) = some true
  k_NoBox : PySem.W.kitOne K (.ref a.c_NoText) (.ref a.c_NoBox) = some false
  k_NoNet : PySem.W.kitOne K (.ref a.c_NoText) (.ref a.c_NoNet) = some false
  k_Unlike : PySem.W.kitOne K (.ref a.c_NoText) (.ref a.c_Unlike) = some false
  k_NoLine : PySem.W.kitOne K (.ref a.c_NoText) (.ref a.c_NoLine) = some false
  x_NoNet : PySem.W.excIn K a.c_NoNet veB "ValueError.__new__" = true
  u_NoNet : PySem.W.mroIn K a.c_NoNet (.ref a.c_BendError) = some true
  e_NoNet : ExcCls K a.c_NoNet
  k_NoNet_ValueError : PySem.W.kitOne K (.ref a.c_NoNet) (.type "ValueError") = some true
  k_NoNet_NoRatio : PySem.W.kitOne K (.ref a.c_NoNet) (.ref a.c_NoRatio) = some false
  k_NoNet_NoText : PySem.W.kitOne K (.ref a.c_NoNet) (.ref a.c_NoText) = some false
  k_NoNet_NoBox : PySem.W.kitOne K (.ref a.c_NoNet) (.ref a.c_NoBox) = some false
  k_NoNet_NoNet : PySem.W.kitOne K (.ref a.c_NoNet) (.ref a.c_NoNet) = some true
  k_NoNet_Unlike : PySem.W.kitOne K (.ref a.c_NoNet) (.ref a.c_Unlike) = some false
  k_NoNet_NoLine : PySem.W.kitOne K (.ref a.c_NoNet) (.ref a.c_NoLine) = some false
  C_Net : Cls K a.c_Net
  m_Net : mg "Net" = some (.ref a.c_Net)
  n_Net_many : J0 K a.c_Net "many"
  n_Net_units : J0 K a.c_Net "units"
  n_Net_outs : J0 K a.c_Net "outs"
  m_MOST_FIGURES : mg "MOST_FIGURES" = some (.int 60 a.t_MOST_FIGURES)
  m_FIGURES : mg "FIGURES" = some (.str "0123456789" a.t_FIGURES)
  m_MOST_BENDS : mg "MOST_BENDS" = some (.int 20 a.t_MOST_BENDS)
  m_MOST_UNITS : mg "MOST_UNITS" = some (.int 80 a.t_MOST_UNITS)
  m_MOST_OUTS : mg "MOST_OUTS" = some (.int 12 a.t_MOST_OUTS)
  m_MOST_INS : mg "MOST_INS" = some (.int 6 a.t_MOST_INS)
section
variable {P : Program} {w : World} {K : PySem.W.Frag} {mg : Str → Option Value} {base : Heap} {a : Adr}
def spGcd : Sp := fun vs H Q _ => ∃ x y : Int, vs = [.int x, .int y] ∧ 0 ≤ x ∧ 0 ≤ y ∧ Q (.int (Int.gcd x y : Nat)) H
theorem ok_common (T : Txt K mg a) : FnOk P w K mg base CX0 1 a.f_common a.d_common ["one", "other"] spGcd := by
  refine T.F_common.ok sc_common (fun vs H Q E h => ?_) (fun cdv A outer s H vs Q E hr h => ?_)
  · obtain ⟨x, y, rfl, _⟩ := h
    rfl
  obtain ⟨x0, y0, rfl, h1, h2, q⟩ := h
  refine ⟨_, (qZ (ps_while PassesOwn.never (qK op_ne (pv 1) qw (qY _))
        (qZ (zj (i := 2) sc_common.nd rfl (Or.inl rfl) (pe_op vv (pv 0) (pv 1)))
      (qZ (zj (i := 0) sc_common.nd rfl (Or.inl rfl) (pv 1))
      (qJ (zj (i := 1) sc_common.nd rfl (Or.inl rfl) (pv 2))))))
      (qJ (zw (pv 0)))), ?_⟩
  refine while_by (fun σ H' => H' = H ∧ ∃ (x y : Int) (r : Option V), σ = [some (.int x), some (.int y), r] ∧ 0 ≤ x ∧ 0 ≤ y ∧ Int.gcd x y = Int.gcd x0 y0)
    (fun σ _ => match σ with | [_, some (.int y), _] => y.toNat | _ => 0) ⟨rfl, x0, y0, none, rfl, h1, h2, rfl⟩ ?_ ?_
  · rintro σ H' ⟨rfl, x, y, r, rfl, hx, hy, hg⟩
    refine ⟨_, rfl, rfl, _, rfl, ?_⟩
    by_cases e : y = 0
    · subst e
      refine iteNS rfl ?_
      refine ⟨_, rfl, ?_⟩
      rw [← hg, gcd_end hx] at q
      exact q
    · refine iteNP (fun z => e (V.int.inj z)) ?_
      refine ⟨_, rfl, _, rfl, _, _, rfl, rfl, (by omega : (0 : Int) < y), _, rfl, _, rfl, ?_⟩
      refine ⟨⟨rfl, y, x % y, _, rfl, hy, Int.emod_nonneg _ e, gcd_step.trans hg⟩, ?_⟩
      have := Int.emod_lt_of_pos x (show 0 < y by omega)
      show (x % y).toNat < y.toNat
      have := Int.emod_nonneg x e
      omega
  · rintro σ H' Q1 Q2 hq ⟨v, e, hs, k, ek, q1⟩
    exact ⟨v, e, hs, k, ek, hq _ _ q1⟩
theorem cdivB {n : Nat} {t j : Int} (h0 : j ≠ 0) (h : Sm n j) (hn : n ≤ 8999 := by decide) : CDivB t j := ⟨h0, Nat.lt_of_lt_of_le ((h.mono hn).log2 (by decide)) (by decide)⟩
theorem divB {t b : Int} (hb : b ≠ 0) (h : Sm 8000 b) : CDivB t (sg t b) := cdivB (sg_ne hb) (h.le (by
  rw [sg_abs]
  exact Nat.le_of_dvd (by omega) (Int.natAbs_dvd_natAbs.mpr (Int.gcd_dvd_right t b))))
abbrev TQ (q : Rat) : List V := T2 q.num q.den
def IsQ (K : PySem.W.Frag) (H : Hp) (v : V) (q : Rat) : Prop := ∃ p, v = .ref p ∧ SqT K H p (TQ q)
theorem zZ {α : Type} {xs : List α} {i : Nat} {x : α} (h : xs[i]? = some x) : xs.take (i + 1) = xs.take i ++ [x] := by
  rw [List.take_succ, h]; rfl
theorem two_alike {K : PySem.W.Frag} {H : Hp} {n : Nat} {v w : V} {q : Rat} (h : IsQ K H v q) (k : IsQ K H w q) : DEq K H (n + 1) v w := by
  obtain ⟨p, rfl, hp⟩ := h
  obtain ⟨r, rfl, hr⟩ := k
  refine .tup hp hr rfl fun j x y e1 e2 => ?_
  rw [e1] at e2
  have e : x = y := Option.some.inj e2
  subst e
  match j, e1 with
  | 0, e1 => have e : V.int q.num = x := Option.some.inj e1; subst e; exact .flat rfl
  | 1, e1 => have e : V.int (q.den : Int) = x := Option.some.inj e1; subst e; exact .flat rfl
  | j + 2, e1 => exact absurd e1 (by simp)
theorem _root_.L2.Same.laid {H H' : Hp} {p : Addr} (g : Same H H') (hn : H p = none) (o : HO) : Same H (upd H' p o) := fun b u q => by
  rw [zK (zk q hn)]
  exact g _ _ q
theorem wQ {H H' : Hp} {p : Addr} (g : Same H H') (h : H' p = none) : H p = none := by
  cases e : H p with
  | none => rfl
  | some o => rw [g _ _ e] at h; cases h
theorem at0 {x : V} {r : List V} : atI (x :: r) 0 = some x := by
  unfold atI ixN
  rw [if_pos (Int.le_refl _), if_pos (by rw [List.length_cons]; omega)]
  rfl
theorem atN {vs : List V} {n : Nat} {x : V} (h : vs[n]? = some x) : atI vs (n : Int) = some x := by
  have hn := (List.getElem?_eq_some_iff.mp h).1
  unfold atI ixN
  rw [if_pos (by omega), if_pos (by omega)]
  show vs[((n : Int)).toNat]? = some x
  rw [Int.toNat_natCast]
  exact h
theorem kQ {α β : Type} {F : α → β → Prop} : ∀ {vs : List α} {qs : List β} {i : Nat} {v : α}, Paired F vs qs → vs[i]? = some v → ∃ q, qs[i]? = some q ∧ F v q
  | _, _, _, _, .nil, e => by simp at e
  | v0 :: _, q0 :: _, 0, v, .cons h _, e => by
    have e' : v0 = v := by simpa using e
    subst e'
    exact ⟨_, rfl, h⟩
  | _ :: _, _ :: _, i + 1, v, .cons _ t, e => by
    obtain ⟨q, h1, h2⟩ := kQ (i := i) (v := v) t (by simpa using e)
    exact ⟨q, by simpa using h1, h2⟩
theorem nil_get {α : Type} {j : Nat} {x : α} {p : Prop} (h : ([] : List α)[j]? = some x) : p := by simp at h
theorem paired_take {α β : Type} {F : α → β → Prop} : ∀ {vs : List α} {qs : List β} (n : Nat), Paired F vs qs → Paired F (vs.take n) (qs.take n)
  | _, _, 0, _ => by rw [List.take_zero, List.take_zero]; exact .nil
  | _, _, _ + 1, .nil => .nil
  | _, _, n + 1, .cons h t => .cons h (paired_take n t)
def Wh (K : PySem.W.Frag) (H : Hp) (x : V) (b : Bool) : Prop := (IsI K H x "int" false ∧ b = false) ∨ (IsI K H x "int" true ∧ IsI K H x "bool" (!b))
theorem Wh.int {K : PySem.W.Frag} {H : Hp} (i : Int) : Wh K H (.int i) true := .inr ⟨.intInt i, .intBool i⟩
theorem _root_.L2.IsI.mono {K : PySem.W.Frag} {H H' : Hp} {x : V} {t : String} {b : Bool} (g : Same H H') (h : IsI K H x t b) : IsI K H' x t b := by
  cases h with
  | intInt i => exact .intInt i
  | intBool i => exact .intBool i
  | blInt i => exact .blInt i
  | blBool i => exact .blBool i
  | nonInt => exact .nonInt
  | strInt i => exact .strInt i
  | strStr i => exact .strStr i
  | tupTup h => exact .tupTup (g.tup h)
  | tupInt h => exact .tupInt (g.tup h)
  | lstList h => exact .lstList (g.seq h)
  | lstInt h => exact .lstInt (g.seq h)
  | dictInt h => exact .dictInt (g _ _ h)
theorem Wh.mono {K : PySem.W.Frag} {H H' : Hp} {x : V} {b : Bool} (g : Same H H') (h : Wh K H x b) : Wh K H' x b := h.imp (fun z => ⟨z.1.mono g, z.2⟩) fun z => ⟨z.1.mono g, z.2.mono g⟩
def spWholeA (K : PySem.W.Frag) : Sp := fun vs H Q _ => ∃ x b, vs = [x] ∧ Wh K H x b ∧ Q (.bl b) H
theorem xJ (T : Txt K mg a) : FnOk P w K mg base CX0 1 a.f_is_whole a.d_is_whole ["thing"] (spWholeA K) := by
  refine T.F_is_whole.ok sc_is_whole (fun vs H Q E h => ?_) (fun cdv A outer s H vs Q E hr h => ?_)
  · obtain ⟨x, b, rfl, _⟩ := h
    rfl
  obtain ⟨x, b, rfl, h, q⟩ := h
  refine ⟨_, (qJ (zw (pe_and (qX (call_isi) rfl T.m_isinstance boot_isinstance (pa_c (pv 0) (pa_c (x4 (v := .ty "int") rfl T.m_int boot_int rfl) qj)) (he := qq rfl _ _) (hpl := qy rfl)) (pe_one (pe_not (qX (call_isi) rfl T.m_isinstance boot_isinstance (pa_c (pv 0) (pa_c (x4 (v := .ty "bool") rfl T.m_bool boot_bool rfl) qj)) (he := qq rfl _ _) (hpl := qy rfl))))))), ?_⟩
  rcases h with ⟨h1, rfl⟩ | ⟨h1, h2⟩
  · exact ⟨_, rfl, _, _, _, rfl, h1, _, rfl, iteF q⟩
  · refine ⟨_, rfl, _, _, _, rfl, h1, _, rfl, iteT ⟨_, rfl, _, _, _, rfl, h2, _, rfl, ?_⟩⟩
    rw [Bool.not_not]
    exact q
theorem _root_.L2.IsL.mono {K : PySem.W.Frag} {H H' : Hp} {x : V} {t : String} {b : Bool} (g : Same H H') (h : IsL K H x t b) : IsL K H' x t b := by
  cases h with
  | old h => exact .old (h.mono g)
  | lstTup h => exact .lstTup (g.seq h)
  | tupList h => exact .tupList (g.tup h)
  | intList i => exact .intList i
  | intTup i => exact .intTup i
theorem _root_.L2.IsA.mono {K : PySem.W.Frag} {H H' : Hp} {x : V} {t : String} {b : Bool} (g : Same H H') (h : IsA K H x t b) : IsA K H' x t b := by
  cases h with
  | old h => exact .old (h.mono g)
  | blTup b => exact .blTup b
  | blList b => exact .blList b
  | nonTup => exact .nonTup
  | nonList => exact .nonList
  | strTup z => exact .strTup z
  | strList z => exact .strList z
  | dictTup h => exact .dictTup (g _ _ h)
  | dictList h => exact .dictList (g _ _ h)
inductive NR (K : PySem.W.Frag) (H : Hp) : V → Prop where
  | no {x : V} (h : IsA K H x "tuple" false) : NR K H x
  | len {p : Addr} {xs : List V} (h : SqT K H p xs) (n : xs.length ≠ 2) : NR K H (.ref p)
  | fst {p : Addr} {u v : V} (h : SqT K H p [u, v]) (k : Wh K H u false) : NR K H (.ref p)
  | snd {p : Addr} {u v : V} (h : SqT K H p [u, v]) (k : Wh K H u true) (k2 : Wh K H v false) : NR K H (.ref p)
  | low {p : Addr} {x y : Int} (h : SqT K H p (T2 x y)) (k : y < 1) : NR K H (.ref p)
  | part {p : Addr} {x y : Int} (h : SqT K H p (T2 x y)) (k : 1 ≤ y) (g : Int.gcd x y ≠ 1) : NR K H (.ref p)
theorem NR.mono {K : PySem.W.Frag} {H H' : Hp} {x : V} (h : NR K H x) (g : Same H H') : NR K H' x := by
  cases h with
  | no h => exact .no (h.mono g)
  | len h n => exact .len (g.tup h) n
  | fst h k => exact .fst (g.tup h) (k.mono g)
  | snd h k k2 => exact .snd (g.tup h) (k.mono g) (k2.mono g)
  | low h k => exact .low (g.tup h) k
  | part h k z => exact .part (g.tup h) k z
def spIsA (K : PySem.W.Frag) : Sp := fun vs H Q _ => ∃ x, vs = [x] ∧ ((NR K H x ∧ Q (.bl false) H) ∨ ∃ (p : Addr) (q : Rat), x = .ref p ∧ SqT K H p (TQ q) ∧ Q (.bl true) H)
theorem ok_is_ratio (T : Txt K mg a) : FnOk P w K mg base CX0 2 a.f_is_ratio a.d_is_ratio ["thing"] (spIsA K) := by
  refine T.F_is_ratio.ok sc_is_ratio (fun vs H Q E h => ?_) (fun cdv A outer s H vs Q E hr h => ?_)
  · obtain ⟨_, rfl, _⟩ := h
    rfl
  obtain ⟨x, rfl, h⟩ := h
  refine ⟨_, (qZ (ps_if (PW.pt (pw_or (vx (jz (qX (call_isa) rfl T.m_isinstance boot_isinstance (pa_c (pv 0) (pa_c (x4 (v := .ty "tuple") rfl T.m_tuple boot_tuple rfl) qj)) (he := qq rfl _ _) (hpl := qy rfl)))) (wX (qK op_ne (qX (zx) rfl T.m_len boot_len (pa_c (pv 0) qj) (he := qq rfl _ _) (hpl := qy rfl)) qw (qY _)))))
        (qJ (zw pe_bl))
        zv)
      (qZ (ps_if (PW.pt (pw_or (vx (jz (qW (xJ T) (hr.mono (by decide)) rfl T.m_is_whole T.F_is_whole.kp T.b_is_whole .nil pass0 (pa_c (pe_ix yz (pv 0) qw (fun _ _ => rfl)) qj) (he := qq rfl _ _) (hpl := qy rfl)))) (pw_or (vx (jz (qW (xJ T) (hr.mono (by decide)) rfl T.m_is_whole T.F_is_whole.kp T.b_is_whole .nil pass0 (pa_c (pe_ix yz (pv 0) qw (fun _ _ => rfl)) qj) (he := qq rfl _ _) (hpl := qy rfl)))) (wX (qK op_lt (pe_ix yz (pv 0) qw (fun _ _ => rfl)) qw (qY _))))))
        (qJ (zw pe_bl))
        zv)
      (qJ (zw (kv op_eq (qW (ok_common T) (hr.mono (by decide)) rfl T.m_common T.F_common.kp T.b_common .nil pass0 (pa_c (qX (Yq) rfl T.m_abs boot_abs (pa_c (pe_ix yz (pv 0) qw (fun _ _ => rfl)) qj) (he := qq rfl _ _) (hpl := qy rfl)) (pa_c (pe_ix yz (pv 0) qw (fun _ _ => rfl)) qj)) (he := qq rfl _ _) (hpl := qy rfl)) qw (qY _)))))), ?_⟩
  have tup : ∀ {p : Addr} {xs : List V}, SqT K H p xs → IsA K H (.ref p) "tuple" true := fun h => .old (.old (.tupTup h))
  rcases h with ⟨nr, q⟩ | ⟨p, z, rfl, hp, q⟩
  · cases nr with
    | no h => exact ⟨_, rfl, _, _, _, rfl, h, _, rfl, iteT q⟩
    | @len p xs h n =>
      refine ⟨_, rfl, _, _, _, rfl, tup h, _, rfl, iteF ⟨_, rfl, _, _, rfl, .inr h, rfl, _, rfl, iteNP (fun z => n (by have := V.int.inj z; omega)) q⟩⟩
    | fst h k =>
      refine ⟨_, rfl, _, _, _, rfl, tup h, _, rfl, iteF ⟨_, rfl, _, _, rfl, .inr h, rfl, _, rfl, iteF ?_⟩⟩
      refine ⟨_, rfl, _, _, _, _, rfl, rfl, h, rfl, _, _, rfl, k, _, rfl, iteT q⟩
    | snd h k k2 =>
      refine ⟨_, rfl, _, _, _, rfl, tup h, _, rfl, iteF ⟨_, rfl, _, _, rfl, .inr h, rfl, _, rfl, iteF ?_⟩⟩
      refine ⟨_, rfl, _, _, _, _, rfl, rfl, h, rfl, _, _, rfl, k, _, rfl, iteF ⟨_, rfl, _, _, _, _, rfl, rfl, h, rfl, _, _, rfl, k2, _, rfl, iteT q⟩⟩
    | low h k =>
      refine ⟨_, rfl, _, _, _, rfl, tup h, _, rfl, iteF ⟨_, rfl, _, _, rfl, .inr h, rfl, _, rfl, iteF ?_⟩⟩
      refine ⟨_, rfl, _, _, _, _, rfl, rfl, h, rfl, _, _, rfl, .int _, _, rfl, iteF ⟨_, rfl, _, _, _, _, rfl, rfl, h, rfl, _, _, rfl, .int _, _, rfl, iteF ⟨_, rfl, _, _, _, _, rfl, rfl, h, rfl, _, _, rfl, rfl, _, rfl, iteP k q⟩⟩⟩
    | @part p x y h k g =>
      refine ⟨_, rfl, _, _, _, rfl, tup h, _, rfl, iteF ⟨_, rfl, _, _, rfl, .inr h, rfl, _, rfl, iteF ?_⟩⟩
      refine ⟨_, rfl, _, _, _, _, rfl, rfl, h, rfl, _, _, rfl, .int _, _, rfl, iteF ⟨_, rfl, _, _, _, _, rfl, rfl, h, rfl, _, _, rfl, .int _, _, rfl, iteF ⟨_, rfl, _, _, _, _, rfl, rfl, h, rfl, _, _, rfl, rfl, _, rfl, iteN (by omega) ?_⟩⟩⟩
      refine ⟨_, rfl, _, _, _, _, rfl, rfl, h, rfl, _, rfl, _, rfl, _, _, _, _, rfl, rfl, h, rfl, _, _, rfl, abs_nn _, by omega, rfl, ?_⟩
      dsimp only
      have e : decide (V.int ((Int.gcd (if x < 0 then -x else x) y : Nat) : Int) = V.int 1) = false := decide_eq_false fun z => g (by
        have z := V.int.inj z
        have e2 : Int.gcd (if x < 0 then -x else x) y = Int.gcd x y := by split <;> simp [Int.neg_gcd]
        rw [e2] at z
        omega)
      rw [e]
      exact q
  · have R := isR_rat z
    have hy := R.pos
    refine ⟨_, rfl, _, _, _, rfl, tup hp, _, rfl, iteF ⟨_, rfl, _, _, rfl, .inr hp, rfl, _, rfl, iteF ?_⟩⟩
    refine ⟨_, rfl, _, _, _, _, rfl, rfl, hp, rfl, _, _, rfl, .int _, _, rfl, iteF ⟨_, rfl, _, _, _, _, rfl, rfl, hp, rfl, _, _, rfl, .int _, _, rfl, iteF ⟨_, rfl, _, _, _, _, rfl, rfl, hp, rfl, _, _, rfl, rfl, _, rfl, iteN (by omega) ?_⟩⟩⟩
    refine ⟨_, rfl, _, _, _, _, rfl, rfl, hp, rfl, _, rfl, _, rfl, _, _, _, _, rfl, rfl, hp, rfl, _, _, rfl, abs_nn _, by omega, rfl, ?_⟩
    dsimp only
    have e : Int.gcd (if z.num < 0 then -z.num else z.num) (z.den : Int) = 1 := by
      have g := R.low
      split <;> simp [Int.neg_gcd, g]
    rw [e]
    exact q
def spPlain (K : PySem.W.Frag) : Sp := fun vs H Q _ => ∃ (p : Addr) (x : Rat), vs = [.ref p] ∧ SqT K H p (TQ x) ∧ RetT H Q (TQ x)
theorem ok_plain (T : Txt K mg a) : FnOk P w K mg base CX0 1 a.f_plain a.d_plain ["one"] (spPlain K) := by
  refine T.F_plain.ok sc_plain (fun vs H Q E h => ?_) (fun cdv A outer s H vs Q E hr h => ?_)
  · obtain ⟨_, _, rfl, _⟩ := h
    rfl
  obtain ⟨p, x, rfl, hp, q⟩ := h
  refine ⟨_, (qJ (zw (vq (pa_c (y8 (xW) rfl T.m_int boot_int (pa_c (pe_ix yz (pv 0) qw (fun _ _ => rfl)) qj) (he := qq rfl _ _) (hpl := qy rfl)) (pa_c (y8 (xW) rfl T.m_int boot_int (pa_c (pe_ix yz (pv 0) qw (fun _ _ => rfl)) qj) (he := qq rfl _ _) (hpl := qy rfl)) qj))))), ?_⟩
  exact ⟨_, rfl, _, _, _, _, rfl, rfl, hp, rfl, .inl ⟨_, rfl, _, rfl, _, _, _, _, rfl, rfl, hp, rfl, .inl ⟨_, rfl, j0, fun p' hp' => q.new hp'⟩⟩⟩
theorem SqT.upd_lst {K : PySem.W.Frag} {H : Hp} {b t : Addr} {xs ys : List V} {o : HO} (h : SqT K H b xs) (e : H t = some (.lst ys)) : SqT K (upd H t o) b xs := by
  rcases h with (h | ⟨u, h⟩) | h
  · exact .inl (.inl (by rw [zK (ne_of h e (by intro z; cases z))]; exact h))
  · exact .inl (.inr ⟨u, by rw [zK (ne_of h e (by intro z; cases z))]; exact h⟩)
  · exact .inr h
theorem SqT.upd_ins {K : PySem.W.Frag} {H : Hp} {b t C dx : Addr} {xs : List V} {fs : List (Str × V)} {o : HO} (h : SqT K H b xs) (e : H t = some (.ins C dx fs)) : SqT K (upd H t o) b xs := by
  rcases h with (h | ⟨u, h⟩) | h
  · exact .inl (.inl (by rw [zK (ne_of h e (by intro z; cases z))]; exact h))
  · exact .inl (.inr ⟨u, by rw [zK (ne_of h e (by intro z; cases z))]; exact h⟩)
  · exact .inr h
inductive Un where
  | sum (c : Rat) (ts : List (Nat × Rat))
  | bend (p : Nat)
def Zz (K : PySem.W.Frag) (H : Hp) (v : V) (x : Nat × Rat) : Prop := ∃ t r, v = .ref t ∧ SqT K H t [.int (x.1 : Int), .ref r] ∧ SqT K H r (TQ x.2)
theorem Zz.mono {K : PySem.W.Frag} {H H' : Hp} {v : V} {x : Nat × Rat} (h : Zz K H v x) (g : Same H H') : Zz K H' v x := by
  obtain ⟨t, r, e, h1, h2⟩ := h
  exact ⟨t, r, e, g.tup h1, g.tup h2⟩
def TL (K : PySem.W.Frag) (H : Hp) (vs : List V) (ts : List (Nat × Rat)) : Prop := Paired (Zz K H) vs ts
theorem TL.mono {K : PySem.W.Frag} {H H' : Hp} {vs : List V} {ts : List (Nat × Rat)} (h : TL K H vs ts) (g : Same H H') : TL K H' vs ts := Paired.mapP h fun _ _ q => q.mono g
theorem TL.length {K : PySem.W.Frag} {H : Hp} {vs : List V} {ts : List (Nat × Rat)} (h : TL K H vs ts) : vs.length = ts.length := Paired.length h
theorem TL.get {K : PySem.W.Frag} {H : Hp} {vs : List V} {ts : List (Nat × Rat)} {i : Nat} {v : V} (h : TL K H vs ts) (e : vs[i]? = some v) : ∃ t, ts[i]? = some t ∧ Zz K H v t := kQ h e
def UnAt (b : Bool) (K : PySem.W.Frag) (H : Hp) (v : V) : Un → Prop
  | .sum c ts => ∃ t pc pt vs, v = .ref t ∧ SqT K H t [.str "sum", .ref pc, .ref pt] ∧ SqT K H pc (TQ c) ∧ (if b then SqT K H pt vs else SqL K H pt vs) ∧ TL K H vs ts
  | .bend p => ∃ t, v = .ref t ∧ SqT K H t [.str "bend", .int (p : Int)]
theorem UnAt.mono {b : Bool} {K : PySem.W.Frag} {H H' : Hp} {v : V} {u : Un} (h : UnAt b K H v u) (g : Same H H') : UnAt b K H' v u := by
  cases u with
  | sum c ts =>
    obtain ⟨t, pc, pt, vs, e, h1, h2, h3, h4⟩ := h
    refine ⟨t, pc, pt, vs, e, g.tup h1, g.tup h2, ?_, h4.mono g⟩
    cases b with
    | true => exact g.tup h3
    | false => exact g.seq h3
  | bend p =>
    obtain ⟨t, e, h1⟩ := h
    exact ⟨t, e, g.tup h1⟩
def UL (b : Bool) (K : PySem.W.Frag) (H : Hp) (vs : List V) (us : List Un) : Prop := Paired (UnAt b K H) vs us
theorem UL.mono {b : Bool} {K : PySem.W.Frag} {H H' : Hp} {vs : List V} {us : List Un} (h : UL b K H vs us) (g : Same H H') : UL b K H' vs us := Paired.mapP h fun _ _ q => q.mono g
theorem UL.length {b : Bool} {K : PySem.W.Frag} {H : Hp} {vs : List V} {us : List Un} (h : UL b K H vs us) : vs.length = us.length := Paired.length h
theorem UL.get {b : Bool} {K : PySem.W.Frag} {H : Hp} {vs : List V} {us : List Un} {i : Nat} {v : V} (h : UL b K H vs us) (e : vs[i]? = some v) : ∃ u, us[i]? = some u ∧ UnAt b K H v u := kQ h e
theorem UL.snoc {b : Bool} {K : PySem.W.Frag} {H : Hp} {vs : List V} {us : List Un} {v : V} {u : Un} (h : UL b K H vs us) (k : UnAt b K H v u) : UL b K H (vs ++ [v]) (us ++ [u]) := Paired.snoc h k
def UnF (lf : Addr) (K : PySem.W.Frag) (H : Hp) (v : V) : Un → Prop
  | .sum c ts => ∃ t pc pt vs, v = .ref t ∧ SqT K H t [.str "sum", .ref pc, .ref pt] ∧ SqT K H pc (TQ c) ∧ H pt = some (.lst vs) ∧ pt ≠ lf ∧ TL K H vs ts
  | .bend p => ∃ t, v = .ref t ∧ SqT K H t [.str "bend", .int (p : Int)]
theorem UnF.mono {lf : Addr} {K : PySem.W.Frag} {H H' : Hp} {v : V} {u : Un} (h : UnF lf K H v u) (g : Same H H') : UnF lf K H' v u := by
  cases u with
  | sum c ts =>
    obtain ⟨t, pc, pt, vs, e, h1, h2, h3, n, h4⟩ := h
    exact ⟨t, pc, pt, vs, e, g.tup h1, g.tup h2, g _ _ h3, n, h4.mono g⟩
  | bend p =>
    obtain ⟨t, e, h1⟩ := h
    exact ⟨t, e, g.tup h1⟩
theorem UnF.un {lf : Addr} {K : PySem.W.Frag} {H : Hp} {v : V} {u : Un} (h : UnF lf K H v u) : UnAt false K H v u := by
  cases u with
  | sum c ts =>
    obtain ⟨t, pc, pt, vs, e, h1, h2, h3, n, h4⟩ := h
    exact ⟨t, pc, pt, vs, e, h1, h2, SqL.of h3, h4⟩
  | bend p => exact h
theorem UnF.upd {lf : Addr} {K : PySem.W.Frag} {H : Hp} {v : V} {u : Un} {ys : List V} {o : HO} (h : UnF lf K H v u) (e : H lf = some (.lst ys)) : UnF lf K (upd H lf o) v u := by
  cases u with
  | sum c ts =>
    obtain ⟨t, pc, pt, vs, e0, h1, h2, h3, n, h4⟩ := h
    exact ⟨t, pc, pt, vs, e0, SqT.upd_lst h1 e, SqT.upd_lst h2 e, by rw [zK n]; exact h3, n, Paired.mapP h4 fun _ _ ⟨t, r, e1, k1, k2⟩ => ⟨t, r, e1, SqT.upd_lst k1 e, SqT.upd_lst k2 e⟩⟩
  | bend p =>
    obtain ⟨t, e0, h1⟩ := h
    exact ⟨t, e0, SqT.upd_lst h1 e⟩
def UF (lf : Addr) (K : PySem.W.Frag) (H : Hp) (vs : List V) (us : List Un) : Prop := Paired (UnF lf K H) vs us
theorem UF.mono {lf : Addr} {K : PySem.W.Frag} {H H' : Hp} {vs : List V} {us : List Un} (h : UF lf K H vs us) (g : Same H H') : UF lf K H' vs us := Paired.mapP h fun _ _ q => q.mono g
theorem UF.un {lf : Addr} {K : PySem.W.Frag} {H : Hp} {vs : List V} {us : List Un} (h : UF lf K H vs us) : UL false K H vs us := Paired.mapP h fun _ _ q => q.un
theorem UF.upd {lf : Addr} {K : PySem.W.Frag} {H : Hp} {vs : List V} {us : List Un} {ys : List V} {o : HO} (h : UF lf K H vs us) (e : H lf = some (.lst ys)) : UF lf K (upd H lf o) vs us := Paired.mapP h fun _ _ q => q.upd e
theorem UF.length {lf : Addr} {K : PySem.W.Frag} {H : Hp} {vs : List V} {us : List Un} (h : UF lf K H vs us) : vs.length = us.length := Paired.length h
theorem UF.snoc {lf : Addr} {K : PySem.W.Frag} {H : Hp} {vs : List V} {us : List Un} {v : V} {u : Un} (h : UF lf K H vs us) (k : UnF lf K H v u) : UF lf K H (vs ++ [v]) (us ++ [u]) := Paired.snoc h k
def UnN (H0 : Hp) (K : PySem.W.Frag) (H : Hp) (v : V) (u : Un) : Prop := ∀ lf o, H0 lf = some o → UnF lf K H v u
def WfU (e : Nat) : Un → Prop
  | .sum _ ts => (∀ x ∈ ts, x.1 < e) ∧ (ts.map (·.1)).Nodup ∧ ts.length ≤ 100
  | .bend p => p < e
def isB : Un → Bool
  | .sum _ _ => false
  | .bend _ => true
def WfN (many : Nat) (us : List Un) : Prop := ∀ (k : Nat) (u : Un), us[k]? = some u → WfU (many + k) u
def RetBy (H : Hp) (Q : VK) (P : Hp → V → Prop) : Prop := ∀ p H', Same H H' → P H' (.ref p) → Q (.ref p) H'
theorem _root_.L2.IsS.mono {K : PySem.W.Frag} {H H' : Hp} {x : V} (g : Same H H') (h : IsS K H x) : IsS K H' x := by
  cases h with
  | int i => exact .int i
  | bl b => exact .bl b
  | non => exact .non
  | tup h => exact .tup (g.tup h)
  | lst h => exact .lst (g.seq h)
  | dict h => exact .dict (g _ _ h)
inductive NP (K : PySem.W.Frag) (H : Hp) (e : Nat) : V → Prop where
  | no {x : V} (h : Wh K H x false) : NP K H e x
  | low {i : Int} (h : i < 0) : NP K H e (.int i)
  | high {i : Int} (h : (e : Int) ≤ i) : NP K H e (.int i)
theorem NP.mono {K : PySem.W.Frag} {H H' : Hp} {e : Nat} {x : V} (h : NP K H e x) (g : Same H H') : NP K H' e x := by
  cases h with
  | no h => exact .no (h.mono g)
  | low h => exact .low h
  | high h => exact .high h
def spPlaceE (K : PySem.W.Frag) (C : Addr) : Sp := fun vs H Q E => ∃ (v : V) (e : Nat), vs = [v, .int (e : Int)] ∧ ((∃ p : Nat, v = .int (p : Int) ∧ p < e ∧ Q (.int (p : Int)) H) ∨ (NP K H e v ∧ ∀ H', Same H H' → E (.ref C) none H'))
theorem Qk (T : Txt K mg a) : FnOk P w K mg base (CXE P w) 2 a.f_checked_place a.d_checked_place ["place", "end"] (spPlaceE K a.c_NoNet) := by
  refine T.F_checked_place.okE sc_checked_place (fun vs H Q E h => ?_) (fun cdv A outer s H vs Q E hr h => ?_)
  · obtain ⟨_, _, rfl, _⟩ := h
    rfl
  obtain ⟨v, e, rfl, h⟩ := h
  refine ⟨_, (qZ (ps_if (PW.pt (pw_or (vx (jz (qW (xJ T) (hr.mono (by decide)) rfl T.m_is_whole T.F_is_whole.kp T.b_is_whole .nil pass0 (pa_c (pv 0) qj) (he := qq rfl _ _) (hpl := qy rfl)))) (pw_or (qK op_lt (pv 0) qw (qY _)) (wX (qK op_ge (pv 0) (pv 1) (qY _))))))
        (qJ (j5 rfl rfl rfl rfl rfl T.x_NoNet rfl T.m_NoNet (pa_c qV qj)))
        zv)
      (qJ (zw (y8 (xW) rfl T.m_int boot_int (pa_c (pv 0) qj) (he := qq rfl _ _) (hpl := qy rfl))))), ?_⟩
  rcases h with ⟨p, rfl, lt, q⟩ | ⟨np, qe⟩
  · refine ⟨_, rfl, _, _, rfl, .int _, _, rfl, iteF ⟨_, rfl, _, _, rfl, rfl, _, rfl, iteN (by omega) ⟨_, rfl, _, rfl, _, _, rfl, rfl, _, rfl, iteN (by omega) ?_⟩⟩⟩
    exact ⟨_, rfl, .inl ⟨_, rfl, q⟩⟩
  · have fin := And.intro (show 1 ≤ sizeLine by decide) (qe H (Same.refl _))
    cases np with
    | no h => exact ⟨_, rfl, _, _, rfl, h, _, rfl, iteT fin⟩
    | low h => exact ⟨_, rfl, _, _, rfl, .int _, _, rfl, iteF ⟨_, rfl, _, _, rfl, rfl, _, rfl, iteP h fin⟩⟩
    | high h => exact ⟨_, rfl, _, _, rfl, .int _, _, rfl, iteF ⟨_, rfl, _, _, rfl, rfl, _, rfl, iteN (by omega) ⟨_, rfl, _, rfl, _, _, rfl, rfl, _, rfl, iteP (by omega) fin⟩⟩⟩
inductive NTm (K : PySem.W.Frag) (H : Hp) (e : Nat) : V → Prop where
  | no {x : V} (h : IsA K H x "tuple" false) : NTm K H e x
  | len {p : Addr} {xs : List V} (h : SqT K H p xs) (n : xs.length ≠ 2) : NTm K H e (.ref p)
  | snd {p : Addr} {u v : V} (h : SqT K H p [u, v]) (k : NR K H v) : NTm K H e (.ref p)
  | fst {p r : Addr} {u : V} {q : Rat} (h : SqT K H p [u, .ref r]) (k : SqT K H r (TQ q)) (k2 : NP K H e u) : NTm K H e (.ref p)
theorem NTm.mono {K : PySem.W.Frag} {H H' : Hp} {e : Nat} {x : V} (h : NTm K H e x) (g : Same H H') : NTm K H' e x := by
  cases h with
  | no h => exact .no (h.mono g)
  | len h n => exact .len (g.tup h) n
  | snd h k => exact .snd (g.tup h) (k.mono g)
  | fst h k k2 => exact .fst (g.tup h) (g.tup k) (k2.mono g)
def spTermE (K : PySem.W.Frag) (C : Addr) : Sp := fun vs H Q E => ∃ (v : V) (e : Nat), vs = [v, .int (e : Int)] ∧ ((∃ x : Nat × Rat, Zz K H v x ∧ x.1 < e ∧ RetBy H Q fun H' v => Zz K H' v x) ∨ (NTm K H e v ∧ ∀ H', Same H H' → E (.ref C) none H'))
abbrev QX (P w K mg base) (a : Adr) (cdv A outer s H E) := (cxOf (CXE P w) P w K mg base ["term", "end"] "checked_term" (qQ j7) a.f_checked_term cdv A outer s H E)
theorem ok_checked_term (T : Txt K mg a) : FnOk P w K mg base (CXE P w) 3 a.f_checked_term a.d_checked_term ["term", "end"] (spTermE K a.c_NoNet) := by
  refine T.F_checked_term.okE sc_checked_term (fun vs H Q E h => ?_) (fun cdv A outer s H vs Q E hr h => ?_)
  · obtain ⟨_, _, rfl, _⟩ := h
    rfl
  obtain ⟨v, e, rfl, h⟩ := h
  have h0 : PS (QX P w K mg base a cdv A outer s H E) (bS j7 0) _ := (ps_if (PW.pt (pw_or (vx (jz (qX (Y9) rfl T.m_isinstance boot_isinstance (pa_c (pv 0) (pa_c (x4 (v := .ty "tuple") rfl T.m_tuple boot_tuple rfl) qj)) (he := qq rfl _ _) (hpl := qy rfl)))) (wX (qK op_ne (qX (zx) rfl T.m_len boot_len (pa_c (pv 0) qj) (he := qq rfl _ _) (hpl := qy rfl)) qw (qY _)))))
        (qJ (j5 rfl rfl rfl rfl rfl T.x_NoNet rfl T.m_NoNet (pa_c qV qj)))
        zv)
  have h1 : PS (QX P w K mg base a cdv A outer s H E) (bS j7 1) _ := (ps_if (vx (jz (qW (ok_is_ratio T) (hr.mono (by decide)) rfl T.m_is_ratio T.F_is_ratio.kp T.b_is_ratio .nil pass0 (pa_c (pe_ix yz (pv 0) qw (fun _ _ => rfl)) qj) (he := qq rfl _ _) (hpl := qy rfl))))
        (qJ (j5 rfl rfl rfl rfl rfl T.x_NoNet rfl T.m_NoNet (pa_c qV qj)))
        zv)
  have h2 : PS (QX P w K mg base a cdv A outer s H E) (bS j7 2) _ := (zw (vq (pa_c (qW (Qk T) (hr.mono (by decide)) rfl T.m_checked_place T.F_checked_place.kp T.b_checked_place .nil passE (pa_c (pe_ix yz (pv 0) qw (fun _ _ => rfl)) (pa_c (pv 1) qj)) (he := qq rfl _ _) (hpl := qy rfl)) (pa_c (qW (ok_plain T) (hr.mono (by decide)) rfl T.m_plain T.F_plain.kp T.b_plain .nil pass0 (pa_c (pe_ix yz (pv 0) qw (fun _ _ => rfl)) qj) (he := qq rfl _ _) (hpl := qy rfl)) qj))))
  refine ⟨_, body3 (by rfl) h0 h1 h2, ?_⟩
  clear h0 h1 h2
  have tup : ∀ {p : Addr} {xs : List V}, SqT K H p xs → IsB K H (.ref p) "tuple" true := fun h => .a (.old (.old (.tupTup h)))
  rcases h with ⟨x, ⟨t, r, rfl, ht, hr'⟩, lt, q⟩ | ⟨nt, qe⟩
  · refine ⟨_, rfl, _, _, _, rfl, tup ht, _, rfl, iteF ⟨_, rfl, _, _, rfl, .inr ht, rfl, _, rfl, iteF ?_⟩⟩
    refine ⟨_, rfl, _, _, _, _, rfl, rfl, ht, rfl, _, rfl, .inr ⟨r, _, rfl, hr', _, rfl, iteF ?_⟩⟩
    refine ⟨_, rfl, _, _, _, _, rfl, rfl, ht, rfl, _, rfl, _, e, rfl, .inl ⟨x.1, rfl, lt, _, rfl, _, _, _, _, rfl, rfl, ht, rfl, r, _, rfl, hr', fun p1 H1 g1 e1 => ⟨j0, fun t2 h2 => ?_⟩⟩⟩
    have g2 := qk h2 (.tup [.int (x.1 : Int), .ref p1])
    exact q t2 _ (g1.trans g2) ⟨t2, p1, rfl, SqT.of qz, SqT.of (g2 _ _ e1)⟩
  · have fin := And.intro (show 1 ≤ sizeLine by decide) (qe H (Same.refl _))
    cases nt with
    | no h => exact ⟨_, rfl, _, _, _, rfl, .a h, _, rfl, iteT fin⟩
    | len h n => exact ⟨_, rfl, _, _, _, rfl, tup h, _, rfl, iteF ⟨_, rfl, _, _, rfl, .inr h, rfl, _, rfl, iteNP (fun z => n (by have := V.int.inj z; omega)) fin⟩⟩
    | snd h k =>
      refine ⟨_, rfl, _, _, _, rfl, tup h, _, rfl, iteF ⟨_, rfl, _, _, rfl, .inr h, rfl, _, rfl, iteF ?_⟩⟩
      exact ⟨_, rfl, _, _, _, _, rfl, rfl, h, rfl, _, rfl, .inl ⟨k, _, rfl, iteT fin⟩⟩
    | fst h k k2 =>
      refine ⟨_, rfl, _, _, _, rfl, tup h, _, rfl, iteF ⟨_, rfl, _, _, rfl, .inr h, rfl, _, rfl, iteF ?_⟩⟩
      refine ⟨_, rfl, _, _, _, _, rfl, rfl, h, rfl, _, rfl, .inr ⟨_, _, rfl, k, _, rfl, iteF ?_⟩⟩
      exact ⟨_, rfl, _, _, _, _, rfl, rfl, h, rfl, _, rfl, _, e, rfl, .inr ⟨k2, qe⟩⟩
theorem YZ : ∀ {ns : List Nat}, ((ns.map fun n : Nat => (n : Int)).Nodup ↔ ns.Nodup)
  | [] => by simp
  | n :: ns => by
    rw [List.map_cons, List.nodup_cons, List.nodup_cons, YZ (ns := ns)]
    have : (n : Int) ∈ (ns.map fun n : Nat => (n : Int)) ↔ n ∈ ns := by
      constructor
      · intro z
        obtain ⟨m, hm, e⟩ := List.mem_map.mp z
        have e : m = n := by omega
        exact e ▸ hm
      · intro z
        exact List.mem_map.mpr ⟨n, z, rfl⟩
    rw [this]
inductive NSum (K : PySem.W.Frag) (H : Hp) (e : Nat) : V → V → Prop where
  | con {c t : V} (h : NR K H c) : NSum K H e c t
  | no {pc : Addr} {t : V} {q : Rat} (h : SqT K H pc (TQ q)) (k : IsA K H t "list" false) : NSum K H e (.ref pc) t
  | bad {pc pt : Addr} {q : Rat} {v1 v2 : List V} {u : V} {ts : List (Nat × Rat)} (h : SqT K H pc (TQ q)) (k : SqL K H pt (v1 ++ u :: v2)) (r : TL K H v1 ts) (w : ∀ x ∈ ts, x.1 < e) (n : v1.length + v2.length < 100) (b : NTm K H e u) : NSum K H e (.ref pc) (.ref pt)
theorem NSum.mono {K : PySem.W.Frag} {H H' : Hp} {e : Nat} {x y : V} (h : NSum K H e x y) (g : Same H H') : NSum K H' e x y := by
  cases h with
  | con h => exact .con (h.mono g)
  | no h k => exact .no (g.tup h) (k.mono g)
  | bad h k r w n b => exact .bad (g.tup h) (g.seq k) (r.mono g) w n (b.mono g)
def spSumE (K : PySem.W.Frag) (C : Addr) : Sp := fun vs H Q E => ∃ (c t : V) (e : Nat), vs = [c, t, .int (e : Int)] ∧ ((∃ (pc pt : Addr) (vt : List V) (q : Rat) (ts : List (Nat × Rat)), c = .ref pc ∧ t = .ref pt ∧ SqT K H pc (TQ q) ∧ SqL K H pt vt ∧ TL K H vt ts ∧ (∀ x ∈ ts, x.1 < e) ∧ ts.length ≤ 100 ∧ ((ts.map (·.1)).Nodup → RetBy H Q fun H' v => UnAt true K H' v (.sum q ts)) ∧ (¬ (ts.map (·.1)).Nodup → ∀ H', Same H H' → E (.ref C) none H')) ∨ (NSum K H e c t ∧ ∀ H', Same H H' → E (.ref C) none H'))
abbrev kW (P w K mg base) (a : Adr) (cdv A outer s H E) := (cxOf (CXE P w) P w K mg base ["constant", "terms", "end", "found"] "checked_sum" (qQ yY) a.f_checked_sum cdv A outer s H E)
set_option maxHeartbeats 0 in
theorem ok_checked_sum (T : Txt K mg a) : FnOk P w K mg base (CXE P w) 4 a.f_checked_sum a.d_checked_sum ["constant", "terms", "end"] (spSumE K a.c_NoNet) := by
  refine T.F_checked_sum.okE sc_checked_sum (fun vs H Q E h => ?_) (fun cdv A outer s H vs Q E hr h => ?_)
  · obtain ⟨_, _, _, rfl, _⟩ := h
    rfl
  obtain ⟨cv, tv, e, rfl, h⟩ := h
  have h0 : PS (kW P w K mg base a cdv A outer s H E) (bS yY 0) _ := (ps_if (vx (jz (qW (ok_is_ratio T) (hr.mono (by decide)) rfl T.m_is_ratio T.F_is_ratio.kp T.b_is_ratio .nil pass0 (pa_c (pv 0) qj) (he := qq rfl _ _) (hpl := qy rfl))))
        (qJ (j5 rfl rfl rfl rfl rfl T.x_NoNet rfl T.m_NoNet (pa_c qV qj)))
        zv)
  have h1 : PS (kW P w K mg base a cdv A outer s H E) (bS yY 1) _ := (ps_if (vx (jz (qX (Y9) rfl T.m_isinstance boot_isinstance (pa_c (pv 1) (pa_c (x4 (v := .ty "list") rfl T.m_list boot_list rfl) qj)) (he := qq rfl _ _) (hpl := qy rfl))))
        (qJ (j5 rfl rfl rfl rfl rfl T.x_NoNet rfl T.m_NoNet (pa_c qV qj)))
        zv)
  have h2 : PS (kW P w K mg base a cdv A outer s H E) (bS yY 2) _ := (ps_setCompE (E := E) rfl rfl rfl rfl (i := 3) sc_checked_sum.nd rfl (Or.inl rfl) (N := ["term", "end"]) (ix := [none, some 2]) ⟨rfl, rfl, rfl, rfl, ⟨rfl, trivial⟩, rfl, ⟨⟨rfl, Or.inr (Or.inl rfl), ne_loc rfl, rfl, Or.inl rfl⟩, trivial⟩⟩ rfl (jv (pv 1)) (fun _ => (zq (i := 0) (show (["term", "end"] : List Str).Nodup by decide +kernel) rfl (Or.inl rfl))) (fun _ σ => v7 rfl σ) (fun _ => yV) (fun _ => (qW (ok_checked_term T) (hr.mono (by decide)) rfl T.m_checked_term T.F_checked_term.kp T.b_checked_term .nil passC (pa_c (pv 0) (pa_c (pv 1) qj)) (he := qq rfl _ _) (hpl := qy rfl))))
  have h3 : PS (kW P w K mg base a cdv A outer s H E) (bS yY 3) _ := (ps_if (qK op_ne (qX (call_len_setV) rfl T.m_len boot_len (pa_c (y8 (call_set_all rfl) rfl T.m_set boot_set (pa_c (kj (N := ["place", "share"]) (ix := [none, none]) ⟨rfl, rfl, rfl, rfl, trivial, rfl, trivial⟩ rfl (jv (pv 3)) (fun _ => (wj rfl (zy (zq (i := 0) (show (["place", "share"] : List Str).Nodup by decide +kernel) rfl (Or.inl rfl)) (zy (zq (i := 1) (show (["place", "share"] : List Str).Nodup by decide +kernel) rfl (Or.inl rfl)) v6)))) (fun _ σ => go_two rfl rfl (by decide) σ) (fun _ => yV) (fun _ => (pv 0))) qj) (he := qq rfl _ _) (hpl := qy rfl)) qj) (he := qq rfl _ _) (hpl := qy rfl)) (qX (zx) rfl T.m_len boot_len (pa_c (pv 3) qj) (he := qq rfl _ _) (hpl := qy rfl)) (qY _))
        (qJ (j5 rfl rfl rfl rfl rfl T.x_NoNet rfl T.m_NoNet (pa_c qV qj)))
        zv)
  have h4 : PS (kW P w K mg base a cdv A outer s H E) (bS yY 4) _ := (zw (vq (pa_c qV (pa_c (qW (ok_plain T) (hr.mono (by decide)) rfl T.m_plain T.F_plain.kp T.b_plain .nil pass0 (pa_c (pv 0) qj) (he := qq rfl _ _) (hpl := qy rfl)) (pa_c (y8 (call_tuple_of) rfl T.m_tuple boot_tuple (pa_c (pv 3) qj) (he := qq rfl _ _) (hpl := qy rfl)) qj)))))
  refine ⟨_, body5 (by rfl) h0 h1 h2 h3 h4, ?_⟩
  clear h0 h1 h2 h3 h4
  rcases h with ⟨pc, pt, vt, c, ts, rfl, rfl, hc, ht, rt, wp, l100, q, qe⟩ | ⟨ns, qe⟩
  case inr =>
    have fin := And.intro (show 1 ≤ sizeLine by decide) (qe H (Same.refl _))
    cases ns with
    | con h => exact ⟨_, rfl, _, rfl, .inl ⟨h, _, rfl, iteT fin⟩⟩
    | no h k => exact ⟨_, rfl, _, rfl, .inr ⟨_, _, rfl, h, _, rfl, iteF ⟨_, rfl, _, _, _, rfl, .a k, _, rfl, iteT fin⟩⟩⟩
    | @bad pc pt q v1 v2 u ts h k r w n b =>
      have l1 := r.length
      have ll : (v1 ++ u :: v2).length = v1.length + v2.length + 1 := by rw [List.length_append, List.length_cons]; omega
      refine ⟨_, rfl, _, rfl, .inr ⟨_, _, rfl, h, _, rfl, iteF ⟨_, rfl, _, _, _, rfl, .a (.old (.old (.lstList k))), _, rfl, iteF ?_⟩⟩⟩
      refine ⟨_, rfl, pt, rfl, ⟨_, k⟩, yk (n := ts.length + 1) (fun i ys H' => i ≤ ts.length ∧ Same H H') ⟨Nat.zero_le _, Same.refl _⟩ (zW (by omega)) ?_ ?_ ?_⟩
      · rintro ys H' ⟨le, _⟩
        omega
      · rintro i ys H' hi' ⟨le, g⟩
        exact ⟨_, _, g.seq k, List.getElem?_eq_getElem (by omega)⟩
      · rintro i m' ys H' c y H2 hi' ⟨le, g⟩ ⟨rfl, y1⟩ nx _
        have ey := y1 _ (g.seq k)
        by_cases hi : i < ts.length
        · rw [List.getElem?_append_left (by omega)] at ey
          obtain ⟨x0, ex, hx⟩ := r.get ey
          exact Or.inl ⟨rfl, _, rfl, _, rfl, y, e, rfl, .inl ⟨x0, hx.mono g, w x0 (List.mem_of_getElem? ex), fun p3 H3 g3 e3 => nx _ _ ⟨by omega, g.trans g3⟩⟩⟩
        · have ei : i = v1.length := by omega
          rw [ei, List.getElem?_append_right (Nat.le_refl _), Nat.sub_self] at ey
          cases ey
          exact Or.inl ⟨rfl, _, rfl, _, rfl, u, e, rfl, .inr ⟨b.mono g, fun H3 g3 => qe _ (g.trans g3)⟩⟩
  have lt := rt.length
  refine ⟨_, rfl, _, rfl, .inr ⟨pc, _, rfl, hc, _, rfl, iteF ?_⟩⟩
  refine ⟨_, rfl, _, _, _, rfl, .a (.old (.old (.lstList ht))), _, rfl, iteF ?_⟩
  refine ⟨_, rfl, pt, rfl, ⟨_, ht⟩, yk (n := ts.length) (fun i ys H' => Same H H' ∧ TL K H' ys (ts.take i)) ⟨Same.refl _, .nil⟩ (zW (by omega)) ?_ ?_ ?_⟩
  case refine_2 =>
    rintro i ys H' hi ⟨g, _⟩
    exact ⟨_, _, g.seq ht, List.getElem?_eq_getElem (by omega)⟩
  case refine_3 =>
    rintro i m' ys H' cc x H2 hi ⟨g, r⟩ ⟨rfl, y1⟩ nx _
    obtain ⟨x0, ex, hx⟩ := rt.get (y1 _ (g.seq ht))
    refine Or.inl ⟨rfl, _, rfl, _, rfl, x, e, rfl, .inl ⟨x0, hx.mono g, wp x0 (List.mem_of_getElem? ex), fun p3 H3 g3 e3 => nx _ _ ⟨g.trans g3, ?_⟩⟩⟩
    rw [zZ ex]
    exact Paired.snoc (r.mono g3) e3
  rintro vf H1 ⟨g1, r1⟩
  rw [List.take_of_length_le (Nat.le_refl _)] at r1
  refine ⟨⟨_, g1.seq ht, by omega⟩, fun lf hlf => ?_⟩
  have g2 := qk hlf (.lst vf)
  have ef := qz (H := H1) (a := lf) (o := .lst vf)
  have r1 := r1.mono g2
  have gA := g1.trans g2
  generalize upd H1 lf (.lst vf) = H2 at *
  clear g1 g2 hlf
  have lvf := TL.length r1
  refine ⟨_, rfl, lf, rfl, ⟨_, SqL.of ef⟩, yk (n := ts.length) (fun i ys H' => H' = H2 ∧ ys = ((ts.take i).map fun x => V.int (x.1 : Int))) ⟨rfl, rfl⟩ (zW (by omega)) ?_ ?_ ?_⟩
  case refine_2 =>
    rintro i ys H' hi ⟨rfl, _⟩
    exact ⟨_, _, SqL.of ef, List.getElem?_eq_getElem (by omega)⟩
  case refine_3 =>
    rintro i m' ys H' cc x H3 hi ⟨rfl, rfl⟩ ⟨rfl, y1⟩ nx _
    obtain ⟨x0, ex, tt, rr, rfl, h1, h2⟩ := TL.get r1 (y1 _ (SqL.of ef))
    refine ⟨tt, _, rfl, h1, rfl, _, _, rfl, _, _, rfl, rfl, Or.inl ⟨rfl, _, rfl, nx _ _ ⟨rfl, ?_⟩⟩⟩
    rw [zZ ex, List.map_append]
    rfl
  rintro ys H3 ⟨rfl, rfl⟩
  rw [List.take_of_length_le (Nat.le_refl _)]
  refine ⟨⟨_, SqL.of ef, by omega⟩, fun lp hlp => ?_⟩
  have g3 := qk hlp (.lst (ts.map fun x => V.int (x.1 : Int)))
  have ep := qz (H := H3) (a := lp) (o := .lst (ts.map fun x => V.int (x.1 : Int)))
  have em : (ts.map fun x => V.int (x.1 : Int)) = ((ts.map (·.1)).map fun n : Nat => (n : Int)).map V.int := by rw [List.map_map, List.map_map]; rfl
  rw [em] at ep g3 ⊢
  generalize upd H3 lp (.lst (((ts.map (·.1)).map fun n : Nat => (n : Int)).map V.int)) = H4 at *
  have lm : ((ts.map (·.1)).map fun n : Nat => (n : Int)).length = ts.length := by rw [List.length_map, List.length_map]
  refine ⟨lp, _, rfl, SqL.of ep, by omega, fun ls S n n100 nn hls => ?_⟩
  rw [lm, YZ] at nn
  have g4 := qk hls (.set S n)
  have gB := gA.trans (g3.trans g4)
  have ef4 := (g3.trans g4) _ _ ef
  have e4 := qz (H := H4) (a := ls) (o := .set S n)
  have r4 := r1.mono (g3.trans g4)
  generalize upd H4 ls (.set S n) = H5 at *
  by_cases nd : (ts.map (·.1)).Nodup
  case neg =>
    exact ⟨ls, _, _, rfl, e4, n100, _, rfl, _, _, rfl, .inl (SqL.of ef4), rfl, _, rfl, iteNP (fun z => nd (nn.mp (by have := V.int.inj z; omega))) ⟨(show 1 ≤ sizeLine by decide), qe nd _ gB⟩⟩
  have q := q nd
  have nn := nn.mpr nd
  refine ⟨ls, _, _, rfl, e4, n100, _, rfl, _, _, rfl, .inl (SqL.of ef4), rfl, _, rfl, iteNS (congrArg V.int (by omega)) ?_⟩
  have hc4 := gB.tup hc
  refine ⟨_, rfl, pc, _, rfl, hc4, fun p1 H6 g6 e6 => ?_⟩
  refine ⟨_, rfl, lf, vf, rfl, .inl ⟨SqL.of (g6 _ _ ef4), fun lt2 hlt2 => ⟨(show 3 ≤ sizeLine by decide), fun t3 h3 => ?_⟩⟩⟩
  have g7 := qk hlt2 (.tup vf)
  have g8 := qk h3 (.tup [.str "sum", .ref p1, .ref lt2])
  have g78 := g7.trans g8
  exact q t3 _ (gB.trans (g6.trans g78)) ⟨t3, p1, lt2, vf, rfl, SqT.of qz, SqT.of (g78 _ _ e6), SqT.of (g8 _ _ qz), TL.mono r4 (g6.trans g78)⟩
inductive NU (K : PySem.W.Frag) (H : Hp) (e : Nat) : V → Prop where
  | no {x : V} (h : IsA K H x "tuple" false) : NU K H e x
  | nil {p : Addr} (h : SqT K H p []) : NU K H e (.ref p)
  | word {p : Addr} {u : V} {xs : List V} (h : SqT K H p (u :: xs)) (k : IsS K H u) : NU K H e (.ref p)
  | sum {p : Addr} {c t : V} (h : SqT K H p [.str "sum", c, t]) (k : NSum K H e c t) : NU K H e (.ref p)
  | twice {p pc pt : Addr} {q : Rat} {vs : List V} {ts : List (Nat × Rat)} (h : SqT K H p [.str "sum", .ref pc, .ref pt]) (k : SqT K H pc (TQ q)) (k2 : SqL K H pt vs) (r : TL K H vs ts) (w : ∀ x ∈ ts, x.1 < e) (n : ts.length ≤ 100) (b : ¬ (ts.map (·.1)).Nodup) : NU K H e (.ref p)
  | bend {p : Addr} {u : V} (h : SqT K H p [.str "bend", u]) (k : NP K H e u) : NU K H e (.ref p)
  | other {p : Addr} {z : Str} {xs : List V} (h : SqT K H p (.str z :: xs)) (s : V.str z = V.str "sum" → xs.length ≠ 2) (b : V.str z = V.str "bend" → xs.length ≠ 1) : NU K H e (.ref p)
theorem NU.mono {K : PySem.W.Frag} {H H' : Hp} {e : Nat} {x : V} (h : NU K H e x) (g : Same H H') : NU K H' e x := by
  cases h with
  | no h => exact .no (h.mono g)
  | nil h => exact .nil (g.tup h)
  | word h k => exact .word (g.tup h) (k.mono g)
  | sum h k => exact .sum (g.tup h) (k.mono g)
  | twice h k k2 r w n b => exact .twice (g.tup h) (g.tup k) (g.seq k2) (r.mono g) w n b
  | bend h k => exact .bend (g.tup h) (k.mono g)
  | other h s b => exact .other (g.tup h) s b
def spUnitE (K : PySem.W.Frag) (C : Addr) : Sp := fun vs H Q E => ∃ (v : V) (e : Nat), vs = [v, .int (e : Int)] ∧ ((∃ u : Un, UnAt false K H v u ∧ WfU e u ∧ RetBy H Q fun H' v => UnAt true K H' v u) ∨ (NU K H e v ∧ ∀ H', Same H H' → E (.ref C) none H'))
abbrev xz (P w K mg base) (a : Adr) (cdv A outer s H E) := (cxOf (CXE P w) P w K mg base ["unit", "end"] "checked_unit" (qQ yK) a.f_checked_unit cdv A outer s H E)
set_option maxHeartbeats 0 in
theorem ok_checked_unit (T : Txt K mg a) : FnOk P w K mg base (CXE P w) 5 a.f_checked_unit a.d_checked_unit ["unit", "end"] (spUnitE K a.c_NoNet) := by
  refine T.F_checked_unit.okE sc_checked_unit (fun vs H Q E h => ?_) (fun cdv A outer s H vs Q E hr h => ?_)
  · obtain ⟨_, _, rfl, _⟩ := h
    rfl
  obtain ⟨v, e, rfl, h⟩ := h
  have h0 : PS (xz P w K mg base a cdv A outer s H E) (bS yK 0) _ := (ps_if (PW.pt (pw_or (vx (jz (qX (Y9) rfl T.m_isinstance boot_isinstance (pa_c (pv 0) (pa_c (x4 (v := .ty "tuple") rfl T.m_tuple boot_tuple rfl) qj)) (he := qq rfl _ _) (hpl := qy rfl)))) (pw_or (qK op_eq (qX (zx) rfl T.m_len boot_len (pa_c (pv 0) qj) (he := qq rfl _ _) (hpl := qy rfl)) qw (qY _)) (wX (vx (jz (qX (Y9) rfl T.m_isinstance boot_isinstance (pa_c (pe_ix yz (pv 0) qw (fun _ _ => rfl)) (pa_c (x4 (v := .ty "str") rfl T.m_str boot_str rfl) qj)) (he := qq rfl _ _) (hpl := qy rfl))))))))
        (qJ (j5 rfl rfl rfl rfl rfl T.x_NoNet rfl T.m_NoNet (pa_c qV qj)))
        zv)
  have h1 : PS (xz P w K mg base a cdv A outer s H E) (bS yK 1) _ := (ps_if (PW.pt (Y2 (qK op_eq (pe_ix yz (pv 0) qw (fun _ _ => rfl)) qV (qY _)) (Qv (qK op_eq (qX (zx) rfl T.m_len boot_len (pa_c (pv 0) qj) (he := qq rfl _ _) (hpl := qy rfl)) qw (qY _)))))
        (qJ (zw (qW (ok_checked_sum T) (hr.mono (by decide)) rfl T.m_checked_sum T.F_checked_sum.kp T.b_checked_sum .nil passE (pa_c (pe_ix yz (pv 0) qw (fun _ _ => rfl)) (pa_c (pe_ix yz (pv 0) qw (fun _ _ => rfl)) (pa_c (pv 1) qj))) (he := qq rfl _ _) (hpl := qy rfl))))
        zv)
  have h2 : PS (xz P w K mg base a cdv A outer s H E) (bS yK 2) _ := (ps_if (PW.pt (Y2 (qK op_eq (pe_ix yz (pv 0) qw (fun _ _ => rfl)) qV (qY _)) (Qv (qK op_eq (qX (zx) rfl T.m_len boot_len (pa_c (pv 0) qj) (he := qq rfl _ _) (hpl := qy rfl)) qw (qY _)))))
        (qJ (zw (vq (pa_c qV (pa_c (qW (Qk T) (hr.mono (by decide)) rfl T.m_checked_place T.F_checked_place.kp T.b_checked_place .nil passE (pa_c (pe_ix yz (pv 0) qw (fun _ _ => rfl)) (pa_c (pv 1) qj)) (he := qq rfl _ _) (hpl := qy rfl)) qj)))))
        zv)
  have h3 : PS (xz P w K mg base a cdv A outer s H E) (bS yK 3) _ := (j5 rfl rfl rfl rfl rfl T.x_NoNet rfl T.m_NoNet (pa_c qV qj))
  refine ⟨_, body4 (by rfl) h0 h1 h2 h3, ?_⟩
  clear h0 h1 h2 h3
  have tup : ∀ {p : Addr} {xs : List V}, SqT K H p xs → IsB K H (.ref p) "tuple" true := fun h => .a (.old (.old (.tupTup h)))
  rcases h with ⟨u, hu, wf, q⟩ | ⟨nu, qe⟩
  · cases u with
    | sum c ts =>
      obtain ⟨t, pc, pt, vs, rfl, h1, h2, h3, h4⟩ := hu
      refine ⟨_, rfl, _, _, _, rfl, tup h1, _, rfl, iteF ⟨_, rfl, _, _, rfl, .inr h1, rfl, _, rfl, iteF ⟨_, rfl, _, _, _, _, rfl, rfl, h1, rfl, _, _, _, rfl, .str _, _, rfl, iteF ?_⟩⟩⟩
      refine ⟨_, rfl, _, _, _, _, rfl, rfl, h1, rfl, rfl, _, rfl, iteP rfl ⟨_, rfl, _, _, rfl, .inr h1, rfl, _, rfl, iteP rfl ?_⟩⟩
      exact ⟨_, rfl, _, _, _, _, rfl, rfl, h1, rfl, _, rfl, _, _, _, _, rfl, rfl, h1, rfl, _, rfl, _, _, e, rfl, .inl ⟨pc, pt, vs, c, ts, rfl, rfl, h2, h3, h4, wf.1, wf.2.2, fun _ => q, fun n => absurd wf.2.1 n⟩⟩
    | bend p =>
      obtain ⟨t, rfl, h1⟩ := hu
      refine ⟨_, rfl, _, _, _, rfl, tup h1, _, rfl, iteF ⟨_, rfl, _, _, rfl, .inr h1, rfl, _, rfl, iteF ⟨_, rfl, _, _, _, _, rfl, rfl, h1, rfl, _, _, _, rfl, .str _, _, rfl, iteF ?_⟩⟩⟩
      refine ⟨_, rfl, _, _, _, _, rfl, rfl, h1, rfl, rfl, _, rfl, iteN (by decide) (iteF ?_)⟩
      refine ⟨_, rfl, _, _, _, _, rfl, rfl, h1, rfl, rfl, _, rfl, iteP rfl ⟨_, rfl, _, _, rfl, .inr h1, rfl, _, rfl, iteP rfl ?_⟩⟩
      refine ⟨_, rfl, _, _, _, _, rfl, rfl, h1, rfl, _, rfl, _, e, rfl, .inl ⟨p, rfl, wf, j0, fun t2 h2 => ?_⟩⟩
      exact q t2 _ (qk h2 _) ⟨t2, rfl, SqT.of qz⟩
  · have fin := And.intro (show 1 ≤ sizeLine by decide) (qe H (Same.refl _))
    cases nu with
    | no h => exact ⟨_, rfl, _, _, _, rfl, .a h, _, rfl, iteT fin⟩
    | nil h => exact ⟨_, rfl, _, _, _, rfl, tup h, _, rfl, iteF ⟨_, rfl, _, _, rfl, .inr h, rfl, _, rfl, iteT fin⟩⟩
    | word h k => exact ⟨_, rfl, _, _, _, rfl, tup h, _, rfl, iteF ⟨_, rfl, _, _, rfl, .inr h, rfl, _, rfl, iteN (fun z => by have := V.int.inj z; rw [List.length_cons] at this; omega) ⟨_, rfl, _, _, _, _, rfl, rfl, h, at0, _, _, _, rfl, .noStr k, _, rfl, iteT fin⟩⟩⟩
    | sum h1 k =>
      refine ⟨_, rfl, _, _, _, rfl, tup h1, _, rfl, iteF ⟨_, rfl, _, _, rfl, .inr h1, rfl, _, rfl, iteF ⟨_, rfl, _, _, _, _, rfl, rfl, h1, rfl, _, _, _, rfl, .str _, _, rfl, iteF ?_⟩⟩⟩
      refine ⟨_, rfl, _, _, _, _, rfl, rfl, h1, rfl, rfl, _, rfl, iteP rfl ⟨_, rfl, _, _, rfl, .inr h1, rfl, _, rfl, iteP rfl ?_⟩⟩
      exact ⟨_, rfl, _, _, _, _, rfl, rfl, h1, rfl, _, rfl, _, _, _, _, rfl, rfl, h1, rfl, _, rfl, _, _, e, rfl, .inr ⟨k, qe⟩⟩
    | twice h1 k k2 r wf n b =>
      refine ⟨_, rfl, _, _, _, rfl, tup h1, _, rfl, iteF ⟨_, rfl, _, _, rfl, .inr h1, rfl, _, rfl, iteF ⟨_, rfl, _, _, _, _, rfl, rfl, h1, rfl, _, _, _, rfl, .str _, _, rfl, iteF ?_⟩⟩⟩
      refine ⟨_, rfl, _, _, _, _, rfl, rfl, h1, rfl, rfl, _, rfl, iteP rfl ⟨_, rfl, _, _, rfl, .inr h1, rfl, _, rfl, iteP rfl ?_⟩⟩
      exact ⟨_, rfl, _, _, _, _, rfl, rfl, h1, rfl, _, rfl, _, _, _, _, rfl, rfl, h1, rfl, _, rfl, _, _, e, rfl, .inl ⟨_, _, _, _, _, rfl, rfl, k, k2, r, wf, n, fun z => absurd z b, fun _ => qe⟩⟩
    | bend h1 k =>
      refine ⟨_, rfl, _, _, _, rfl, tup h1, _, rfl, iteF ⟨_, rfl, _, _, rfl, .inr h1, rfl, _, rfl, iteF ⟨_, rfl, _, _, _, _, rfl, rfl, h1, rfl, _, _, _, rfl, .str _, _, rfl, iteF ?_⟩⟩⟩
      refine ⟨_, rfl, _, _, _, _, rfl, rfl, h1, rfl, rfl, _, rfl, iteN (by decide) (iteF ?_)⟩
      refine ⟨_, rfl, _, _, _, _, rfl, rfl, h1, rfl, rfl, _, rfl, iteP rfl ⟨_, rfl, _, _, rfl, .inr h1, rfl, _, rfl, iteP rfl ?_⟩⟩
      exact ⟨_, rfl, _, _, _, _, rfl, rfl, h1, rfl, _, rfl, _, e, rfl, .inr ⟨k, qe⟩⟩
    | @other p z xs h1 sn bn =>
      have ll : ((.str z :: xs : List V).length : Int) = (xs.length : Int) + 1 := by rw [List.length_cons]; omega
      refine ⟨_, rfl, _, _, _, rfl, tup h1, _, rfl, iteF ⟨_, rfl, _, _, rfl, .inr h1, rfl, _, rfl, iteN (fun z => by have := V.int.inj z; omega) ⟨_, rfl, _, _, _, _, rfl, rfl, h1, at0, _, _, _, rfl, .str _, _, rfl, iteF ?_⟩⟩⟩
      refine ⟨_, rfl, _, _, _, _, rfl, rfl, h1, at0, rfl, _, rfl, ?_⟩
      by_cases c : V.str z = V.str "sum"
      · refine iteP c ⟨_, rfl, _, _, rfl, .inr h1, rfl, _, rfl, iteN (fun y => sn c (by have := V.int.inj y; omega)) ?_⟩
        refine ⟨_, rfl, _, _, _, _, rfl, rfl, h1, at0, rfl, _, rfl, ?_⟩
        by_cases c2 : V.str z = V.str "bend"
        · exact iteP c2 ⟨_, rfl, _, _, rfl, .inr h1, rfl, _, rfl, iteN (fun y => bn c2 (by have := V.int.inj y; omega)) fin⟩
        · exact iteN c2 (iteF fin)
      · refine iteN c (iteF ?_)
        refine ⟨_, rfl, _, _, _, _, rfl, rfl, h1, at0, rfl, _, rfl, ?_⟩
        by_cases c2 : V.str z = V.str "bend"
        · exact iteP c2 ⟨_, rfl, _, _, rfl, .inr h1, rfl, _, rfl, iteN (fun y => bn c2 (by have := V.int.inj y; omega)) fin⟩
        · exact iteN c2 (iteF fin)
inductive NUs (K : PySem.W.Frag) (H : Hp) (many : Nat) : V → Prop where
  | no {x : V} (h : IsA K H x "list" false) : NUs K H many x
  | len {l : Addr} {vs : List V} (h : SqL K H l vs) (n : 80 < vs.length) : NUs K H many (.ref l)
  | bad {l : Addr} {v1 v2 : List V} {u : V} {us : List Un} (h : SqL K H l (v1 ++ u :: v2)) (r : UL false K H v1 us) (w : WfN many us) (n : v1.length + v2.length < 80) (b : NU K H (many + v1.length) u) : NUs K H many (.ref l)
  | bends {l : Addr} {vs : List V} {us : List Un} (h : SqL K H l vs) (r : UL false K H vs us) (w : WfN many us) (n : us.length ≤ 80) (b : 20 < (us.filter isB).length) : NUs K H many (.ref l)
theorem NUs.mono {K : PySem.W.Frag} {H H' : Hp} {e : Nat} {x : V} (h : NUs K H e x) (g : Same H H') : NUs K H' e x := by
  cases h with
  | no h => exact .no (h.mono g)
  | len h n => exact .len (g.seq h) n
  | bad h r w n b => exact .bad (g.seq h) (r.mono g) w n (b.mono g)
  | bends h r w n b => exact .bends (g.seq h) (r.mono g) w n b
def NetOk (many : Nat) (us : List Un) (outs : List Nat) : Prop := WfN many us ∧ us.length ≤ 80 ∧ (us.filter isB).length ≤ 20 ∧ 1 ≤ many ∧ many ≤ 6 ∧ 1 ≤ outs.length ∧ outs.length ≤ 12 ∧ ∀ o ∈ outs, o < many + us.length
theorem kind_at {b : Bool} {K : PySem.W.Frag} {H : Hp} {v : V} {u : Un} (h : UnAt b K H v u) : ∃ t ys, v = .ref t ∧ SqT K H t (.str (if isB u then "bend" else "sum") :: ys) := by
  cases u with
  | sum c ts =>
    obtain ⟨t, pc, pt, vs, rfl, h1, _⟩ := h
    exact ⟨t, _, rfl, h1⟩
  | bend p =>
    obtain ⟨t, rfl, h1⟩ := h
    exact ⟨t, _, rfl, h1⟩
theorem ZV {α : Type} (p : α → Bool) (xs : List α) (x : α) : (xs ++ [x]).filter p = xs.filter p ++ (if p x then [x] else []) := by
  rw [List.filter_append]
  cases h : p x <;> simp [h]
def spUnitsR (K : PySem.W.Frag) (C : Addr) : Sp := fun vs H Q E => ∃ (v : V) (many : Nat), vs = [v, .int (many : Int)] ∧ ((∃ (l : Addr) (vu : List V) (us : List Un), v = .ref l ∧ SqL K H l vu ∧ UL false K H vu us ∧ WfN many us ∧ us.length ≤ 80 ∧ ((us.filter isB).length ≤ 20 → ∀ p H' vk, H p = none → Same H H' → H' p = some (.lst vk) → UL true K H' vk us → Q (.ref p) H') ∧ (¬ (us.filter isB).length ≤ 20 → ∀ H', Same H H' → E (.ref C) none H')) ∨ (NUs K H many v ∧ ∀ H', Same H H' → E (.ref C) none H'))
abbrev x6 (P w K mg base) (a : Adr) (cdv A outer s H E) := (cxOf (CXE P w) P w K mg base ["units", "many", "found"] "checked_units" (qQ yy) a.f_checked_units cdv A outer s H E)
set_option maxHeartbeats 0 in
theorem ok_checked_units (T : Txt K mg a) : FnOk P w K mg base (CXE P w) 6 a.f_checked_units a.d_checked_units ["units", "many"] (spUnitsR K a.c_NoNet) := by
  refine T.F_checked_units.okE Y6 (fun vs H Q E h => ?_) (fun cdv A outer s H vs Q E hr h => ?_)
  · obtain ⟨_, _, rfl, _⟩ := h
    rfl
  obtain ⟨v, many, rfl, h0⟩ := h
  have h : (∃ (l : Addr) (vu : List V) (us : List Un), v = .ref l ∧ SqL K H l vu ∧ UL false K H vu us ∧ WfN many us ∧ us.length ≤ 80 ∧
  ((us.filter isB).length ≤ 20 → ∀ p H' vk, H p = none → Same H H' → H' p = some (.lst vk) → UL true K H' vk us → Q (.ref p) H') ∧ (¬ (us.filter isB).length ≤ 20 → ∀ H', Same H H' → E (.ref a.c_NoNet) none H')) ∨
   (NUs K H many v ∧ (∀ l vs us, v = .ref l → SqL K H l vs → UL false K H vs us → us.length ≤ 80 → WfN many us → (us.filter isB).length ≤ 20) ∧ ∀ H', Same H H' → E (.ref a.c_NoNet) none H') := by
    rcases h0 with h | ⟨h, q⟩
    · exact .inl h
    · by_cases c : ∀ l vs us, v = .ref l → SqL K H l vs → UL false K H vs us → us.length ≤ 80 → WfN many us → (us.filter isB).length ≤ 20
      · exact .inr ⟨h, c, q⟩
      · simp only [Classical.not_forall] at c
        obtain ⟨l, vs, us, e, h1, h2, h3, h4, n⟩ := c
        exact .inl ⟨l, vs, us, e, h1, h2, h4, h3, fun z => absurd z n, fun _ => q⟩
  clear h0
  have h0 : PS (x6 P w K mg base a cdv A outer s H E) (bS yy 0) _ := (ps_if (PW.pt (pw_or (vx (jz (qX (Y9) rfl T.m_isinstance boot_isinstance (pa_c (pv 0) (pa_c (x4 (v := .ty "list") rfl T.m_list boot_list rfl) qj)) (he := qq rfl _ _) (hpl := qy rfl)))) (wX (qK op_gt (qX (zx) rfl T.m_len boot_len (pa_c (pv 0) qj) (he := qq rfl _ _) (hpl := qy rfl)) (xq (v := .int 80) rfl T.m_MOST_UNITS ⟨_, rfl⟩) (qY _)))))
        (qJ (j5 rfl rfl rfl rfl rfl T.x_NoNet rfl T.m_NoNet (pa_c qV qj)))
        zv)
  have h1 : PS (x6 P w K mg base a cdv A outer s H E) (bS yy 1) _ := (ps_setCompE (E := E) rfl rfl rfl rfl (i := 2) Y6.nd rfl (Or.inl rfl) (N := ["k", "unit", "many"]) (ix := [none, none, some 1]) ⟨rfl, rfl, rfl, rfl, ⟨rfl, trivial⟩, rfl, ⟨⟨rfl, Or.inr (Or.inl rfl), ne_loc rfl, rfl, Or.inl rfl⟩, trivial⟩⟩ rfl (pi_enum rfl T.m_enumerate (pa_c (pv 0) qj)) (fun _ => (wj rfl (zy (zq (i := 0) (show (["k", "unit", "many"] : List Str).Nodup by decide +kernel) rfl (Or.inl rfl)) (zy (zq (i := 1) (show (["k", "unit", "many"] : List Str).Nodup by decide +kernel) rfl (Or.inl rfl)) v6)))) (fun _ σ => go_two rfl rfl (by decide) σ) (fun _ => yV) (fun _ => (qW (ok_checked_unit T) (hr.mono (by decide)) rfl T.m_checked_unit T.F_checked_unit.kp T.b_checked_unit .nil passC (pa_c (pv 1) (pa_c (pe_op j8 (pv 2) (pv 0)) qj)) (he := qq rfl _ _) (hpl := qy rfl))))
  have h2 : PS (x6 P w K mg base a cdv A outer s H E) (bS yy 2) _ := (ps_if (qK op_gt (qX (zx) rfl T.m_len boot_len (pa_c (kj (N := ["unit"]) (ix := [none]) ⟨rfl, rfl, rfl, rfl, trivial, rfl, trivial⟩ rfl (jv (pv 2)) (fun _ => (zq (i := 0) (show (["unit"] : List Str).Nodup by decide +kernel) rfl (Or.inl rfl))) (fun _ σ => v7 rfl σ) (fun _ => (pif_one (qK op_eq (pe_ix yz (pv 0) qw (fun _ _ => rfl)) qV (qY _)))) (fun _ => (pv 0))) qj) (he := qq rfl _ _) (hpl := qy rfl)) (xq (v := .int 20) rfl T.m_MOST_BENDS ⟨_, rfl⟩) (qY _))
        (qJ (j5 rfl rfl rfl rfl rfl T.x_NoNet rfl T.m_NoNet (pa_c qV qj)))
        zv)
  have h3 : PS (x6 P w K mg base a cdv A outer s H E) (bS yy 3) _ := (zw (pv 2))
  refine ⟨_, body4 (by rfl) h0 h1 h2 h3, ?_⟩
  clear h0 h1 h2 h3
  rcases h with ⟨l, vu, us, rfl, hl, ru, wf, l80, q, qe⟩ | ⟨nu, few, qe⟩
  case inr =>
    have fin := And.intro (show 1 ≤ sizeLine by decide) (qe H (Same.refl _))
    cases nu with
    | no h => exact ⟨_, rfl, _, _, _, rfl, .a h, _, rfl, iteT fin⟩
    | len h n => exact ⟨_, rfl, _, _, _, rfl, .a (.old (.old (.lstList h))), _, rfl, iteF ⟨_, rfl, _, _, rfl, .inl h, _, _, rfl, rfl, _, rfl, iteP (by omega) fin⟩⟩
    | bends h r w n b =>
      have := few _ _ _ rfl h r n w
      omega
    | @bad l v1 v2 u us hl r w n b =>
      have l1 := r.length
      have ll : (v1 ++ u :: v2).length = v1.length + v2.length + 1 := by rw [List.length_append, List.length_cons]; omega
      refine ⟨_, rfl, _, _, _, rfl, .a (.old (.old (.lstList hl))), _, rfl, iteF ⟨_, rfl, _, _, rfl, .inl hl, _, _, rfl, rfl, _, rfl, iteN (by omega) ?_⟩⟩
      refine ⟨_, rfl, l, rfl, ⟨_, hl⟩, yk (n := us.length + 1) (fun i ys H' => i ≤ us.length ∧ Same H H') ⟨Nat.zero_le _, Same.refl _⟩ (zW (by omega)) ?_ ?_ ?_⟩
      · rintro ys H' ⟨le, _⟩
        omega
      · rintro i ys H' hi' ⟨le, g⟩
        exact ⟨_, _, g.seq hl, List.getElem?_eq_getElem (by omega)⟩
      · rintro i m' ys H' cc x H2 hi' ⟨le, g⟩ ⟨p, x2, hp, rfl, rfl, y1⟩ nx _
        have ey := y1 _ (g.seq hl)
        have g2 := qk hp (.tup [.int (i : Int), x2])
        refine ⟨p, _, rfl, SqT.of qz, rfl, _, _, rfl, _, _, rfl, rfl, Or.inl ⟨rfl, _, rfl, _, rfl, _, rfl, _, _, rfl, rfl, x2, many + i, congrArg (fun z => [x2, V.int z]) (show (many : Int) + (i : Int) = ((many + i : Nat) : Int) by omega), ?_⟩⟩
        by_cases hi : i < us.length
        · rw [List.getElem?_append_left (by omega)] at ey
          obtain ⟨u0, eu, hu⟩ := r.get ey
          exact .inl ⟨u0, hu.mono (g.trans g2), w i u0 eu, fun p3 H3 g3 e3 => nx _ _ ⟨by omega, g.trans (g2.trans g3)⟩⟩
        · have ei : i = v1.length := by omega
          rw [ei, List.getElem?_append_right (Nat.le_refl _), Nat.sub_self] at ey
          cases ey
          exact .inr ⟨by rw [ei]; rw [ei] at g2; exact b.mono (g.trans g2), fun H3 g3 => qe _ ((g.trans g2).trans g3)⟩
  have lu := ru.length
  refine ⟨_, rfl, _, _, _, rfl, .a (.old (.old (.lstList hl))), _, rfl, iteF ⟨_, rfl, _, _, rfl, .inl hl, _, _, rfl, rfl, _, rfl, iteN (by omega) ?_⟩⟩
  refine ⟨_, rfl, l, rfl, ⟨_, hl⟩, yk (n := us.length) (fun i ys H' => Same H H' ∧ UL true K H' ys (us.take i)) ⟨Same.refl _, .nil⟩ (zW (by omega)) ?_ ?_ ?_⟩
  case refine_2 =>
    rintro i ys H' hi ⟨g, _⟩
    exact ⟨_, _, g.seq hl, List.getElem?_eq_getElem (by omega)⟩
  case refine_3 =>
    rintro i m' ys H' cc x H2 hi ⟨g, r⟩ ⟨p, x2, hp, rfl, rfl, y1⟩ nx _
    obtain ⟨u0, eu, hu⟩ := ru.get (y1 _ (g.seq hl))
    have g2 := qk hp (.tup [.int (i : Int), x2])
    refine ⟨p, _, rfl, SqT.of qz, rfl, _, _, rfl, _, _, rfl, rfl, Or.inl ⟨rfl, _, rfl, _, rfl, _, rfl, _, _, rfl, rfl, x2, many + i, congrArg (fun z => [x2, V.int z]) (show (many : Int) + (i : Int) = ((many + i : Nat) : Int) by omega), .inl ⟨u0, hu.mono (g.trans g2), wf i u0 eu, fun p3 H3 g3 e3 => nx _ _ ⟨g.trans (g2.trans g3), ?_⟩⟩⟩⟩
    rw [zZ eu]
    exact UL.snoc (r.mono (g2.trans g3)) e3
  rintro vk H1 ⟨g1, r1⟩
  rw [List.take_of_length_le (Nat.le_refl _)] at r1
  refine ⟨⟨_, g1.seq hl, by omega⟩, fun lf hlf => ?_⟩
  have nlf : H lf = none := wQ g1 hlf
  have g2 := qk hlf (.lst vk)
  have ef := qz (H := H1) (a := lf) (o := .lst vk)
  have r1 := r1.mono g2
  have gA := g1.trans g2
  generalize upd H1 lf (.lst vk) = H2 at *
  clear g1 g2 hlf
  have lvk := UL.length r1
  refine ⟨_, rfl, lf, rfl, ⟨_, SqL.of ef⟩, yk (n := us.length) (fun i ys H' => H' = H2 ∧ ys.length = ((us.take i).filter isB).length) ⟨rfl, rfl⟩ (zW (by omega)) ?_ ?_ ?_⟩
  case refine_2 =>
    rintro i ys H' hi ⟨rfl, _⟩
    exact ⟨_, _, SqL.of ef, List.getElem?_eq_getElem (by omega)⟩
  case refine_3 =>
    rintro i m' ys H' cc x H3 hi ⟨rfl, ly⟩ ⟨rfl, y1⟩ nx sk
    obtain ⟨u0, eu, hu⟩ := UL.get r1 (y1 _ (SqL.of ef))
    obtain ⟨t, zs, rfl, ht⟩ := kind_at hu
    refine ⟨_, rfl, _, _, _, _, rfl, rfl, ht, at0, rfl, _, rfl, ?_⟩
    have es : us.take (i + 1) = us.take i ++ [u0] := zZ eu
    cases hb : isB u0 with
    | true =>
      refine Or.inl ⟨by rfl, _, rfl, nx _ _ ⟨rfl, ?_⟩⟩
      rw [es, ZV, hb, List.length_append, List.length_append, ly]
      rfl
    | false =>
      refine Or.inr ⟨by rfl, sk _ ⟨rfl, ?_⟩⟩
      rw [es, ZV, hb, List.length_append, ly]
      rfl
  rintro ys H3 ⟨rfl, ly⟩
  rw [List.take_of_length_le (Nat.le_refl _)] at ly
  refine ⟨⟨_, SqL.of ef, by omega⟩, fun lb hlb => ?_⟩
  have g3 := qk hlb (.lst ys)
  refine ⟨_, _, rfl, .inl (SqL.of qz), _, _, rfl, rfl, _, rfl, iteD (fun c => ?_) (fun c => ?_)⟩
  · exact ⟨(show 1 ≤ sizeLine by decide), qe (fun z => by rw [ly] at c; omega) _ (gA.trans g3)⟩
  · exact ⟨_, rfl, q (by rw [ly] at c; omega) lf _ vk nlf (gA.trans g3) (g3 _ _ ef) (r1.mono g3)⟩
def outV (outs : List Nat) : List V := outs.map fun n : Nat => V.int (n : Int)
theorem out_at {outs : List Nat} {i : Nat} {x : V} (h : (outV outs)[i]? = some x) : ∃ n : Nat, outs[i]? = some n ∧ x = .int (n : Int) := by
  unfold outV at h
  rw [List.getElem?_map] at h
  cases e : outs[i]? with
  | none => rw [e] at h; cases h
  | some z => rw [e] at h; exact ⟨z, rfl, (Option.some.inj h).symm⟩
inductive NOs (K : PySem.W.Frag) (H : Hp) (e : Nat) : V → Prop where
  | no {x : V} (h : IsA K H x "list" false) : NOs K H e x
  | len {l : Addr} {vs : List V} (h : SqL K H l vs) (n : vs.length < 1 ∨ 12 < vs.length) : NOs K H e (.ref l)
  | bad {l : Addr} {v2 : List V} {u : V} {outs : List Nat} (h : SqL K H l (outV outs ++ u :: v2)) (w : ∀ o ∈ outs, o < e) (n : outs.length + v2.length < 12) (b : NP K H e u) : NOs K H e (.ref l)
theorem NOs.mono {K : PySem.W.Frag} {H H' : Hp} {e : Nat} {x : V} (h : NOs K H e x) (g : Same H H') : NOs K H' e x := by
  cases h with
  | no h => exact .no (h.mono g)
  | len h n => exact .len (g.seq h) n
  | bad h w n b => exact .bad (g.seq h) w n (b.mono g)
def spOutsR (K : PySem.W.Frag) (C : Addr) : Sp := fun vs H Q E => ∃ (v : V) (e : Nat), vs = [v, .int (e : Int)] ∧ ((∃ (l : Addr) (outs : List Nat), v = .ref l ∧ SqL K H l (outV outs) ∧ (∀ o ∈ outs, o < e) ∧ 1 ≤ outs.length ∧ outs.length ≤ 12 ∧ ∀ p, H p = none → Q (.ref p) (upd H p (.lst (outV outs)))) ∨ (NOs K H e v ∧ ∀ H', Same H H' → E (.ref C) none H'))
theorem ok_checked_outs (T : Txt K mg a) : FnOk P w K mg base (CXE P w) 3 a.f_checked_outs a.d_checked_outs ["outs", "end"] (spOutsR K a.c_NoNet) := by
  refine T.F_checked_outs.okE sc_checked_outs (fun vs H Q E h => ?_) (fun cdv A outer s H vs Q E hr h => ?_)
  · obtain ⟨_, _, rfl, _⟩ := h
    rfl
  obtain ⟨v, e, rfl, h⟩ := h
  refine ⟨_, (qZ (ps_if (PW.pt (pw_or (vx (jz (qX (Y9) rfl T.m_isinstance boot_isinstance (pa_c (pv 0) (pa_c (x4 (v := .ty "list") rfl T.m_list boot_list rfl) qj)) (he := qq rfl _ _) (hpl := qy rfl)))) (pw_or (qK op_lt (qX (zx) rfl T.m_len boot_len (pa_c (pv 0) qj) (he := qq rfl _ _) (hpl := qy rfl)) qw (qY _)) (wX (qK op_gt (qX (zx) rfl T.m_len boot_len (pa_c (pv 0) qj) (he := qq rfl _ _) (hpl := qy rfl)) (xq (v := .int 12) rfl T.m_MOST_OUTS ⟨_, rfl⟩) (qY _))))))
        (qJ (j5 rfl rfl rfl rfl rfl T.x_NoNet rfl T.m_NoNet (pa_c qV qj)))
        zv)
      (qJ (zw (pe_compE (E := E) rfl rfl rfl rfl (N := ["place", "end"]) (ix := [none, some 1]) ⟨rfl, rfl, rfl, rfl, ⟨rfl, trivial⟩, rfl, ⟨⟨rfl, Or.inr (Or.inl rfl), ne_loc rfl, rfl, Or.inl rfl⟩, trivial⟩⟩ rfl (jv (pv 0)) (fun _ => (zq (i := 0) (show (["place", "end"] : List Str).Nodup by decide +kernel) rfl (Or.inl rfl))) (fun _ σ => v7 rfl σ) (fun _ => yV) (fun _ => (qW (Qk T) (hr.mono (by decide)) rfl T.m_checked_place T.F_checked_place.kp T.b_checked_place .nil passC (pa_c (pv 0) (pa_c (pv 1) qj)) (he := qq rfl _ _) (hpl := qy rfl))))))), ?_⟩
  have lo : ∀ outs : List Nat, (outV outs).length = outs.length := fun outs => by unfold outV; rw [List.length_map]
  rcases h with ⟨l, outs, rfl, hl, lt, l1, l12, q⟩ | ⟨no, qe⟩
  · have lo := lo outs
    refine ⟨_, rfl, _, _, _, rfl, .a (.old (.old (.lstList hl))), _, rfl, iteF ⟨_, rfl, _, _, rfl, .inl hl, _, _, rfl, rfl, _, rfl, iteN (by omega) ⟨_, rfl, _, _, rfl, .inl hl, _, _, rfl, rfl, _, rfl, iteN (by omega) ?_⟩⟩⟩
    refine ⟨_, rfl, l, rfl, ⟨_, hl⟩, yk (n := outs.length) (fun i ys H' => H' = H ∧ ys = outV (outs.take i)) ⟨rfl, rfl⟩ (zW (by omega)) ?_ ?_ ?_⟩
    · rintro ys H' ⟨rfl, rfl⟩
      rw [List.take_of_length_le (Nat.le_refl _)]
      exact ⟨⟨_, hl, by omega⟩, fun D hD => q D hD⟩
    · rintro i ys H' hi ⟨rfl, _⟩
      exact ⟨_, _, hl, List.getElem?_eq_getElem (by omega)⟩
    · rintro i m' ys H' cc x H2 hi ⟨rfl, rfl⟩ ⟨rfl, y1⟩ nx _
      obtain ⟨o, eo, rfl⟩ := out_at (y1 _ hl)
      refine Or.inl ⟨rfl, _, rfl, _, rfl, _, e, rfl, .inl ⟨o, rfl, lt o (List.mem_of_getElem? eo), nx _ _ ⟨rfl, ?_⟩⟩⟩
      rw [zZ eo]
      unfold outV
      rw [List.map_append]
      rfl
  · have fin := And.intro (show 1 ≤ sizeLine by decide) (qe H (Same.refl _))
    cases no with
    | no h => exact ⟨_, rfl, _, _, _, rfl, .a h, _, rfl, iteT fin⟩
    | len h n => exact ⟨_, rfl, _, _, _, rfl, .a (.old (.old (.lstList h))), _, rfl, iteF ⟨_, rfl, _, _, rfl, .inl h, _, _, rfl, rfl, _, rfl, iteD (fun c => fin) (fun c => ⟨_, rfl, _, _, rfl, .inl h, _, _, rfl, rfl, _, rfl, iteP (by omega) fin⟩)⟩⟩
    | @bad l v2 u outs hl lt n b =>
      have lo := lo outs
      have ll : (outV outs ++ u :: v2).length = outs.length + v2.length + 1 := by rw [List.length_append, List.length_cons]; omega
      refine ⟨_, rfl, _, _, _, rfl, .a (.old (.old (.lstList hl))), _, rfl, iteF ⟨_, rfl, _, _, rfl, .inl hl, _, _, rfl, rfl, _, rfl, iteN (by omega) ⟨_, rfl, _, _, rfl, .inl hl, _, _, rfl, rfl, _, rfl, iteN (by omega) ?_⟩⟩⟩
      refine ⟨_, rfl, l, rfl, ⟨_, hl⟩, yk (n := outs.length + 1) (fun i ys H' => i ≤ outs.length ∧ H' = H) ⟨Nat.zero_le _, rfl⟩ (zW (by omega)) ?_ ?_ ?_⟩
      · rintro ys H' ⟨le, _⟩
        omega
      · rintro i ys H' hi ⟨le, rfl⟩
        exact ⟨_, _, hl, List.getElem?_eq_getElem (by omega)⟩
      · rintro i m' ys H' cc x H2 hi' ⟨le, rfl⟩ ⟨rfl, y1⟩ nx _
        have ey := y1 _ hl
        by_cases hi : i < outs.length
        · rw [List.getElem?_append_left (by omega)] at ey
          obtain ⟨o, eo, rfl⟩ := out_at ey
          exact Or.inl ⟨rfl, _, rfl, _, rfl, _, e, rfl, .inl ⟨o, rfl, lt o (List.mem_of_getElem? eo), nx _ _ ⟨by omega, rfl⟩⟩⟩
        · have ei : i = (outV outs).length := by omega
          rw [ei, List.getElem?_append_right (Nat.le_refl _), Nat.sub_self] at ey
          cases ey
          exact Or.inl ⟨rfl, _, rfl, _, rfl, u, e, rfl, .inr ⟨b, qe⟩⟩
def NetAt (C : Addr) (H : Hp) (p lu lo : Addr) (many : Nat) : Prop := ∃ dx, H p = some (.ins C dx [("many", .int (many : Int)), ("units", .ref lu), ("outs", .ref lo)])
theorem UL.upd_ins {K : PySem.W.Frag} {H : Hp} {t C dx : Addr} {vs : List V} {us : List Un} {fs : List (Str × V)} {o : HO} (h : UL true K H vs us) (e : H t = some (.ins C dx fs)) : UL true K (upd H t o) vs us :=
  Paired.mapP h fun v u hu => by
    cases u with
    | sum c ts =>
      obtain ⟨t', pc, pt, vs, e0, h1, h2, h3, h4⟩ := hu
      exact ⟨t', pc, pt, vs, e0, SqT.upd_ins h1 e, SqT.upd_ins h2 e, SqT.upd_ins h3 e, Paired.mapP h4 fun _ _ ⟨t, r, e1, k1, k2⟩ => ⟨t, r, e1, SqT.upd_ins k1 e, SqT.upd_ins k2 e⟩⟩
    | bend p =>
      obtain ⟨t', e0, h1⟩ := hu
      exact ⟨t', e0, SqT.upd_ins h1 e⟩
inductive NN (K : PySem.W.Frag) (H : Hp) : V → V → V → Prop where
  | many {m u o : V} (h : Wh K H m false) : NN K H m u o
  | low {i : Int} {u o : V} (h : i < 1) : NN K H (.int i) u o
  | high {i : Int} {u o : V} (h : 6 < i) : NN K H (.int i) u o
  | units {many : Nat} {u o : V} (l1 : 1 ≤ many) (l6 : many ≤ 6) (h : NUs K H many u) : NN K H (.int (many : Int)) u o
  | outs {many : Nat} {l : Addr} {vu : List V} {us : List Un} {o : V} (l1 : 1 ≤ many) (l6 : many ≤ 6) (hl : SqL K H l vu) (r : UL false K H vu us) (w : WfN many us) (n : us.length ≤ 80) (b : (us.filter isB).length ≤ 20) (h : NOs K H (many + us.length) o) : NN K H (.int (many : Int)) (.ref l) o
def spNetInitR (K : PySem.W.Frag) (C CE : Addr) : Sp := fun vs H Q E => ∃ (H0 : Hp) (x dx : Addr) (vm vu vo : V), vs = [.ref x, vm, vu, vo] ∧ H x = some (.ins C dx []) ∧ Same H0 H ∧ H0 x = none ∧ ((∃ (l m : Addr) (many : Nat) (vl : List V) (us : List Un) (outs : List Nat), vm = .int (many : Int) ∧ vu = .ref l ∧ vo = .ref m ∧ SqL K H0 l vl ∧ UL false K H0 vl us ∧ SqL K H0 m (outV outs) ∧ NetOk many us outs ∧ ∀ lu lo vk H', Same H0 H' → NetAt C H' x lu lo many → H' lu = some (.lst vk) → H' lo = some (.lst (outV outs)) → UL true K H' vk us → Q .non H') ∨ (NN K H0 vm vu vo ∧ ∀ H', Same H0 H' → E (.ref CE) none H'))
abbrev Y0 (P w K mg base) (a : Adr) (cdv A outer s H E) := (cxOf (CXE P w) P w K mg base ["self", "many", "units", "outs"] "Net.__init__" (qQ vQ) a.f_Net_init cdv A outer s H E)
set_option maxHeartbeats 0 in
theorem ok_Net_init (T : Txt K mg a) : FnOk P w K mg base (CXE P w) 7 a.f_Net_init a.d_Net_init ["self", "many", "units", "outs"] (spNetInitR K a.c_Net a.c_NoNet) := by
  refine T.F_Net_init.okE sc_Net_init (fun vs H Q E h => ?_) (fun cdv A outer s H vs Q E hr h => ?_)
  · obtain ⟨_, _, _, _, _, _, rfl, _⟩ := h
    rfl
  obtain ⟨H0, x, dx, vm, vu, vo, rfl, hx, g0, x0, h⟩ := h
  have h0 : PS (Y0 P w K mg base a cdv A outer s H E) (bS vQ 0) _ := (ps_if (PW.pt (pw_or (vx (jz (qW (xJ T) (hr.mono (by decide)) rfl T.m_is_whole T.F_is_whole.kp T.b_is_whole .nil pass0 (pa_c (pv 1) qj) (he := qq rfl _ _) (hpl := qy rfl)))) (pw_or (qK op_lt (pv 1) qw (qY _)) (wX (qK op_gt (pv 1) (xq (v := .int 6) rfl T.m_MOST_INS ⟨_, rfl⟩) (qY _))))))
        (qJ (j5 rfl rfl rfl rfl rfl T.x_NoNet rfl T.m_NoNet (pa_c qV qj)))
        zv)
  have h1 : PS (Y0 P w K mg base a cdv A outer s H E) (bS vQ 1) _ := (ps_fld (pv 0) (y8 (xW) rfl T.m_int boot_int (pa_c (pv 1) qj) (he := qq rfl _ _) (hpl := qy rfl)) rfl)
  have h2 : PS (Y0 P w K mg base a cdv A outer s H E) (bS vQ 2) _ := (ps_fld (pv 0) (qW (ok_checked_units T) (hr.mono (by decide)) rfl T.m_checked_units T.F_checked_units.kp T.b_checked_units .nil passE (pa_c (pv 2) (pa_c (pe_fld (pv 0) rfl) qj)) (he := qq rfl _ _) (hpl := qy rfl)) rfl)
  have h3 : PS (Y0 P w K mg base a cdv A outer s H E) (bS vQ 3) _ := (ps_fld (pv 0) (qW (ok_checked_outs T) (hr.mono (by decide)) rfl T.m_checked_outs T.F_checked_outs.kp T.b_checked_outs .nil passE (pa_c (pv 3) (pa_c (pe_op j8 (pe_fld (pv 0) rfl) (qX (zx) rfl T.m_len boot_len (pa_c (pe_fld (pv 0) rfl) qj) (he := qq rfl _ _) (hpl := qy rfl))) qj)) (he := qq rfl _ _) (hpl := qy rfl)) rfl)
  refine ⟨_, body4 (by rfl) h0 h1 h2 h3, ?_⟩
  clear h0 h1 h2 h3
  have fin : ∀ {R : Prop}, R → 1 ≤ sizeLine ∧ R := fun h => ⟨by decide, h⟩
  have nx : ∀ {b o}, H0 b = some o → b ≠ x := fun e z => by rw [z, x0] at e; cases e
  have hm : (∃ many : Nat, vm = .int (many : Int) ∧ 1 ≤ many ∧ many ≤ 6 ∧ ((∃ (l : Addr) (vl : List V) (us : List Un), vu = .ref l ∧ SqL K H0 l vl ∧ UL false K H0 vl us ∧ WfN many us ∧ us.length ≤ 80 ∧ (us.filter isB).length ≤ 20 ∧ ((∃ (m : Addr) (outs : List Nat), vo = .ref m ∧ SqL K H0 m (outV outs) ∧ 1 ≤ outs.length ∧ outs.length ≤ 12 ∧ (∀ o ∈ outs, o < many + us.length) ∧ ∀ lu lo vk H', Same H0 H' → NetAt a.c_Net H' x lu lo many → H' lu = some (.lst vk) → H' lo = some (.lst (outV outs)) → UL true K H' vk us → Q .non H') ∨
     (NOs K H0 (many + us.length) vo ∧ ∀ H', Same H0 H' → E (.ref a.c_NoNet) none H'))) ∨ (NUs K H0 many vu ∧ ∀ H', Same H0 H' → E (.ref a.c_NoNet) none H'))) ∨ ((Wh K H0 vm false ∨ ∃ i : Int, vm = .int i ∧ (i < 1 ∨ 6 < i)) ∧ ∀ H', Same H0 H' → E (.ref a.c_NoNet) none H') := by
    rcases h with ⟨l, m, many, vl, us, outs, rfl, rfl, rfl, h1, h2, h3, ⟨wf, l80, b20, m1, m6, o1, o12, ol⟩, q⟩ | ⟨nn, qe⟩
    · exact .inl ⟨many, rfl, m1, m6, .inl ⟨l, vl, us, rfl, h1, h2, wf, l80, b20, .inl ⟨m, outs, rfl, h3, o1, o12, ol, q⟩⟩⟩
    · cases nn with
      | many h => exact .inr ⟨.inl h, qe⟩
      | low h => exact .inr ⟨.inr ⟨_, rfl, .inl h⟩, qe⟩
      | high h => exact .inr ⟨.inr ⟨_, rfl, .inr h⟩, qe⟩
      | units l1 l6 h => exact .inl ⟨_, rfl, l1, l6, .inr ⟨h, qe⟩⟩
      | outs l1 l6 hl r w n b h => exact .inl ⟨_, rfl, l1, l6, .inl ⟨_, _, _, rfl, hl, r, w, n, b, .inr ⟨h, qe⟩⟩⟩
  clear h
  rcases hm with ⟨many, rfl, m1, m6, h⟩ | ⟨h, qe⟩
  case inr =>
    have fin := fin (qe H g0)
    rcases h with h | ⟨i, rfl, h⟩
    · exact ⟨_, rfl, _, _, rfl, h.mono g0, _, rfl, iteT fin⟩
    · exact ⟨_, rfl, _, _, rfl, .int _, _, rfl, iteF ⟨_, rfl, _, _, rfl, rfl, _, rfl, iteD (fun c => fin) (fun c => ⟨_, rfl, _, _, rfl, rfl, _, rfl, iteP (by omega) fin⟩)⟩⟩
  refine ⟨_, rfl, _, _, rfl, .int _, _, rfl, iteF ⟨_, rfl, _, _, rfl, rfl, _, rfl, iteN (by omega) ⟨_, rfl, _, _, rfl, rfl, _, rfl, iteN (by omega) ?_⟩⟩⟩
  refine ⟨_, rfl, .inl ⟨_, rfl, _, rfl, x, _, dx, [], rfl, hx, T.C_Net, T.n_Net_many, by decide, ?_⟩⟩
  have hx1 : upd H x (.ins a.c_Net dx (putF "many" (.int (many : Int)) [])) x = some (.ins a.c_Net dx [("many", .int (many : Int))]) := qz
  have g1 : Same H0 (upd H x (.ins a.c_Net dx (putF "many" (.int (many : Int)) []))) := fun b u e => by rw [zK (nx e)]; exact g0 b u e
  generalize upd H x (.ins a.c_Net dx (putF "many" (.int (many : Int)) [])) = H1 at *
  clear hx g0
  refine ⟨_, rfl, _, rfl, x, _, dx, _, _, rfl, hx1, T.C_Net, T.n_Net_many, rfl, vu, many, rfl, ?_⟩
  rcases h with ⟨l, vl, us, rfl, hl, ru, wf, l80, b20, h⟩ | ⟨h, qe⟩
  case inr => exact .inr ⟨h.mono g1, fun H' g => qe _ (g1.trans g)⟩
  refine .inl ⟨l, vl, us, rfl, g1.seq hl, ru.mono g1, wf, l80, fun _ lu H2 vk nlu g2 eu rk => ?_, fun z => absurd b20 z⟩
  have hx2 := g2 _ _ hx1
  refine ⟨_, rfl, x, _, dx, _, rfl, hx2, T.C_Net, T.n_Net_units, (show 1 < 1000 by decide), ?_⟩
  have nux : lu ≠ x := Ne.symm (zk hx1 nlu)
  have hx3 : upd H2 x (.ins a.c_Net dx (putF "units" (.ref lu) [("many", .int (many : Int))])) x = some (.ins a.c_Net dx [("many", .int (many : Int)), ("units", .ref lu)]) := qz
  have g3 : Same H0 (upd H2 x (.ins a.c_Net dx (putF "units" (.ref lu) [("many", .int (many : Int))]))) := fun b u e => by rw [zK (nx e)]; exact g2 _ _ (g1 b u e)
  have eu3 : upd H2 x (.ins a.c_Net dx (putF "units" (.ref lu) [("many", .int (many : Int))])) lu = some (.lst vk) := by rw [zK nux]; exact eu
  have rk3 := UL.upd_ins (o := .ins a.c_Net dx (putF "units" (.ref lu) [("many", .int (many : Int))])) rk hx2
  generalize upd H2 x (.ins a.c_Net dx (putF "units" (.ref lu) [("many", .int (many : Int))])) = H3 at *
  clear g2 eu rk hx1 hx2 g1
  have lvk := UL.length rk3
  refine ⟨_, rfl, _, rfl, x, _, dx, _, _, rfl, hx3, T.C_Net, T.n_Net_many, rfl, _, rfl, x, _, dx, _, _, rfl, hx3, T.C_Net, T.n_Net_units, rfl, _, _, rfl, .inl (SqL.of eu3), _, _, rfl, rfl, vo, many + us.length, congrArg (fun z => [vo, V.int z]) (show (many : Int) + (vk.length : Int) = ((many + us.length : Nat) : Int) by omega), ?_⟩
  rcases h with ⟨m, outs, rfl, hm, o1, o12, ol, q⟩ | ⟨h, qe⟩
  case inr => exact .inr ⟨h.mono g3, fun H' g => qe _ (g3.trans g)⟩
  refine .inl ⟨m, outs, rfl, g3.seq hm, ol, o1, o12, fun lo hlo => ?_⟩
  have g4 := qk hlo (.lst (outV outs))
  have hx4 := g4 _ _ hx3
  have nox : lo ≠ x := Ne.symm (zk hx3 hlo)
  refine ⟨_, rfl, x, _, dx, _, rfl, hx4, T.C_Net, T.n_Net_outs, (show 2 < 1000 by decide), ?_⟩
  exact q lu lo vk _ (fun b u e => by rw [zK (nx e)]; exact g4 _ _ (g3 b u e)) ⟨dx, qz⟩ (by rw [zK nux]; exact g4 _ _ eu3) (by rw [zK nox]; exact qz) (UL.upd_ins (UL.mono rk3 g4) hx4)
def spToldU (K : PySem.W.Frag) : Sp := fun vs H Q _ => ∃ (v : V) (u : Un), vs = [v] ∧ UnAt true K H v u ∧ RetBy H Q fun H' v => UnN H K H' v u
theorem ok_told_unit (T : Txt K mg a) : FnOk P w K mg base CX0 1 a.f_told_unit a.d_told_unit ["unit"] (spToldU K) := by
  refine T.F_told_unit.ok sc_told_unit (fun vs H Q E h => ?_) (fun cdv A outer s H vs Q E hr h => ?_)
  · obtain ⟨_, _, rfl, _⟩ := h
    rfl
  obtain ⟨v, u, rfl, hu, q⟩ := h
  refine ⟨_, (qZ (ps_if (qK op_eq (pe_ix yz (pv 0) qw (fun _ _ => rfl)) qV (qY _))
        (qJ (zw (vq (pa_c qV (pa_c (pe_ix yz (pv 0) qw (fun _ _ => rfl)) (pa_c (y8 (call_list_of) rfl T.m_list boot_list (pa_c (pe_ix yz (pv 0) qw (fun _ _ => rfl)) qj) (he := qq rfl _ _) (hpl := qy rfl)) qj))))))
        zv)
      (qJ (zw (pv 0)))), ?_⟩
  cases u with
  | sum c ts =>
    obtain ⟨t, pc, pt, vs, rfl, h1, h2, h3, h4⟩ := hu
    refine ⟨_, rfl, _, _, _, _, rfl, rfl, h1, rfl, rfl, _, rfl, iteP rfl ?_⟩
    refine ⟨_, rfl, _, _, _, _, rfl, rfl, h1, rfl, _, rfl, _, _, _, _, rfl, rfl, h1, rfl, pt, vs, rfl, .inr h3, fun l2 hl2 => ⟨(show 3 ≤ sizeLine by decide), fun t2 ht2 => ?_⟩⟩
    have g1 := qk hl2 (.lst vs)
    have g2 := qk ht2 (.tup [.str "sum", .ref pc, .ref l2])
    have g := g1.trans g2
    exact q t2 _ g fun lf o e => ⟨t2, pc, l2, vs, rfl, SqT.of qz, g.tup h2, g2 _ _ qz, Ne.symm (zk e hl2), h4.mono g⟩
  | bend p =>
    obtain ⟨t, rfl, h1⟩ := hu
    refine ⟨_, rfl, _, _, _, _, rfl, rfl, h1, rfl, rfl, _, rfl, iteN (by decide) ?_⟩
    exact ⟨_, rfl, q t H (Same.refl _) fun lf o e => ⟨t, rfl, h1⟩⟩
def spNetTold (K : PySem.W.Frag) (C : Addr) : Sp := fun vs H Q _ => ∃ (p lu lo : Addr) (many : Nat) (vk : List V) (us : List Un) (outs : List Nat), vs = [.ref p] ∧ NetAt C H p lu lo many ∧ SqL K H lu vk ∧ UL true K H vk us ∧ us.length ≤ 80 ∧ SqL K H lo (outV outs) ∧ ∀ t l2 o2 vu H', Same H H' → SqT K H' t [.int (many : Int), .ref l2, .ref o2] → H l2 = none → H' l2 = some (.lst vu) → (∀ lf o, H lf = some o → UF lf K H' vu us) → H o2 = none → H' o2 = some (.lst (outV outs)) → Q (.ref t) H'
theorem ok_Net_told (T : Txt K mg a) : FnOk P w K mg base CX0 2 a.f_Net_told a.d_Net_told ["self"] (spNetTold K a.c_Net) := by
  refine T.F_Net_told.ok sc_Net_told (fun vs H Q E h => ?_) (fun cdv A outer s H vs Q E hr h => ?_)
  · obtain ⟨_, _, _, _, _, _, _, rfl, _⟩ := h
    rfl
  obtain ⟨p, lu, lo, many, vk, us, outs, rfl, ⟨dx, hp⟩, hu, rk, l80, ho, q⟩ := h
  refine ⟨_, (qJ (zw (vq (pa_c (pe_fld (pv 0) rfl) (pa_c (kj (N := ["unit"]) (ix := [none]) ⟨rfl, rfl, rfl, rfl, trivial, rfl, trivial⟩ rfl (jv (pe_fld (pv 0) rfl)) (fun _ => (zq (i := 0) (show (["unit"] : List Str).Nodup by decide +kernel) rfl (Or.inl rfl))) (fun _ σ => v7 rfl σ) (fun _ => yV) (fun _ => (qW (ok_told_unit T) (hr.mono (by decide)) rfl T.m_told_unit T.F_told_unit.kp T.b_told_unit .nil pass0 (pa_c (pv 0) qj) (he := qq rfl _ _) (hpl := qy rfl)))) (pa_c (y8 (call_list_of) rfl T.m_list boot_list (pa_c (pe_fld (pv 0) rfl) qj) (he := qq rfl _ _) (hpl := qy rfl)) qj)))))), ?_⟩
  have lk := rk.length
  refine ⟨_, rfl, p, _, dx, _, _, rfl, hp, T.C_Net, T.n_Net_many, rfl, _, rfl, p, _, dx, _, _, rfl, hp, T.C_Net, T.n_Net_units, rfl, lu, rfl, ⟨_, hu⟩, yk (n := us.length) (fun i ys H' => Same H H' ∧ ∀ lf o, H lf = some o → UF lf K H' ys (us.take i)) ⟨Same.refl _, fun lf o e => .nil⟩ (zW (by omega)) ?_ ?_ ?_⟩
  · rintro ys H1 ⟨g1, r1⟩
    rw [List.take_of_length_le (Nat.le_refl _)] at r1
    refine ⟨⟨_, g1.seq hu, by omega⟩, fun l2 hl2 => ?_⟩
    have g2 := qk hl2 (.lst ys)
    have gA := g1.trans g2
    refine ⟨_, rfl, p, _, dx, _, _, rfl, gA _ _ hp, T.C_Net, T.n_Net_outs, rfl, lo, _, rfl, .inl (gA.seq ho), fun o2 ho2 => ⟨(show 3 ≤ sizeLine by decide), fun t ht => ?_⟩⟩
    have g3 := qk ho2 (.lst (outV outs))
    have g4 := qk ht (.tup [.int (many : Int), .ref l2, .ref o2])
    have g34 := g3.trans g4
    exact q t l2 o2 ys _ (gA.trans g34) (SqT.of qz) (wQ g1 hl2) (g34 _ _ qz) (fun lf o e => (r1 lf o e).mono (g2.trans g34)) (wQ gA ho2) (g4 _ _ qz)
  · rintro i ys H' hi ⟨g, _⟩
    exact ⟨_, _, g.seq hu, List.getElem?_eq_getElem (by omega)⟩
  · rintro i m' ys H' cc x H2 hi ⟨g, r⟩ ⟨rfl, y1⟩ nx _
    obtain ⟨u0, eu, h0⟩ := rk.get (y1 _ (g.seq hu))
    refine Or.inl ⟨rfl, _, rfl, x, u0, rfl, h0.mono g, fun p3 H3 g3 e3 => nx _ _ ⟨g.trans g3, fun lf o e => ?_⟩⟩
    rw [zZ eu]
    exact UF.snoc ((r lf o e).mono g3) (e3 lf o (g _ _ e))
def ShrU : Un → Prop
  | .sum c ts => Shr c ∧ (∀ x ∈ ts, Shr x.2) ∧ ts.length ≤ 8
  | .bend _ => True
def spMixed : Sp := fun vs H Q _ => ∃ c k : Int, vs = [.int c, .int k] ∧ ∀ m : Int, 0 ≤ m → m < 429496716 → Q (.int m) H
theorem QV (T : Txt K mg a) : FnOk P w K mg base CX0 1 a.f_law_mixed a.d_law_mixed ["_law_cell", "_law_k"] spMixed := by
  refine T.F_law_mixed.ok Yk (fun vs H Q E h => ?_) (fun cdv A outer s H vs Q E hr h => ?_)
  · obtain ⟨_, _, rfl, _⟩ := h
    rfl
  obtain ⟨c, k, rfl, q⟩ := h
  refine ⟨_, (qZ (zj (i := 2) Yk.nd rfl (Or.inl rfl) (pe_op vv (pe_op j8 (pe_op j8 (pe_op vv (pv 0) qw) (pe_op ZZ qw (pv 1))) qw) qw))
      (qZ (zj (i := 2) Yk.nd rfl (Or.inl rfl) (pe_op vv (pe_op ZZ (pe_op j8 (pv 2) qw) (pe_op j8 (pe_op j8 (pv 2) qw) (pv 1))) qw))
      (qJ (zw (pe_op vz (pe_op vv (pe_op ZZ (pv 2) (pe_op j8 (pv 2) qw)) qw) qw))))), ?_⟩
  have pos : ∀ {m : Int}, (0 : Int) < m → ∀ x : Int, 0 ≤ x % m ∧ x % m < m := fun {m} h x => ⟨Int.emod_nonneg x (by omega), Int.emod_lt_of_pos x h⟩
  refine ⟨_, rfl, _, _, rfl, rfl, (by show (0 : Int) < 2147483647; decide), _, rfl, _, _, rfl, rfl, IntMulOk.of_left (by decide +kernel), _, _, rfl, rfl, _, _, rfl, rfl, _, _, rfl, rfl, (by show (0 : Int) < 2147483629; decide), ?_⟩
  dsimp only
  have b1 := pos (show (0 : Int) < 2147483629 by decide) (c % 2147483647 + 16807 * k + 7)
  generalize (c % 2147483647 + 16807 * k + 7) % 2147483629 = n1 at b1 ⊢
  refine ⟨_, rfl, _, _, rfl, rfl, _, rfl, _, _, rfl, rfl, _, rfl, _, _, rfl, rfl, _, _, rfl, rfl, IntMulOk.of_left (intBits_le_64 (by omega) (by omega)), _, _, rfl, rfl, (by show (0 : Int) < 2147483587; decide), ?_⟩
  dsimp only
  have b2 := pos (show (0 : Int) < 2147483587 by decide) ((n1 + 48271) * (n1 + 69621 + k))
  generalize ((n1 + 48271) * (n1 + 69621 + k)) % 2147483587 = n2 at b2 ⊢
  refine ⟨_, rfl, _, rfl, _, _, rfl, rfl, _, _, rfl, rfl, IntMulOk.of_left (intBits_le_64 (by omega) (by omega)), _, _, rfl, rfl, (by show (0 : Int) < 2147483579; decide), _, _, rfl, rfl, ⟨by decide, by decide +kernel⟩, ?_⟩
  dsimp only
  have b3 := pos (show (0 : Int) < 2147483579 by decide) (n2 * (n2 + 40692))
  generalize (n2 * (n2 + 40692)) % 2147483579 = n3 at b3 ⊢
  have e : n3.fdiv 5 = n3 / 5 := Int.fdiv_eq_ediv_of_nonneg _ (by decide)
  rw [e]
  exact q _ (by omega) (by omega)
theorem cut_ints (ns : List Int) (lo hi : Option Int) : ∃ ms : List Int, cutV (ns.map V.int) lo hi = ms.map V.int ∧ ms.length ≤ ns.length := by
  unfold cutV
  rw [← List.map_drop, ← List.map_take]
  refine ⟨_, rfl, ?_⟩
  rw [List.length_take, List.length_drop]
  omega
theorem int_at {zs : List Int} {i : Nat} {x : V} (h : (zs.map V.int)[i]? = some x) : ∃ z : Int, zs[i]? = some z ∧ x = .int z := by
  rw [List.getElem?_map] at h
  cases e : zs[i]? with
  | none => rw [e] at h; cases h
  | some z => rw [e] at h; exact ⟨z, rfl, (Option.some.inj h).symm⟩
def spCell (K : PySem.W.Frag) : Sp := fun vs H Q _ => ∃ (sa : Addr) (ns : List Int) (k : Nat), vs = [.ref sa, .int (k : Int)] ∧ SqL K H sa (ns.map V.int) ∧ ∀ c : Int, Q (.int c) H
theorem ok_law_cell_at (T : Txt K mg a) : FnOk P w K mg base CX0 1 a.f_law_cell_at a.d_law_cell_at ["_law_script", "_law_k"] (spCell K) := by
  refine T.F_law_cell_at.ok sc_law_cell_at (fun vs H Q E h => ?_) (fun cdv A outer s H vs Q E hr h => ?_)
  · obtain ⟨_, _, _, rfl, _⟩ := h
    rfl
  obtain ⟨sa, ns, k, rfl, hS, q⟩ := h
  refine ⟨_, (qZ (ps_if (qK op_lt (pv 1) (qX (zx) rfl T.m_len boot_len (pa_c (pv 0) qj) (he := qq rfl _ _) (hpl := qy rfl)) (qY _))
        (qJ (zw (pe_ix zV (pv 0) (pv 1) (fun _ _ => rfl))))
        zv)
      (qJ (zw qw))), ?_⟩
  refine ⟨_, rfl, _, rfl, _, _, rfl, .inl hS, _, _, rfl, rfl, _, rfl, iteD (fun c => ?_) (fun c => ?_)⟩
  · have hk : k < (ns.map V.int).length := by omega
    obtain ⟨x, ex⟩ : ∃ x, (ns.map V.int)[k]? = some x := ⟨_, List.getElem?_eq_getElem hk⟩
    obtain ⟨z, _, rfl⟩ := int_at ex
    exact ⟨_, rfl, _, rfl, sa, _, _, _, rfl, rfl, hS, atN ex, q z⟩
  · exact q 0
def spWide : Sp := fun vs H Q _ => ∃ c k : Int, vs = [.int c, .int k] ∧ ∀ v : Int, Q (.int v) H
theorem ok_law_wide (T : Txt K mg a) : FnOk P w K mg base CX0 2 a.f_law_wide a.d_law_wide ["_law_number", "_law_k"] spWide := by
  refine T.F_law_wide.ok Zk (fun vs H Q E h => ?_) (fun cdv A outer s H vs Q E hr h => ?_)
  · obtain ⟨_, _, rfl, _⟩ := h
    rfl
  obtain ⟨c, k, rfl, q⟩ := h
  refine ⟨_, (qZ (zj (i := 2) Zk.nd rfl (Or.inl rfl) qw)
      (qZ (Yv PassesOwn.never rfl (pi_range1 rfl T.m_range (pa_c qw qj)) (zq (i := 3) Zk.nd rfl (Or.inl rfl))
        (qJ (zj (i := 2) Zk.nd rfl (Or.inl rfl) (pe_op j8 (pe_op ZZ (pv 2) (pe_op YQ qw qw)) (pe_op vv (qW (QV T) (hr.mono (by decide)) rfl T.m_law_mixed T.F_law_mixed.kp T.b_law_mixed .nil pass0 (pa_c (pv 0) (pa_c (pe_op j8 (pe_op ZZ qw (pv 1)) (pv 3)) qj)) (he := qq rfl _ _) (hpl := qy rfl)) (pe_op YQ qw qw))))))
      (qJ (zw (pv 2))))), ?_⟩
  refine ⟨6, rfl, by decide, by decide, Z6 (n := 6) (fun i σ H' => H' = H ∧ ∃ (v : Int) (u : Option V), σ = [some (.int c), some (.int k), some (.int v), u]) ⟨rfl, _, _, rfl⟩ ?_ ?_ ?_⟩
  · rintro σ H' ⟨rfl, v, u, rfl⟩
    exact ⟨Nat.le_refl _, _, rfl, q v⟩
  · rintro i σ H' hi _
    exact hi
  · rintro i σ H' x H2 hi ⟨rfl, v, u, rfl⟩ ⟨rfl, rfl⟩
    refine ⟨_, rfl, _, _, rfl, rfl, ⟨by decide, by decide, by decide⟩, _, _, rfl, rfl, IntMulOk.of_right (by decide +kernel), _, rfl, _, rfl, _, _, rfl, rfl, IntMulOk.of_left (by decide +kernel), _, rfl, _, _, rfl, rfl, _, _, rfl, fun m m0 m1 => ?_⟩
    exact ⟨_, _, rfl, rfl, ⟨by decide, by decide, by decide⟩, _, _, rfl, rfl, (by show (0 : Int) < 10 ^ (8 : Int).toNat; decide), _, _, rfl, rfl, rfl, _, _, rfl⟩
def RetZ (H : Hp) (Q : VK) (n : Nat) : Prop := ∀ zs : List Int, zs.length = n → ∀ p H', H p = none → Same H H' → H' p = some (.lst (zs.map V.int)) → Q (.ref p) H'
def spSeeds (K : PySem.W.Frag) : Sp := fun vs H Q _ => ∃ (sa : Addr) (ns : List Int) (st n : Nat), vs = [.ref sa, .int (st : Int), .int (n : Int)] ∧ SqL K H sa (ns.map V.int) ∧ n ≤ 40 ∧ RetZ H Q n
abbrev wK (P w K mg base) (a : Adr) (cdv A outer s H E) := (cxOf CX0 P w K mg base ["_law_script", "_law_start", "_law_many", "_law_total", "_law_rest", "_law_at", "_law_cell", "_law_seeds_here", "_law_k"] "_law_seeds" (qQ j6) a.f_law_seeds cdv A outer s H E).nox
set_option maxHeartbeats 0 in
theorem ok_law_seeds (T : Txt K mg a) : FnOk P w K mg base CX0 3 a.f_law_seeds a.d_law_seeds ["_law_script", "_law_start", "_law_many"] (spSeeds K) := by
  refine T.F_law_seeds.ok v5 (fun vs H Q E h => ?_) (fun cdv A outer s H vs Q E hr h => ?_)
  · obtain ⟨_, _, _, _, rfl, _⟩ := h
    rfl
  obtain ⟨sa, ns, st, n, rfl, hS, n40, q⟩ := h
  have h0 : PS (wK P w K mg base a cdv A outer s H E) (bS j6 0) _ := (zj (i := 3) v5.nd rfl (Or.inl rfl) (qW (ok_law_cell_at T) (hr.mono (by decide)) rfl T.m_law_cell_at T.F_law_cell_at.kp T.b_law_cell_at .nil pass0 (pa_c (pv 0) (pa_c (pv 1) qj)) (he := qq rfl _ _) (hpl := qy rfl)))
  have h1 : PS (wK P w K mg base a cdv A outer s H E) (bS j6 1) _ := (zj (i := 4) v5.nd rfl (Or.inl rfl) qw)
  have h2 : PS (wK P w K mg base a cdv A outer s H E) (bS j6 2) _ := (ps_if (qK op_eq (pe_op vv (pv 3) qw) qw (qY _))
        (qJ (zj (i := 4) v5.nd rfl (Or.inl rfl) (pe_op vz (qX (Yq) rfl T.m_abs boot_abs (pa_c (pv 3) qj) (he := qq rfl _ _) (hpl := qy rfl)) qw)))
        zv)
  have h3 : PS (wK P w K mg base a cdv A outer s H E) (bS j6 3) _ := (Yv PassesOwn.never rfl (pi_enum rfl T.m_enumerate (pa_c (yj jZ (pv 0) (yw (pv 1)) jV) qj)) (wj rfl (zy (zq (i := 5) v5.nd rfl (Or.inl rfl)) (zy (zq (i := 6) v5.nd rfl (Or.inl rfl)) v6)))
        (qJ (zj (i := 3) v5.nd rfl (Or.inl rfl) (pe_op vv (pe_op j8 (pe_op ZZ (pv 3) qw) (qW (QV T) (hr.mono (by decide)) rfl T.m_law_mixed T.F_law_mixed.kp T.b_law_mixed .nil pass0 (pa_c (pv 6) (pa_c (pv 5) qj)) (he := qq rfl _ _) (hpl := qy rfl))) qw))))
  have h4 : PS (wK P w K mg base a cdv A outer s H E) (bS j6 4) _ := (zj (i := 7) v5.nd rfl (Or.inl rfl) (jj qj))
  have h5 : PS (wK P w K mg base a cdv A outer s H E) (bS j6 5) _ := (Yv PassesOwn.never rfl (pi_range1 rfl T.m_range (pa_c (pv 2) qj)) (zq (i := 8) v5.nd rfl (Or.inl rfl))
        (qZ (ps_if (qK op_gt (pv 4) (pe_op YQ qw qw) (qY _))
        (qJ (ZQ (pe_bm PySem.F.plainAttrs_list PySem.F.slot_list_append PySem.F.type_list_append xX (pv 7) (pa_c (pe_op vv (pv 4) (pe_op YQ qw qw)) qj) (hs := qq rfl _ _) (hplain := qy rfl))))
        (qJ (ZQ (pe_bm PySem.F.plainAttrs_list PySem.F.slot_list_append PySem.F.type_list_append xX (pv 7) (pa_c (qW (ok_law_wide T) (hr.mono (by decide)) rfl T.m_law_wide T.F_law_wide.kp T.b_law_wide .nil pass0 (pa_c (pe_op j8 (pv 3) (pe_op ZZ qw (pv 8))) (pa_c (pv 8) qj)) (he := qq rfl _ _) (hpl := qy rfl)) qj) (hs := qq rfl _ _) (hplain := qy rfl)))))
      (qJ (zj (i := 4) v5.nd rfl (Or.inl rfl) (pe_op vz (pv 4) (pe_op YQ qw qw))))))
  have h6 : PS (wK P w K mg base a cdv A outer s H E) (bS j6 6) _ := (zw (pv 7))
  refine ⟨_, body7 (by rfl) h0 h1 h2 h3 h4 h5 h6, ?_⟩
  clear h0 h1 h2 h3 h4 h5 h6
  refine ⟨_, rfl, _, rfl, sa, ns, st, rfl, hS, fun c => ?_⟩
  refine ⟨_, rfl, _, _, rfl, rfl, (by show (0 : Int) < 3; decide), rfl, _, rfl, iteD (fun _ => ⟨_, rfl, _, rfl, _, _, rfl, rfl, ⟨by decide, by decide +kernel⟩, ?_⟩) (fun _ => ?_)⟩
  all_goals
    refine ⟨_, rfl, _, rfl, _, rfl, _, _, rfl, hS, fun c2 hc2 => ?_⟩
    obtain ⟨ks, ek, hk⟩ := cut_ints ns (some (st : Int)) none
    rw [ek]
    have g0 := qk hc2 (.lst (ks.map V.int))
    refine ⟨c2, rfl, ⟨_, SqL.of qz⟩, Z6 (n := ks.length) (fun i σ H1 => Same H H1 ∧ H1 c2 = some (.lst (ks.map V.int)) ∧ ∃ (t r : Int) (u5 u6 : Option V), σ = [some (.ref sa), some (.int (st : Int)), some (.int (n : Int)), some (.int t), some (.int r), u5, u6, none, none])
      ⟨g0, qz, _, _, _, _, rfl⟩ ?_ ?_ ?_⟩
    case refine_2 =>
      rintro i σ H1 hi ⟨_, e2, _⟩
      exact ⟨_, _, SqL.of e2, List.getElem?_eq_getElem (by rw [List.length_map]; omega)⟩
    case refine_3 =>
      rintro i σ H1 x H2 hi ⟨g, e2, t, r, u5, u6, rfl⟩ ⟨p, x2, hp, rfl, rfl, y1⟩
      obtain ⟨ci, hci, rfl⟩ := int_at (y1 _ (SqL.of e2))
      have g3 := qk hp (.tup [.int (i : Int), .int ci])
      refine ⟨p, _, rfl, SqT.of qz, rfl, _, _, rfl, _, _, rfl, rfl, ?_⟩
      refine ⟨_, rfl, _, _, rfl, rfl, IntMulOk.of_right (by decide +kernel), _, rfl, _, rfl, _, _, rfl, fun v v0 v1 => ?_⟩
      exact ⟨_, _, rfl, rfl, _, _, rfl, rfl, (by show (0 : Int) < 999999999989; decide), g.trans g3, g3 _ _ e2, _, _, _, _, rfl⟩
    rintro σ H1 ⟨g, e2, t, r, u5, u6, rfl⟩
    refine ⟨⟨_, SqL.of e2, by rw [List.length_map]; exact Nat.le_refl _⟩, ?_⟩
    refine ⟨(by decide), fun ls hls => ?_⟩
    have nls : H ls = none := wQ g hls
    have g1 := qk hls (.lst [])
    refine ⟨_, rfl, _, rfl, by omega, by omega, Z6 (n := n) (fun i σ H2 => Same H H2 ∧ ∃ (zs : List Int) (r : Int) (u8 : Option V), zs.length = i ∧ H2 ls = some (.lst (zs.map V.int)) ∧ σ = [some (.ref sa), some (.int (st : Int)), some (.int (n : Int)), some (.int t), some (.int r), u5, u6, some (.ref ls), u8])
      ⟨g.trans g1, [], _, _, rfl, qz, rfl⟩ ?_ ?_ ?_⟩
    case refine_1 =>
      rintro σ H2 ⟨g2, zs, r, u8, ez, el, rfl⟩
      exact ⟨by show _ ≤ n; omega, _, rfl, q zs ez ls H2 nls g2 el⟩
    case refine_2 =>
      rintro i σ H2 hi _
      show i < _
      omega
    rintro i σ H2 x H3 hi ⟨g2, zs, r, u8, ez, el, rfl⟩ ⟨rfl, rfl⟩
    have lz : (zs.map V.int).length < sizeLine := by rw [List.length_map]; exact zW (by omega)
    have ap : ∀ v : Int, zs.map V.int ++ [V.int v] = (zs ++ [v]).map V.int := fun v => by rw [List.map_append]; rfl
    refine ⟨_, rfl, _, _, rfl, rfl, ⟨by decide, by decide, by decide⟩, _, _, rfl, rfl, _, rfl, iteD (fun _ => ?_) (fun _ => ?_)⟩
    · refine ⟨_, rfl, .inl ⟨rfl, _, SqL.of el⟩, _, rfl, _, _, rfl, rfl, ⟨by decide, by decide, by decide⟩, _, _, rfl, rfl, (by show (0 : Int) < 10 ^ (48 : Int).toNat; decide), ls, _, _, rfl, rfl, el, lz, ?_⟩
      refine ⟨_, rfl, _, _, rfl, rfl, ⟨by decide, by decide, by decide⟩, _, _, rfl, rfl, ⟨by decide, by decide +kernel⟩, g2.laid nls _, zs ++ [r % 10 ^ (48 : Int).toNat], _, _, ?_, ?_, rfl⟩
      · rw [List.length_append, ez]; rfl
      · rw [qz]; exact congrArg (fun z => some (HO.lst z)) (ap _)
    · refine ⟨_, rfl, .inl ⟨rfl, _, SqL.of el⟩, _, rfl, _, rfl, _, _, rfl, rfl, IntMulOk.of_left (by decide +kernel), _, _, rfl, rfl, _, rfl, _, _, rfl, fun v => ⟨ls, _, _, rfl, rfl, el, lz, ?_⟩⟩
      refine ⟨_, rfl, _, _, rfl, rfl, ⟨by decide, by decide, by decide⟩, _, _, rfl, rfl, ⟨by decide, by decide +kernel⟩, g2.laid nls _, zs ++ [v], _, _, ?_, ?_, rfl⟩
      · rw [List.length_append, ez]; rfl
      · rw [qz]; exact congrArg (fun z => some (HO.lst z)) (ap v)
def spPart : Sp := fun vs H Q _ => ∃ t b : Int, vs = [.int t, .int b] ∧ 0 < b ∧ Sm 8000 b ∧ RetT H Q (T2 (nt t b) (nb t b))
theorem ok_law_part (T : Txt K mg a) : FnOk P w K mg base CX0 1 a.f_law_part a.d_law_part ["_law_top", "_law_bottom"] spPart := by
  refine T.F_law_part.ok Zw (fun vs H Q E h => ?_) (fun cdv A outer s H vs Q E hr h => ?_)
  · obtain ⟨_, _, rfl, _⟩ := h
    rfl
  obtain ⟨t, b, rfl, hb, hs, q⟩ := h
  refine ⟨_, (qZ (zj (i := 2) Zw.nd rfl (Or.inl rfl) (qX (Yq) rfl T.m_abs boot_abs (pa_c (pv 0) qj) (he := qq rfl _ _) (hpl := qy rfl)))
      (qZ (zj (i := 3) Zw.nd rfl (Or.inl rfl) (pv 1))
      (qZ (ps_while PassesOwn.never (qK op_gt (pv 2) qw (qY _))
        (qJ (ps_par (i := 2) (j := 3) rfl Zw.nd rfl rfl (by decide) rfl rfl (pa_c (pe_op vv (pv 3) (pv 2)) (pa_c (pv 2) qj)) rfl)))
      (qJ (zw (vq (pa_c (pe_op vz (pv 0) (pv 3)) (pa_c (pe_op vz (pv 1) (pv 3)) qj)))))))), ?_⟩
  have d1 := divB (t := t) (show b ≠ 0 by omega) hs
  refine ⟨_, rfl, _, rfl, ?_⟩
  refine ⟨_, rfl, ?_⟩
  refine while_by (fun σ H' => H' = H ∧ ∃ (r y : Int), σ = [some (.int t), some (.int b), some (.int r), some (.int y)] ∧ 0 ≤ r ∧ 0 ≤ y ∧ Int.gcd y r = Int.gcd b (if t < 0 then -t else t))
    (fun σ _ => match σ with | [_, _, some (.int r), _] => r.toNat | _ => 0) ⟨rfl, _, _, rfl, abs_nn _, by omega, rfl⟩ ?_ ?_
  · rintro σ H' ⟨rfl, r, y, rfl, hr', hy, hg⟩
    refine ⟨_, rfl, _, _, rfl, rfl, _, rfl, iteD (fun c => ?_) (fun c => ?_)⟩
    · refine ⟨_, rfl, _, rfl, _, _, rfl, rfl, c, _, rfl, _, _, rfl, ?_⟩
      refine ⟨⟨rfl, y % r, r, rfl, Int.emod_nonneg _ (by omega), hr', gcd_step.trans hg⟩, ?_⟩
      have := Int.emod_lt_of_pos y c
      have := Int.emod_nonneg y (show r ≠ 0 by omega)
      show (y % r).toNat < r.toNat
      omega
    · have e : r = 0 := by omega
      subst e
      have e2 : y = sg t b := by
        rw [← gcd_end hy, hg]
        unfold sg
        rw [if_neg (show ¬ b < 0 by omega), Int.gcd_comm]
        split <;> simp [Int.neg_gcd]
      subst e2
      exact ⟨_, rfl, _, rfl, _, _, rfl, rfl, d1, _, rfl, _, rfl, _, _, rfl, rfl, d1, j0, fun p hp => q.new hp⟩
  · rintro σ H' Q1 Q2 hq ⟨v, e, i, j, e1, e2, k, ek, q1⟩
    exact ⟨v, e, i, j, e1, e2, k, ek, hq _ _ q1⟩
def spTaken (K : PySem.W.Frag) : Sp := fun vs H Q _ => ∃ (n : Int) (g : Bool), vs = [.int n, .bl g] ∧ ∀ (n' : Int) (q : Rat) (t r : Addr) (H' : Hp), Shr q → Same H H' → SqT K H' t [.int n', .ref r] → SqT K H' r (TQ q) → Q (.ref t) H'
theorem six_at {y : Int} (h0 : 0 ≤ y) (h6 : y < 6) : ∃ m : Nat, (m = 1 ∨ m = 2 ∨ m = 3 ∨ m = 4 ∨ m = 7 ∨ m = 1000000000) ∧ atI [V.int 1, V.int 1, V.int 1, V.int 2, V.int 3, V.int 4] y = some (.int (m : Int)) := by
  have c : y = 0 ∨ y = 1 ∨ y = 2 ∨ y = 3 ∨ y = 4 ∨ y = 5 := by omega
  rcases c with c | c | c | c | c | c <;> subst c
  · exact ⟨1, by decide, rfl⟩
  · exact ⟨1, by decide, rfl⟩
  · exact ⟨1, by decide, rfl⟩
  · exact ⟨2, by decide, rfl⟩
  · exact ⟨3, by decide, rfl⟩
  · exact ⟨4, by decide, rfl⟩
theorem three_at {y : Int} (h0 : 0 ≤ y) (h3 : y < 3) : ∃ m : Nat, (m = 1 ∨ m = 2 ∨ m = 3 ∨ m = 4 ∨ m = 7 ∨ m = 1000000000) ∧ atI [V.int 1, V.int 7, V.int 1000000000] y = some (.int (m : Int)) := by
  have c : y = 0 ∨ y = 1 ∨ y = 2 := by omega
  rcases c with c | c | c <;> subst c
  · exact ⟨1, by decide, rfl⟩
  · exact ⟨7, by decide, rfl⟩
  · exact ⟨1000000000, by decide, rfl⟩
theorem part_tq {K : PySem.W.Frag} {H : Hp} {p : Addr} {t : Int} {m : Nat} (hm : m = 1 ∨ m = 2 ∨ m = 3 ∨ m = 4 ∨ m = 7 ∨ m = 1000000000) (e : H p = some (.tup (T2 (nt t m) (nb t m)))) : SqT K H p (TQ (Rat.divInt t m)) := by
  have en := n_rat (t := t) (b := (m : Int)) (by omega)
  unfold TQ
  rw [← en.1, ← en.2]
  exact SqT.of e
theorem Sm.few {m : Nat} (hm : m = 1 ∨ m = 2 ∨ m = 3 ∨ m = 4 ∨ m = 7 ∨ m = 1000000000) : Sm 8000 (m : Int) := Sm.mono (m := 64) (by unfold Sm; omega) (by decide)
abbrev Z0 (P w K mg base) (a : Adr) (cdv A outer s H E) := (cxOf CX0 P w K mg base ["_law_number", "_law_great", "_law_top", "_law_way", "_law_far", "_law_tail"] "_law_taken" (qQ v9) a.f_law_taken cdv A outer s H E).nox
set_option maxHeartbeats 0 in
theorem ok_law_taken (T : Txt K mg a) : FnOk P w K mg base CX0 2 a.f_law_taken a.d_law_taken ["_law_number", "_law_great"] (spTaken K) := by
  refine T.F_law_taken.ok vj (fun vs H Q E h => ?_) (fun cdv A outer s H vs Q E hr h => ?_)
  · obtain ⟨_, _, rfl, _⟩ := h
    rfl
  obtain ⟨n, gr, rfl, q⟩ := h
  have h0 : PS (Z0 P w K mg base a cdv A outer s H E) (bS v9 0) _ := (xx (qX (vy) rfl T.m_divmod boot_divmod (pa_c (pv 0) (pa_c qw qj)) (he := qq rfl _ _) (hpl := qy rfl)) (wj rfl (zy (zq (i := 0) vj.nd rfl (Or.inl rfl)) (zy (zq (i := 2) vj.nd rfl (Or.inl rfl)) v6))))
  have h1 : PS (Z0 P w K mg base a cdv A outer s H E) (bS v9 1) _ := (xx (qX (vy) rfl T.m_divmod boot_divmod (pa_c (pv 0) (pa_c qw qj)) (he := qq rfl _ _) (hpl := qy rfl)) (wj rfl (zy (zq (i := 0) vj.nd rfl (Or.inl rfl)) (zy (zq (i := 3) vj.nd rfl (Or.inl rfl)) v6))))
  have h2 : PS (Z0 P w K mg base a cdv A outer s H E) (bS v9 2) _ := (ps_if (jz (pv 1))
        (qZ (xx (qX (vy) rfl T.m_divmod boot_divmod (pa_c (pv 0) (pa_c qw qj)) (he := qq rfl _ _) (hpl := qy rfl)) (wj rfl (zy (zq (i := 0) vj.nd rfl (Or.inl rfl)) (zy (zq (i := 4) vj.nd rfl (Or.inl rfl)) v6))))
      (qJ (ps_if (qK op_eq (pv 4) qw (qY _))
        (qZ (xx (qX (vy) rfl T.m_divmod boot_divmod (pa_c (pv 0) (pa_c (pe_op YQ qw qw) qj)) (he := qq rfl _ _) (hpl := qy rfl)) (wj rfl (zy (zq (i := 0) vj.nd rfl (Or.inl rfl)) (zy (zq (i := 5) vj.nd rfl (Or.inl rfl)) v6))))
      (qJ (zw (vq (pa_c (pv 0) (pa_c (qW (ok_law_part T) (hr.mono (by decide)) rfl T.m_law_part T.F_law_part.kp T.b_law_part .nil pass0 (pa_c (pe_op j8 (pe_op ZZ (pe_op op_sub (pv 2) qw) (pe_op YQ qw qw)) (pv 5)) (pa_c (pe_ix zV (jj (pa_c qw (pa_c qw (pa_c (pe_op YQ qw qw) qj)))) (pe_op vv (pv 3) qw) (fun _ _ => rfl)) qj)) (he := qq rfl _ _) (hpl := qy rfl)) qj))))))
        zv)))
        zv)
  have h3 : PS (Z0 P w K mg base a cdv A outer s H E) (bS v9 3) _ := (zw (vq (pa_c (pv 0) (pa_c (qW (ok_law_part T) (hr.mono (by decide)) rfl T.m_law_part T.F_law_part.kp T.b_law_part .nil pass0 (pa_c (pe_op op_sub (pv 2) qw) (pa_c (pe_ix zV (jj (pa_c qw (pa_c qw (pa_c qw (pa_c qw (pa_c qw (pa_c qw qj))))))) (pv 3) (fun _ _ => rfl)) qj)) (he := qq rfl _ _) (hpl := qy rfl)) qj))))
  refine ⟨_, body4 (by rfl) h0 h1 h2 h3, ?_⟩
  clear h0 h1 h2 h3
  refine ⟨_, rfl, _, _, rfl, ⟨by decide, by decide⟩, fun p1 h1 => ⟨p1, _, rfl, SqT.of qz, rfl, _, _, rfl, _, _, rfl, rfl, ?_⟩⟩
  have g1 := qk h1 (.tup [.int (n / 13), .int (n % 13)])
  generalize upd H p1 (.tup [.int (n / 13), .int (n % 13)]) = H1 at *
  refine ⟨_, rfl, _, _, rfl, ⟨by decide, by decide⟩, fun p2 h2 => ⟨p2, _, rfl, SqT.of qz, rfl, _, _, rfl, _, _, rfl, rfl, ?_⟩⟩
  have g2 := g1.trans (qk h2 (.tup [.int (n / 13 / 6), .int (n / 13 % 6)]))
  generalize upd H1 p2 (.tup [.int (n / 13 / 6), .int (n / 13 % 6)]) = H2 at *
  have a0 : 0 ≤ n % 13 := Int.emod_nonneg _ (by decide)
  have a1 : n % 13 < 13 := Int.emod_lt_of_pos _ (by decide)
  have b0 : 0 ≤ n / 13 % 6 := Int.emod_nonneg _ (by decide)
  have b1 : n / 13 % 6 < 6 := Int.emod_lt_of_pos _ (by decide)
  generalize n % 13 = x at *
  generalize n / 13 % 6 = y at *
  generalize n / 13 / 6 = n2 at *
  clear h1 h2 g1
  obtain ⟨m6, hm6, at6⟩ := six_at b0 b1
  refine ⟨_, rfl, _, rfl, ?_⟩
  cases gr with
  | false =>
    refine iteF ?_
    refine ⟨_, rfl, _, rfl, _, _, rfl, rfl, (show 6 ≤ sizeLine by decide), fun l hl => ⟨_, rfl, l, _, _, _, rfl, rfl, SqL.of qz, at6, _, _, rfl, by omega, Sm.few hm6, fun p5 H5 g5 e5 => ⟨j0, fun t ht => ?_⟩⟩⟩
    have g6 := qk ht (.tup [.int n2, .ref p5])
    exact q n2 _ t p5 _ (shr_part hm6 (by omega)) (g2.trans ((qk hl _).trans (g5.trans g6))) (SqT.of qz) (g6.tup (part_tq hm6 e5))
  | true =>
    refine iteT ?_
    refine ⟨_, rfl, _, _, rfl, ⟨by decide, by decide⟩, fun p3 h3 => ⟨p3, _, rfl, SqT.of qz, rfl, _, _, rfl, _, _, rfl, rfl, ?_⟩⟩
    have g3 := g2.trans (qk h3 (.tup [.int (n2 / 3), .int (n2 % 3)]))
    generalize upd H2 p3 (.tup [.int (n2 / 3), .int (n2 % 3)]) = H3 at *
    refine ⟨_, rfl, rfl, _, rfl, iteD (fun _ => ?_) (fun _ => ?_)⟩
    · refine ⟨_, rfl, _, _, rfl, rfl, ⟨by decide, by decide, by decide⟩, _, _, rfl, ⟨by decide, by decide⟩, fun p4 h4 => ⟨p4, _, rfl, SqT.of qz, rfl, _, _, rfl, _, _, rfl, rfl, ?_⟩⟩
      have e9 : (10 : Int) ^ (9 : Int).toNat = 1000000000 := by decide
      have g4 := g3.trans (qk h4 (.tup [.int (n2 / 3 / 10 ^ (9 : Int).toNat), .int (n2 / 3 % 10 ^ (9 : Int).toNat)]))
      dsimp only
      generalize upd H3 p4 (.tup [.int (n2 / 3 / 10 ^ (9 : Int).toNat), .int (n2 / 3 % 10 ^ (9 : Int).toNat)]) = H4 at *
      have c0 : 0 ≤ n2 / 3 % 10 ^ (9 : Int).toNat := Int.emod_nonneg _ (by decide)
      have c1 : n2 / 3 % 10 ^ (9 : Int).toNat < 1000000000 := Int.emod_lt_of_pos _ (by decide)
      generalize n2 / 3 % 10 ^ (9 : Int).toNat = z at *
      generalize n2 / 3 / 10 ^ (9 : Int).toNat = n4 at *
      obtain ⟨m3, hm3, at3⟩ := three_at (y := y % 3) (Int.emod_nonneg _ (by decide)) (Int.emod_lt_of_pos _ (by decide))
      refine ⟨_, rfl, _, rfl, _, _, rfl, rfl, _, _, rfl, rfl, ⟨by decide, by decide, by decide⟩, _, _, rfl, rfl, IntMulOk.of_left (intBits_le_64 (by omega) (by omega)), _, rfl, _, _, rfl, rfl, _, _, rfl, rfl, ⟨by decide, by decide, by decide⟩, (show 3 ≤ sizeLine by decide), fun l hl => ?_⟩
      have e18 : (10 : Int) ^ (18 : Int).toNat = 1000000000000000000 := by decide
      refine ⟨_, rfl, _, _, rfl, rfl, (by show (0 : Int) < 3; decide), l, _, _, _, rfl, rfl, SqL.of qz, at3, _, _, rfl, by omega, Sm.few hm3, fun p5 H5 g5 e5 => ⟨j0, fun t ht => ?_⟩⟩
      have g6 := qk ht (.tup [.int n4, .ref p5])
      exact q n4 _ t p5 _ (shr_part hm3 (by rw [e18]; omega)) (g4.trans ((qk hl _).trans (g5.trans g6))) (SqT.of qz) (g6.tup (part_tq hm3 e5))
    · refine ⟨_, rfl, _, rfl, _, _, rfl, rfl, (show 6 ≤ sizeLine by decide), fun l hl => ⟨_, rfl, l, _, _, _, rfl, rfl, SqL.of qz, at6, _, _, rfl, by omega, Sm.few hm6, fun p5 H5 g5 e5 => ⟨j0, fun t ht => ?_⟩⟩⟩
      have g6 := qk ht (.tup [.int (n2 / 3), .ref p5])
      exact q (n2 / 3) _ t p5 _ (shr_part hm6 (by omega)) (g3.trans ((qk hl _).trans (g5.trans g6))) (SqT.of qz) (g6.tup (part_tq hm6 e5))
def spSmall (K : PySem.W.Frag) : Sp := fun vs H Q _ => ∃ (n : Int) (g : Bool), vs = [.int n, .bl g] ∧ ∀ (q : Rat) (r : Addr) (H' : Hp), Shr q → Same H H' → SqT K H' r (TQ q) → Q (.ref r) H'
theorem ok_law_small (T : Txt K mg a) : FnOk P w K mg base CX0 3 a.f_law_small a.d_law_small ["_law_number", "_law_great"] (spSmall K) := by
  refine T.F_law_small.ok sc_law_small (fun vs H Q E h => ?_) (fun cdv A outer s H vs Q E hr h => ?_)
  · obtain ⟨_, _, rfl, _⟩ := h
    rfl
  obtain ⟨n, gr, rfl, q⟩ := h
  refine ⟨_, (qJ (zw (pe_ix yz (qW (ok_law_taken T) (hr.mono (by decide)) rfl T.m_law_taken T.F_law_taken.kp T.b_law_taken .nil pass0 (pa_c (pv 0) (pa_c (pv 1) qj)) (he := qq rfl _ _) (hpl := qy rfl)) qw (fun _ _ => rfl)))), ?_⟩
  exact ⟨_, rfl, _, rfl, n, gr, rfl, fun n' x t r H' sx g ht hr' => ⟨t, _, _, _, rfl, rfl, ht, rfl, q x r H' sx g hr'⟩⟩
theorem cutNN {vs : List V} {i j : Nat} (hi : i ≤ vs.length) (hj : j ≤ vs.length) : cutV vs (some (i : Int)) (some (j : Int)) = (vs.drop i).take (j - i) := by
  unfold cutV
  rw [HT.sIx_nat, HT.sIx_nat, Nat.min_eq_left hi, Nat.min_eq_left hj]
theorem outV_get {ls : List Nat} {k : Nat} {m : Nat} (h : ls[k]? = some m) : (outV ls)[k]? = some (.int (m : Int)) := by unfold outV; rw [List.getElem?_map, h]; rfl
theorem outV_len (ls : List Nat) : (outV ls).length = ls.length := by unfold outV; rw [List.length_map]
theorem map_erase {α β : Type} (f : α → β) : ∀ (l : List α) (k : Nat), (l.map f).eraseIdx k = (l.eraseIdx k).map f
  | [], _ => rfl
  | _ :: _, 0 => rfl
  | x :: xs, k + 1 => by
    show f x :: (xs.map f).eraseIdx k = f x :: (xs.eraseIdx k).map f
    rw [map_erase f xs k]
theorem outV_erase (ls : List Nat) (k : Nat) : (outV ls).eraseIdx k = outV (ls.eraseIdx k) := map_erase _ ls k
theorem YV : ∀ {l : List Nat} {k m : Nat}, l[k]? = some m → (m :: l.eraseIdx k).Perm l
  | [], _, _, h => by simp at h
  | x :: xs, 0, m, h => by
    have e : x = m := by simpa using h
    subst e
    exact List.Perm.refl _
  | x :: xs, k + 1, m, h => by
    have z := YV (l := xs) (k := k) (m := m) (by simpa using h)
    show (m :: x :: xs.eraseIdx k).Perm (x :: xs)
    exact (List.Perm.swap x m _).trans (List.Perm.cons x z)
theorem seqIx {k n : Nat} (h : k < n) : seqIndex? (k : Int) n = some k := by
  unfold seqIndex?
  first
    | (simp; omega)
    | (simp [h]; done)
    | (rw [if_neg (by omega)]; simp [h])
theorem TL.upd_lst {K : PySem.W.Frag} {H : Hp} {t : Addr} {vs ys : List V} {ts : List (Nat × Rat)} {o : HO} (h : TL K H vs ts) (e : H t = some (.lst ys)) : TL K (upd H t o) vs ts :=
  Paired.mapP h fun _ _ ⟨t, r, e1, k1, k2⟩ => ⟨t, r, e1, SqT.upd_lst k1 e, SqT.upd_lst k2 e⟩
def spUnitL (K : PySem.W.Frag) : Sp := fun vs H Q _ => ∃ (n : Int) (pl : Nat) (b g : Bool), vs = [.int n, .int (pl : Int), .bl b, .bl g] ∧ 1 ≤ pl ∧ pl ≤ 30 ∧ ∀ u, WfU pl u → ShrU u → RetBy H Q fun H' v => UnN H K H' v u
abbrev kK (P w K mg base) (a : Adr) (cdv A outer s H E) := (cxOf CX0 P w K mg base ["_law_number", "_law_places", "_law_bent", "_law_great", "_law_kind", "_law_way", "_law_more", "_law_left", "_law_terms", "_law_k", "_law_coin", "_law_spot", "_law_share"] "_law_unit" (qQ jX) a.f_law_unit cdv A outer s H E).nox
set_option maxHeartbeats 0 in
theorem ok_law_unit (T : Txt K mg a) : FnOk P w K mg base CX0 4 a.f_law_unit a.d_law_unit ["_law_number", "_law_places", "_law_bent", "_law_great"] (spUnitL K) := by
  refine T.F_law_unit.ok yv (fun vs H Q E h => ?_) (fun cdv A outer s H vs Q E hr h => ?_)
  · obtain ⟨_, _, _, _, rfl, _⟩ := h
    rfl
  obtain ⟨n, pl, b, gr, rfl, p1, p30, q⟩ := h
  have h0 : PS (kK P w K mg base a cdv A outer s H E) (bS jX 0) _ := (xx (qX (vy) rfl T.m_divmod boot_divmod (pa_c (pv 0) (pa_c qw qj)) (he := qq rfl _ _) (hpl := qy rfl)) (wj rfl (zy (zq (i := 0) yv.nd rfl (Or.inl rfl)) (zy (zq (i := 4) yv.nd rfl (Or.inl rfl)) v6))))
  have h1 : PS (kK P w K mg base a cdv A outer s H E) (bS jX 1) _ := (ps_if (PW.pt (Y2 (qK op_lt (pv 4) qw (qY _)) (Qv (jz (pv 2)))))
        (qZ (xx (qX (vy) rfl T.m_divmod boot_divmod (pa_c (pv 0) (pa_c qw qj)) (he := qq rfl _ _) (hpl := qy rfl)) (wj rfl (zy (zq (i := 0) yv.nd rfl (Or.inl rfl)) (zy (zq (i := 5) yv.nd rfl (Or.inl rfl)) v6))))
      (qJ (zw (vq (pa_c qV (pa_c (pe_ix zV (jj (pa_c (pe_op vv (pv 0) (pv 1)) (pa_c (pe_op op_sub (pv 1) qw) qj))) (y8 (xW) rfl T.m_int boot_int (pa_c (kv op_gt (pv 5) qw (qY _)) qj) (he := qq rfl _ _) (hpl := qy rfl)) (fun _ _ => rfl)) qj))))))
        zv)
  have h2 : PS (kK P w K mg base a cdv A outer s H E) (bS jX 2) _ := (xx (qX (vy) rfl T.m_divmod boot_divmod (pa_c (pv 0) (pa_c qw qj)) (he := qq rfl _ _) (hpl := qy rfl)) (wj rfl (zy (zq (i := 0) yv.nd rfl (Or.inl rfl)) (zy (zq (i := 6) yv.nd rfl (Or.inl rfl)) v6))))
  have h3 : PS (kK P w K mg base a cdv A outer s H E) (bS jX 3) _ := (zj (i := 7) yv.nd rfl (Or.inl rfl) (y8 (call_list_rng rfl) rfl T.m_list boot_list (pa_c (y8 (call_range1) rfl T.m_range boot_range (pa_c (pv 1) qj) (he := qq rfl _ _) (hpl := qy rfl)) qj) (he := qq rfl _ _) (hpl := qy rfl)))
  have h4 : PS (kK P w K mg base a cdv A outer s H E) (bS jX 4) _ := (zj (i := 8) yv.nd rfl (Or.inl rfl) (jj qj))
  have h5 : PS (kK P w K mg base a cdv A outer s H E) (bS jX 5) _ := (Yv PassesOwn.never rfl (pi_range1 rfl T.m_range (pa_c (qX (call_min2 rfl) rfl T.m_min boot_min (pa_c (pv 1) (pa_c (pe_op j8 qw (pv 6)) qj)) (he := qq rfl _ _) (hpl := qy rfl)) qj)) (zq (i := 9) yv.nd rfl (Or.inl rfl))
        (qZ (xx (qX (vy) rfl T.m_divmod boot_divmod (pa_c (pv 0) (pa_c qw qj)) (he := qq rfl _ _) (hpl := qy rfl)) (wj rfl (zy (zq (i := 0) yv.nd rfl (Or.inl rfl)) (zy (zq (i := 10) yv.nd rfl (Or.inl rfl)) v6))))
      (qZ (xx (qX (vy) rfl T.m_divmod boot_divmod (pa_c (pv 0) (pa_c (qX (zx) rfl T.m_len boot_len (pa_c (pv 7) qj) (he := qq rfl _ _) (hpl := qy rfl)) qj)) (he := qq rfl _ _) (hpl := qy rfl)) (wj rfl (zy (zq (i := 0) yv.nd rfl (Or.inl rfl)) (zy (zq (i := 11) yv.nd rfl (Or.inl rfl)) v6))))
      (qZ (ps_if (PW.pt (Y2 (qK op_eq (pv 9) qw (qY _)) (Qv (qK op_eq (pv 10) qw (qY _)))))
        (qJ (zj (i := 11) yv.nd rfl (Or.inl rfl) (pe_op op_sub (qX (zx) rfl T.m_len boot_len (pa_c (pv 7) qj) (he := qq rfl _ _) (hpl := qy rfl)) qw)))
        zv)
      (qZ (xx (qW (ok_law_taken T) (hr.mono (by decide)) rfl T.m_law_taken T.F_law_taken.kp T.b_law_taken .nil pass0 (pa_c (pv 0) (pa_c (pv 3) qj)) (he := qq rfl _ _) (hpl := qy rfl)) (wj rfl (zy (zq (i := 0) yv.nd rfl (Or.inl rfl)) (zy (zq (i := 12) yv.nd rfl (Or.inl rfl)) v6))))
      (qJ (ZQ (pe_bm PySem.F.plainAttrs_list PySem.F.slot_list_append PySem.F.type_list_append xX (pv 8) (pa_c (vq (pa_c (pe_bm PySem.F.plainAttrs_list PySem.F.slot_list_pop PySem.F.type_list_pop mt_popAt (pv 7) (pa_c (pv 11) qj) (hs := qq rfl _ _) (hplain := qy rfl)) (pa_c (pv 12) qj))) qj) (hs := qq rfl _ _) (hplain := qy rfl)))))))))
  have h6 : PS (kK P w K mg base a cdv A outer s H E) (bS jX 6) _ := (zw (vq (pa_c qV (pa_c (qW (ok_law_small T) (hr.mono (by decide)) rfl T.m_law_small T.F_law_small.kp T.b_law_small .nil pass0 (pa_c (pv 0) (pa_c (pv 3) qj)) (he := qq rfl _ _) (hpl := qy rfl)) (pa_c (pv 8) qj)))))
  refine ⟨_, body7 (by rfl) h0 h1 h2 h3 h4 h5 h6, ?_⟩
  clear h0 h1 h2 h3 h4 h5 h6
  refine ⟨_, rfl, _, _, rfl, ⟨by decide, by decide⟩, fun pa ha => ⟨pa, _, rfl, SqT.of qz, rfl, _, _, rfl, _, _, rfl, rfl, ?_⟩⟩
  have g1 := qk ha (.tup [.int (n / 5), .int (n % 5)])
  generalize upd H pa (.tup [.int (n / 5), .int (n % 5)]) = H1 at *
  generalize n / 5 = n1 at *
  generalize n % 5 = kd at *
  clear ha
  refine (fun h => ⟨_, rfl, _, _, rfl, rfl, _, rfl, iteD (fun c => ⟨_, rfl, _, rfl, ?bd⟩) (fun _ => iteF h)⟩) ?_
  case bd =>
    cases b with
    | false => exact iteF h
    | true =>
      refine iteT ?_
      refine ⟨_, rfl, _, _, rfl, ⟨by decide, by decide⟩, fun pb hb => ⟨pb, _, rfl, SqT.of qz, rfl, _, _, rfl, _, _, rfl, rfl, ?_⟩⟩
      have g2 := g1.trans (qk hb (.tup [.int (n1 / 3), .int (n1 % 3)]))
      generalize upd H1 pb (.tup [.int (n1 / 3), .int (n1 % 3)]) = H2 at *
      generalize n1 / 3 = n2 at *
      generalize n1 % 3 = wy at *
      obtain ⟨m, hm⟩ : ∃ m : Nat, n2 % (pl : Int) = (m : Int) := Int.eq_ofNat_of_zero_le (Int.emod_nonneg _ (by omega))
      have ml : m < pl := by
        have := Int.emod_lt_of_pos n2 (show (0 : Int) < pl by omega)
        omega
      refine ⟨_, rfl, _, rfl, _, _, rfl, rfl, (by show (0 : Int) < pl; omega), _, rfl, _, _, rfl, rfl, j0, fun l hl => ?_⟩
      refine ⟨_, rfl, _, _, rfl, rfl, .inr ⟨_, rfl, ?_⟩⟩
      by_cases k : 0 < wy
      · refine ⟨l, _, _, .int ((pl : Int) - 1), rfl, rfl, SqL.of qz, (by dsimp only; rw [decide_eq_true k]; rfl), j0, fun t ht => ?_⟩
        refine q (.bend (pl - 1)) (show pl - 1 < pl by omega) trivial t _ (g2.trans ((qk hl _).trans (qk ht _))) fun lf o e => ⟨t, rfl, ?_⟩
        rw [show ((pl - 1 : Nat) : Int) = (pl : Int) - 1 by omega]
        exact SqT.of qz
      · refine ⟨l, _, _, .int (n2 % (pl : Int)), rfl, rfl, SqL.of qz, (by dsimp only; rw [decide_eq_false k]; rfl), j0, fun t ht => ?_⟩
        refine q (.bend m) ml trivial t _ (g2.trans ((qk hl _).trans (qk ht _))) fun lf o e => ⟨t, rfl, ?_⟩
        rw [← hm]
        exact SqT.of qz
  refine ⟨_, rfl, _, _, rfl, ⟨by decide, by decide⟩, fun pb hb => ⟨pb, _, rfl, SqT.of qz, rfl, _, _, rfl, _, _, rfl, rfl, ?_⟩⟩
  have g2 := g1.trans (qk hb (.tup [.int (n1 / 8), .int (n1 % 8)]))
  have m0 : 0 ≤ n1 % 8 := Int.emod_nonneg _ (by decide)
  have m1 : n1 % 8 < 8 := Int.emod_lt_of_pos _ (by decide)
  generalize upd H1 pb (.tup [.int (n1 / 8), .int (n1 % 8)]) = H2 at *
  generalize n1 / 8 = n2 at *
  generalize n1 % 8 = mo at *
  clear g1 hb
  refine ⟨_, rfl, pl, rfl, fun pr hpr => ⟨pr, pl, rfl, qz, by omega, fun ll hll => ⟨(by decide), fun lt hlt => ?_⟩⟩⟩
  have k1 := qk hpr (.ext (RngAt pr pl))
  have k2 := qk hll (.lst ((List.range pl).map fun k : Nat => V.int (k : Int)))
  have k3 := qk hlt (.lst [])
  have nll : H ll = none := wQ (g2.trans k1) hll
  have nlt : H lt = none := wQ (g2.trans (k1.trans k2)) hlt
  have eL := k3 _ _ (qz (H := upd H2 pr (.ext (RngAt pr pl))) (a := ll) (o := .lst ((List.range pl).map fun k : Nat => V.int (k : Int))))
  have eT := qz (H := upd (upd H2 pr (.ext (RngAt pr pl))) ll (.lst ((List.range pl).map fun k : Nat => V.int (k : Int)))) (a := lt) (o := .lst [])
  have ltl : ll ≠ lt := zk qz hlt
  have g3 := g2.trans (k1.trans (k2.trans k3))
  generalize upd (upd (upd H2 pr (.ext (RngAt pr pl))) ll (.lst ((List.range pl).map fun k : Nat => V.int (k : Int)))) lt (.lst []) = H3 at *
  clear k1 k2 k3 hpr hll hlt g2
  obtain ⟨cnt, hc, c3, cp⟩ : ∃ cnt : Nat, (if 1 + mo < (pl : Int) then 1 + mo else (pl : Int)) = (cnt : Int) ∧ cnt ≤ 8 ∧ cnt ≤ pl := by
    by_cases k : 1 + mo < (pl : Int)
    · rw [if_pos k]; exact ⟨(1 + mo).toNat, by omega, by omega, by omega⟩
    · rw [if_neg k]; exact ⟨pl, rfl, by omega, by omega⟩
  refine ⟨_, rfl, _, rfl, _, _, rfl, rfl, _, _, rfl, (cnt : Int), congrArg (fun z => [V.int z]) hc, by omega, by omega, Z6 (n := cnt) (fun i σ H' => Same H H' ∧ ∃ (num : Int) (ls : List Nat) (ts : List (Nat × Rat)) (vt : List V) (u9 u10 u11 u12 : Option V), σ = [some (.int num), some (.int (pl : Int)), some (.bl b), some (.bl gr), some (.int kd), none, some (.int mo), some (.ref ll), some (.ref lt), u9, u10, u11, u12] ∧ H' ll = some (.lst (outV ls)) ∧ H' lt = some (.lst vt) ∧ TL K H' vt ts ∧ ts.length = i ∧ ls.length + i = pl ∧ (ts.map (·.1) ++ ls).Nodup ∧ (∀ m ∈ ts.map (·.1) ++ ls, m < pl) ∧ ∀ x ∈ ts, Shr x.2)
    ⟨g3, n2, List.range pl, [], [], _, _, _, _, rfl, eL, eT, .nil, rfl, by rw [List.length_range]; rfl, by rw [List.map_nil, List.nil_append]; exact List.nodup_range, fun m hm => by simpa using hm, fun x hx => (by cases hx)⟩ ?_ ?_ ?_⟩
  · rintro σ H' ⟨g, num, ls, ts, vt, u9, u10, u11, u12, rfl, eL, eT, rT, lts, lls, nd, lim, sh⟩
    refine ⟨by show (cnt : Int).toNat ≤ cnt; omega, ?_⟩
    refine ⟨_, rfl, _, rfl, num, gr, rfl, fun qx r H5 sx g5 hr5 => ⟨_, rfl, (show 3 ≤ sizeLine by decide), fun t ht => ?_⟩⟩
    have g6 := qk ht (.tup [.str "sum", .ref r, .ref lt])
    have g56 := g5.trans g6
    refine q (.sum qx ts) ⟨fun x hx => lim _ (List.mem_append_left _ (List.mem_map.mpr ⟨x, hx, rfl⟩)), (List.nodup_append.mp nd).1, by omega⟩ ⟨sx, sh, by omega⟩ t _ (g.trans g56) fun lf o e => ?_
    exact ⟨t, r, lt, vt, rfl, SqT.of qz, g6.tup hr5, g56 _ _ eT, Ne.symm (zk e nlt), rT.mono g56⟩
  · rintro i σ H' hi _
    show i < (cnt : Int).toNat
    omega
  · rintro i σ H0 x H' hi ⟨g, num, ls, ts, vt, u9, u10, u11, u12, rfl, eL, eT, rT, lts, lls, nd, lim, sh⟩ ⟨rfl, rfl⟩
    refine ⟨_, rfl, _, _, rfl, ⟨by decide, by decide⟩, fun pc hc' => ⟨pc, _, rfl, SqT.of qz, rfl, _, _, rfl, _, _, rfl, rfl, ?_⟩⟩
    have j1 := qk hc' (.tup [.int (num / 2), .int (num % 2)])
    have eL := j1 _ _ eL
    have eT := j1 _ _ eT
    have rT := rT.mono j1
    have g := g.trans j1
    generalize upd H' pc (.tup [.int (num / 2), .int (num % 2)]) = H4 at *
    generalize num / 2 = num2 at *
    generalize num % 2 = coin at *
    clear j1 hc'
    have ol := outV_len ls
    refine ⟨_, rfl, _, rfl, _, _, rfl, .inl (SqL.of eL), _, _, rfl, ⟨by omega, by omega⟩, fun pd hd => ⟨pd, _, rfl, SqT.of qz, rfl, _, _, rfl, _, _, rfl, rfl, ?_⟩⟩
    have j1 := qk hd (.tup [.int (num2 / ((outV ls).length : Int)), .int (num2 % ((outV ls).length : Int))])
    have eL := j1 _ _ eL
    have eT := j1 _ _ eT
    have rT := rT.mono j1
    have g := g.trans j1
    generalize upd H4 pd (.tup [.int (num2 / ((outV ls).length : Int)), .int (num2 % ((outV ls).length : Int))]) = H5 at *
    clear j1 hd
    obtain ⟨kk, ek, kl⟩ : ∃ kk : Nat, num2 % ((outV ls).length : Int) = (kk : Int) ∧ kk < ls.length := by
      have a := Int.emod_nonneg num2 (show ((outV ls).length : Int) ≠ 0 by omega)
      have b := Int.emod_lt_of_pos num2 (show (0 : Int) < ((outV ls).length : Int) by omega)
      exact ⟨(num2 % ((outV ls).length : Int)).toNat, by omega, by omega⟩
    rw [ek]
    generalize num2 / ((outV ls).length : Int) = num3 at *
    have e1 : ((outV ls).length : Int) - 1 = ((ls.length - 1 : Nat) : Int) := by omega
    refine ⟨_, rfl, rfl, _, rfl, iteD (fun _ => ⟨_, rfl, rfl, _, rfl, iteD (fun _ => ⟨_, rfl, _, _, rfl, .inl (SqL.of eL), _, _, rfl, rfl, ?_⟩) (fun _ => ?_)⟩) (fun _ => iteF ?_)⟩
    · dsimp only
      rw [e1]
      have hk0 : ls.length - 1 < ls.length := by omega
      clear e1 ek kl
      generalize ls.length - 1 = k0 at *
      obtain ⟨mm, em⟩ : ∃ mm, ls[k0]? = some mm := ⟨_, List.getElem?_eq_getElem hk0⟩
      refine ⟨_, rfl, _, rfl, num3, gr, rfl, fun n' qx t r H6 sx g6 ht hr6 => ⟨t, _, rfl, ht, rfl, _, _, rfl, _, _, rfl, rfl, ?_⟩⟩
      have eL6 := g6 _ _ eL
      have eT6 := g6 _ _ eT
      refine ⟨_, rfl, .inl ⟨rfl, _, SqL.of eT6⟩, _, rfl, .inl ⟨rfl, _, SqL.of eL6⟩, _, rfl, ll, _, _, k0, _, rfl, rfl, eL6, by omega, by omega, seqIx (by omega), outV_get em, _, rfl, j0, fun t2 ht2 => ?_⟩
      rw [outV_erase] at ht2 ⊢
      have eT7 : upd H6 ll (.lst (outV (ls.eraseIdx k0))) lt = some (.lst vt) := by rw [zK (Ne.symm ltl)]; exact eT6
      have rT7 : TL K (upd H6 ll (.lst (outV (ls.eraseIdx k0)))) vt ts := TL.upd_lst (rT.mono g6) eL6
      have hr7 := SqT.upd_lst (o := .lst (outV (ls.eraseIdx k0))) hr6 eL6
      have g7 : Same H (upd H6 ll (.lst (outV (ls.eraseIdx k0)))) := (g.trans g6).laid nll _
      have eL7 := qz (H := H6) (a := ll) (o := .lst (outV (ls.eraseIdx k0)))
      generalize upd H6 ll (.lst (outV (ls.eraseIdx k0))) = H7 at *
      have j1 := qk ht2 (.tup [.int (mm : Int), .ref r])
      have eT8 := j1 _ _ eT7
      have lvt := TL.length rT7
      refine ⟨lt, vt, _, rfl, rfl, eT8, zW (by omega), ?_⟩
      have perm : ((ts ++ [(mm, qx)]).map (·.1) ++ ls.eraseIdx k0).Perm (ts.map (·.1) ++ ls) := by
        rw [List.map_append, List.append_assoc]
        refine List.Perm.append_left _ ?_
        exact YV em
      refine ⟨(g7.trans j1).laid nlt _, n', ls.eraseIdx k0, ts ++ [(mm, qx)], vt ++ [.ref t2], _, _, _, _, rfl, by rw [zK ltl]; exact j1 _ _ eL7, qz, TL.upd_lst (Paired.snoc (TL.mono rT7 j1) ⟨t2, r, rfl, SqT.of qz, j1.tup hr7⟩) eT8, by rw [List.length_append, lts]; rfl, ?_, perm.nodup_iff.mpr nd, fun m hm => lim m (perm.mem_iff.mp hm), fun x hx => ?_⟩
      · rw [List.length_eraseIdx_of_lt hk0]; omega
      · rcases List.mem_append.mp hx with z | z
        · exact sh x z
        · rw [List.mem_singleton.mp z]; exact sx
    · have hk0 := kl
      clear e1 ek kl
      generalize kk = k0 at *
      obtain ⟨mm, em⟩ : ∃ mm, ls[k0]? = some mm := ⟨_, List.getElem?_eq_getElem hk0⟩
      refine ⟨_, rfl, _, rfl, num3, gr, rfl, fun n' qx t r H6 sx g6 ht hr6 => ⟨t, _, rfl, ht, rfl, _, _, rfl, _, _, rfl, rfl, ?_⟩⟩
      have eL6 := g6 _ _ eL
      have eT6 := g6 _ _ eT
      refine ⟨_, rfl, .inl ⟨rfl, _, SqL.of eT6⟩, _, rfl, .inl ⟨rfl, _, SqL.of eL6⟩, _, rfl, ll, _, _, k0, _, rfl, rfl, eL6, by omega, by omega, seqIx (by omega), outV_get em, _, rfl, j0, fun t2 ht2 => ?_⟩
      rw [outV_erase] at ht2 ⊢
      have eT7 : upd H6 ll (.lst (outV (ls.eraseIdx k0))) lt = some (.lst vt) := by rw [zK (Ne.symm ltl)]; exact eT6
      have rT7 : TL K (upd H6 ll (.lst (outV (ls.eraseIdx k0)))) vt ts := TL.upd_lst (rT.mono g6) eL6
      have hr7 := SqT.upd_lst (o := .lst (outV (ls.eraseIdx k0))) hr6 eL6
      have g7 : Same H (upd H6 ll (.lst (outV (ls.eraseIdx k0)))) := (g.trans g6).laid nll _
      have eL7 := qz (H := H6) (a := ll) (o := .lst (outV (ls.eraseIdx k0)))
      generalize upd H6 ll (.lst (outV (ls.eraseIdx k0))) = H7 at *
      have j1 := qk ht2 (.tup [.int (mm : Int), .ref r])
      have eT8 := j1 _ _ eT7
      have lvt := TL.length rT7
      refine ⟨lt, vt, _, rfl, rfl, eT8, zW (by omega), ?_⟩
      have perm : ((ts ++ [(mm, qx)]).map (·.1) ++ ls.eraseIdx k0).Perm (ts.map (·.1) ++ ls) := by
        rw [List.map_append, List.append_assoc]
        refine List.Perm.append_left _ ?_
        exact YV em
      refine ⟨(g7.trans j1).laid nlt _, n', ls.eraseIdx k0, ts ++ [(mm, qx)], vt ++ [.ref t2], _, _, _, _, rfl, by rw [zK ltl]; exact j1 _ _ eL7, qz, TL.upd_lst (Paired.snoc (TL.mono rT7 j1) ⟨t2, r, rfl, SqT.of qz, j1.tup hr7⟩) eT8, by rw [List.length_append, lts]; rfl, ?_, perm.nodup_iff.mpr nd, fun m hm => lim m (perm.mem_iff.mp hm), fun x hx => ?_⟩
      · rw [List.length_eraseIdx_of_lt hk0]; omega
      · rcases List.mem_append.mp hx with z | z
        · exact sh x z
        · rw [List.mem_singleton.mp z]; exact sx
    · have hk0 := kl
      clear e1 ek kl
      generalize kk = k0 at *
      obtain ⟨mm, em⟩ : ∃ mm, ls[k0]? = some mm := ⟨_, List.getElem?_eq_getElem hk0⟩
      refine ⟨_, rfl, _, rfl, num3, gr, rfl, fun n' qx t r H6 sx g6 ht hr6 => ⟨t, _, rfl, ht, rfl, _, _, rfl, _, _, rfl, rfl, ?_⟩⟩
      have eL6 := g6 _ _ eL
      have eT6 := g6 _ _ eT
      refine ⟨_, rfl, .inl ⟨rfl, _, SqL.of eT6⟩, _, rfl, .inl ⟨rfl, _, SqL.of eL6⟩, _, rfl, ll, _, _, k0, _, rfl, rfl, eL6, by omega, by omega, seqIx (by omega), outV_get em, _, rfl, j0, fun t2 ht2 => ?_⟩
      rw [outV_erase] at ht2 ⊢
      have eT7 : upd H6 ll (.lst (outV (ls.eraseIdx k0))) lt = some (.lst vt) := by rw [zK (Ne.symm ltl)]; exact eT6
      have rT7 : TL K (upd H6 ll (.lst (outV (ls.eraseIdx k0)))) vt ts := TL.upd_lst (rT.mono g6) eL6
      have hr7 := SqT.upd_lst (o := .lst (outV (ls.eraseIdx k0))) hr6 eL6
      have g7 : Same H (upd H6 ll (.lst (outV (ls.eraseIdx k0)))) := (g.trans g6).laid nll _
      have eL7 := qz (H := H6) (a := ll) (o := .lst (outV (ls.eraseIdx k0)))
      generalize upd H6 ll (.lst (outV (ls.eraseIdx k0))) = H7 at *
      have j1 := qk ht2 (.tup [.int (mm : Int), .ref r])
      have eT8 := j1 _ _ eT7
      have lvt := TL.length rT7
      refine ⟨lt, vt, _, rfl, rfl, eT8, zW (by omega), ?_⟩
      have perm : ((ts ++ [(mm, qx)]).map (·.1) ++ ls.eraseIdx k0).Perm (ts.map (·.1) ++ ls) := by
        rw [List.map_append, List.append_assoc]
        refine List.Perm.append_left _ ?_
        exact YV em
      refine ⟨(g7.trans j1).laid nlt _, n', ls.eraseIdx k0, ts ++ [(mm, qx)], vt ++ [.ref t2], _, _, _, _, rfl, by rw [zK ltl]; exact j1 _ _ eL7, qz, TL.upd_lst (Paired.snoc (TL.mono rT7 j1) ⟨t2, r, rfl, SqT.of qz, j1.tup hr7⟩) eT8, by rw [List.length_append, lts]; rfl, ?_, perm.nodup_iff.mpr nd, fun m hm => lim m (perm.mem_iff.mp hm), fun x hx => ?_⟩
      · rw [List.length_eraseIdx_of_lt hk0]; omega
      · rcases List.mem_append.mp hx with z | z
        · exact sh x z
        · rw [List.mem_singleton.mp z]; exact sx
theorem WfN.snoc {many : Nat} {us : List Un} {u : Un} (h : WfN many us) (k : WfU (many + us.length) u) : WfN many (us ++ [u]) := fun j v e => by
  by_cases hj : j < us.length
  · rw [List.getElem?_append_left hj] at e
    exact h j v e
  · have hl := (List.getElem?_eq_some_iff.mp e).1
    rw [List.length_append, List.length_singleton] at hl
    have ej : j = us.length := by omega
    subst ej
    rw [List.getElem?_append_right (Nat.le_refl _), Nat.sub_self] at e
    have e : u = v := by simpa using e
    rw [← e]
    exact k
def spNetL (K : PySem.W.Frag) : Sp := fun vs H Q _ => ∃ (sa : Addr) (ns : List Int) (st mb : Nat), vs = [.ref sa, .int (st : Int), .int (mb : Int)] ∧ SqL K H sa (ns.map V.int) ∧ ∀ (many : Nat) (us : List Un) (outs : List Nat) (t lu lo : Addr) (vu : List V) (H' : Hp), NetOk many us outs → outs.length ≤ 9 → many ≤ 6 → us.length ≤ 12 → (∀ u ∈ us, ShrU u) → Same H H' → SqT K H' t [.int (many : Int), .ref lu, .ref lo] → H lu = none → H' lu = some (.lst vu) → UL false K H' vu us → H lo = none → H' lo = some (.lst (outV outs)) → Q (.ref t) H'
abbrev jY (P w K mg base) (a : Adr) (cdv A outer s H E) := (cxOf CX0 P w K mg base ["_law_script", "_law_start", "_law_most_bends", "_law_seeds_here", "_law_lead", "_law_more", "_law_many", "_law_great", "_law_size", "_law_units", "_law_bends", "_law_number", "_law_unit_here", "_law_outs", "_law_k"] "_law_net" (qQ yQ) a.f_law_net cdv A outer s H E).nox
set_option maxHeartbeats 0 in
theorem ok_law_net (T : Txt K mg a) : FnOk P w K mg base CX0 5 a.f_law_net a.d_law_net ["_law_script", "_law_start", "_law_most_bends"] (spNetL K) := by
  refine T.F_law_net.ok yJ (fun vs H Q E h => ?_) (fun cdv A outer s H vs Q E hr h => ?_)
  · obtain ⟨_, _, _, _, rfl, _⟩ := h
    rfl
  obtain ⟨sa, ns, st, mb, rfl, hS, q⟩ := h
  have cd : ∀ {x m : Int}, m ≠ 0 → m.natAbs.log2 < 9000 → CDivB x m := fun h1 h2 => ⟨h1, h2⟩
  have h0 : PS (jY P w K mg base a cdv A outer s H E) (bS yQ 0) _ := (zj (i := 3) yJ.nd rfl (Or.inl rfl) (qW (ok_law_seeds T) (hr.mono (by decide)) rfl T.m_law_seeds T.F_law_seeds.kp T.b_law_seeds .nil pass0 (pa_c (pv 0) (pa_c (pv 1) (pa_c qw qj))) (he := qq rfl _ _) (hpl := qy rfl)))
  have h1 : PS (jY P w K mg base a cdv A outer s H E) (bS yQ 1) _ := (xx (qX (vy) rfl T.m_divmod boot_divmod (pa_c (pe_ix zV (pv 3) qw (fun _ _ => rfl)) (pa_c qw qj)) (he := qq rfl _ _) (hpl := qy rfl)) (wj rfl (zy (zq (i := 4) yJ.nd rfl (Or.inl rfl)) (zy (zq (i := 5) yJ.nd rfl (Or.inl rfl)) v6))))
  have h2 : PS (jY P w K mg base a cdv A outer s H E) (bS yQ 2) _ := (zj (i := 6) yJ.nd rfl (Or.inl rfl) (pe_op j8 qw (pv 5)))
  have h3 : PS (jY P w K mg base a cdv A outer s H E) (bS yQ 3) _ := (zj (i := 7) yJ.nd rfl (Or.inl rfl) (kv op_eq (pe_op vv (pv 4) qw) qw (qY _)))
  have h4 : PS (jY P w K mg base a cdv A outer s H E) (bS yQ 4) _ := (zj (i := 8) yJ.nd rfl (Or.inl rfl) (pe_op j8 qw (pe_op vv (pe_op vz (pv 4) qw) qw)))
  have h5 : PS (jY P w K mg base a cdv A outer s H E) (bS yQ 5) _ := (zj (i := 4) yJ.nd rfl (Or.inl rfl) (pe_op vz (pv 4) qw))
  have h6 : PS (jY P w K mg base a cdv A outer s H E) (bS yQ 6) _ := (zj (i := 9) yJ.nd rfl (Or.inl rfl) (jj qj))
  have h7 : PS (jY P w K mg base a cdv A outer s H E) (bS yQ 7) _ := (zj (i := 10) yJ.nd rfl (Or.inl rfl) qw)
  have h8 : PS (jY P w K mg base a cdv A outer s H E) (bS yQ 8) _ := (ps_if (jz (pv 7))
        (qJ (zj (i := 2) yJ.nd rfl (Or.inl rfl) (qX (call_min2 rfl) rfl T.m_min boot_min (pa_c (pv 2) (pa_c qw qj)) (he := qq rfl _ _) (hpl := qy rfl))))
        zv)
  have h9 : PS (jY P w K mg base a cdv A outer s H E) (bS yQ 9) _ := (Yv PassesOwn.never rfl (jv (yj jZ (pv 3) (yw qw) (yw (pe_op j8 qw (pv 8))))) (zq (i := 11) yJ.nd rfl (Or.inl rfl))
        (qZ (zj (i := 12) yJ.nd rfl (Or.inl rfl) (qW (ok_law_unit T) (hr.mono (by decide)) rfl T.m_law_unit T.F_law_unit.kp T.b_law_unit .nil pass0 (pa_c (pv 11) (pa_c (pe_op j8 (pv 6) (qX (zx) rfl T.m_len boot_len (pa_c (pv 9) qj) (he := qq rfl _ _) (hpl := qy rfl))) (pa_c (kv op_lt (pv 10) (pv 2) (qY _)) (pa_c (pv 7) qj)))) (he := qq rfl _ _) (hpl := qy rfl)))
      (qZ (zj (i := 10) yJ.nd rfl (Or.inl rfl) (pe_op j8 (pv 10) (y8 (xW) rfl T.m_int boot_int (pa_c (kv op_eq (pe_ix yz (pv 12) qw (fun _ _ => rfl)) qV (qY _)) qj) (he := qq rfl _ _) (hpl := qy rfl))))
      (qJ (ZQ (pe_bm PySem.F.plainAttrs_list PySem.F.slot_list_append PySem.F.type_list_append xX (pv 9) (pa_c (pv 12) qj) (hs := qq rfl _ _) (hplain := qy rfl)))))))
  have h10 : PS (jY P w K mg base a cdv A outer s H E) (bS yQ 10) _ := (zj (i := 13) yJ.nd rfl (Or.inl rfl) (jj (pa_c (pe_op op_sub (pe_op j8 (pv 6) (pv 8)) qw) qj)))
  have h11 : PS (jY P w K mg base a cdv A outer s H E) (bS yQ 11) _ := (Yv PassesOwn.never rfl (pi_range1 rfl T.m_range (pa_c (pe_ix zV (jj (pa_c qw (pa_c qw (pa_c qw (pa_c qw qj))))) (pe_op vv (pv 4) qw) (fun _ _ => rfl)) qj)) (zq (i := 14) yJ.nd rfl (Or.inl rfl))
        (qZ (zj (i := 4) yJ.nd rfl (Or.inl rfl) (pe_op vz (pv 4) (pe_op j8 (pv 6) (pv 8))))
      (qJ (ZQ (pe_bm PySem.F.plainAttrs_list PySem.F.slot_list_append PySem.F.type_list_append xX (pv 13) (pa_c (pe_op vv (pv 4) (pe_op j8 (pv 6) (pv 8))) qj) (hs := qq rfl _ _) (hplain := qy rfl))))))
  have h12 : PS (jY P w K mg base a cdv A outer s H E) (bS yQ 12) _ := (zw (vq (pa_c (pv 6) (pa_c (pv 9) (pa_c (pv 13) qj)))))
  refine ⟨_, body13 (by rfl) h0 h1 h2 h3 h4 h5 h6 h7 h8 h9 h10 h11 h12, ?_⟩
  clear h0 h1 h2 h3 h4 h5 h6 h7 h8 h9 h10 h11 h12
  refine ⟨_, rfl, _, rfl, sa, ns, st, 13, rfl, hS, by decide, fun zs lz ls H1 _ g1 e1 => ?_⟩
  obtain ⟨z0, ez0⟩ : ∃ z, zs[0]? = some z := ⟨_, List.getElem?_eq_getElem (by omega)⟩
  have ezv : (zs.map V.int)[0]? = some (.int z0) := by rw [List.getElem?_map, ez0]; rfl
  refine ⟨_, rfl, _, _, _, _, rfl, rfl, SqL.of e1, atN (n := 0) ezv, _, _, rfl, ⟨by decide, by decide⟩, fun pa ha => ⟨pa, _, rfl, SqT.of qz, rfl, _, _, rfl, _, _, rfl, rfl, ?_⟩⟩
  have j1 := qk ha (.tup [.int (z0 / 6), .int (z0 % 6)])
  have e1 := j1 _ _ e1
  have g1 := g1.trans j1
  generalize upd H1 pa (.tup [.int (z0 / 6), .int (z0 % 6)]) = H2 at *
  have m0 : 0 ≤ z0 % 6 := Int.emod_nonneg _ (by decide)
  have m1 : z0 % 6 < 6 := Int.emod_lt_of_pos _ (by decide)
  generalize z0 / 6 = ld at *
  generalize z0 % 6 = mo at *
  clear j1 ha
  refine ⟨_, rfl, _, _, rfl, rfl, ?_⟩
  dsimp only
  obtain ⟨many, hmany, n1, n3⟩ : ∃ many : Nat, 1 + mo = (many : Int) ∧ 1 ≤ many ∧ many ≤ 6 := ⟨(1 + mo).toNat, by omega, by omega, by omega⟩
  rw [hmany]
  refine ⟨_, rfl, _, _, rfl, rfl, (by show (0 : Int) < 8; decide), rfl, ?_⟩
  dsimp only
  generalize decide (V.int (ld % 8) = V.int 0) = gr
  refine ⟨_, rfl, _, _, rfl, rfl, cd (by decide) (by decide +kernel), _, _, rfl, rfl, (by show (0 : Int) < 12; decide), _, _, rfl, rfl, ?_⟩
  dsimp only
  obtain ⟨sz, hsz, s1, s12⟩ : ∃ sz : Nat, 1 + ld.fdiv 8 % 12 = (sz : Int) ∧ 1 ≤ sz ∧ sz ≤ 12 := by
    have a := Int.emod_nonneg (ld.fdiv 8) (show (12 : Int) ≠ 0 by decide)
    have b := Int.emod_lt_of_pos (ld.fdiv 8) (show (0 : Int) < 12 by decide)
    exact ⟨(1 + ld.fdiv 8 % 12).toNat, by omega, by omega, by omega⟩
  rw [hsz]
  refine ⟨_, rfl, _, _, rfl, rfl, cd (by decide) (by decide +kernel), ?_⟩
  dsimp only
  generalize ld.fdiv 96 = ld2
  refine ⟨(by decide), fun lu hlu => ?_⟩
  have nlu : H lu = none := wQ g1 hlu
  have j1 := qk hlu (.lst [])
  have e1 := j1 _ _ e1
  have g1 := g1.trans j1
  have eu := qz (H := H2) (a := lu) (o := .lst [])
  generalize upd H2 lu (.lst []) = H3 at *
  clear j1 hlu
  refine ⟨_, rfl, _, rfl, ?_⟩
  cases gr with
  | true =>
    refine iteT ⟨_, rfl, _, _, rfl, ?_⟩
    refine ⟨_, rfl, _, rfl, _, rfl, _, _, rfl, rfl, _, rfl, _, _, rfl, SqL.of e1, fun c2 hc2 => ?_⟩
    have lzv : (zs.map V.int).length = 13 := by rw [List.length_map, lz]
    rw [show (1 : Int) + (sz : Int) = ((1 + sz : Nat) : Int) by omega, show cutV (zs.map V.int) (some 1) (some ((1 + sz : Nat) : Int)) = _ from cutNN (i := 1) (by omega) (by omega), ← List.map_drop, ← List.map_take]
    have lk : ((zs.drop 1).take (1 + sz - 1)).length = sz := by rw [List.length_take, List.length_drop]; omega
    generalize (zs.drop 1).take (1 + sz - 1) = ks at *
    have j1 := qk hc2 (.lst (ks.map V.int))
    have e2 := qz (H := H3) (a := c2) (o := .lst (ks.map V.int))
    have nc2 : c2 ≠ lu := Ne.symm (zk eu hc2)
    have eu := j1 _ _ eu
    have g1 := g1.trans j1
    generalize upd H3 c2 (.lst (ks.map V.int)) = H4 at *
    clear j1 hc2 e1
    refine ⟨c2, rfl, ⟨_, SqL.of e2⟩, Z6 (n := sz) (fun i σ H' => Same H H' ∧ H' c2 = some (.lst (ks.map V.int)) ∧ ∃ (vu : List V) (us : List Un) (mb' bs : Int) (gr' : Bool) (u11 u12 : Option V), σ = [some (.ref sa), some (.int (st : Int)), some (.int mb'), some (.ref ls), some (.int ld2), some (.int mo), some (.int (many : Int)), some (.bl gr'), some (.int (sz : Int)), some (.ref lu), some (.int bs), u11, u12, none, none] ∧ H' lu = some (.lst vu) ∧ UF lu K H' vu us ∧ us.length = i ∧ WfN many us ∧ ∀ u ∈ us, ShrU u)
      ⟨g1, e2, [], [], _, _, _, _, _, rfl, eu, .nil, rfl, fun k u e => nil_get e, fun u hu => (by cases hu)⟩ ?_ ?_ ?_⟩
    case refine_2 =>
      rintro i σ H' hi ⟨g, k2, _⟩
      exact ⟨_, _, SqL.of k2, List.getElem?_eq_getElem (by rw [List.length_map]; omega)⟩
    case refine_3 =>
      rintro i σ H0 x H' hi ⟨g, k2, vu, us, mb', bs, gr', u11, u12, rfl, eu, rU, lus, wf, sh⟩ ⟨rfl, y1⟩
      obtain ⟨z, ez, rfl⟩ := int_at (y1 _ (SqL.of k2))
      have lvu := UF.length rU
      refine ⟨_, rfl, _, rfl, _, rfl, _, _, rfl, .inl (SqL.of eu), _, _, rfl, rfl, _, rfl, _, rfl, _, _, rfl, rfl, _, rfl, ?_⟩
      dsimp only
      rw [show (many : Int) + (vu.length : Int) = ((many + i : Nat) : Int) by omega]
      refine ⟨z, many + i, _, _, rfl, by omega, by omega, fun u wu su p H5 g5 hU => ?_⟩
      have hU : UnF lu K H5 (.ref p) u := hU lu _ eu
      obtain ⟨t, ys, et, ht⟩ := kind_at hU.un
      cases et
      refine ⟨_, rfl, _, rfl, _, _, _, _, rfl, rfl, ht, at0, rfl, .inr ⟨_, rfl, _, _, rfl, rfl, ?_⟩⟩
      have eu5 := g5 _ _ eu
      refine ⟨_, rfl, .inl ⟨rfl, _, SqL.of eu5⟩, _, rfl, lu, vu, _, rfl, rfl, eu5, zW (by omega), ?_⟩
      refine ⟨(g.trans g5).laid nlu _, by rw [zK nc2]; exact g5 _ _ k2, vu ++ [.ref p], us ++ [u], mb', _, gr', _, _, rfl, qz, UF.upd ((rU.mono g5).snoc hU) eu5, by rw [List.length_append, lus]; rfl, wf.snoc (by rw [lus]; exact wu), fun v hv => ?_⟩
      rcases List.mem_append.mp hv with k | k
      · exact sh v k
      · rw [List.mem_singleton.mp k]; exact su
    rintro σ H5 ⟨g5, k2, vu, us, mb', bs, gr', u11, u12, rfl, eu, rU, lus, wf, sh⟩
    refine ⟨⟨_, SqL.of k2, by rw [List.length_map]; omega⟩, ?_⟩
    have rU := rU.un
    refine ⟨_, rfl, _, rfl, _, _, rfl, rfl, _, _, rfl, rfl, (show 1 ≤ sizeLine by decide), fun lo hlo => ?_⟩
    try dsimp only
    have nlo : H lo = none := wQ g5 hlo
    have j1 := qk hlo (.lst [.int ((many : Int) + (sz : Int) - 1)])
    have e0 : [V.int ((many : Int) + (sz : Int) - 1)] = outV [many + sz - 1] := congrArg (fun z => [V.int z]) (show (many : Int) + (sz : Int) - 1 = ((many + sz - 1 : Nat) : Int) by omega)
    have eo : upd H5 lo (.lst [.int ((many : Int) + (sz : Int) - 1)]) lo = some (.lst (outV [many + sz - 1])) := by rw [qz, e0]
    refine ⟨(show 4 ≤ sizeLine by decide), fun l4 k4 => ?_⟩
    have j4 := qk k4 (.lst [.int 0, .int 1, .int 2, .int 8])
    have eo := j4 _ _ eo
    have j1 := j1.trans j4
    have e4 := qz (H := upd H5 lo (.lst [.int ((many : Int) + (sz : Int) - 1)])) (a := l4) (o := .lst [.int 0, .int 1, .int 2, .int 8])
    have hlo' : H5 lo = none := hlo
    generalize upd (upd H5 lo (.lst [.int ((many : Int) + (sz : Int) - 1)])) l4 (.lst [.int 0, .int 1, .int 2, .int 8]) = H5a at *
    obtain ⟨cnt, hc, c2'⟩ : ∃ cnt : Nat, atI [V.int 0, V.int 1, V.int 2, V.int 8] (ld2 % 4) = some (.int (cnt : Int)) ∧ cnt ≤ 8 := by
      have a := Int.emod_nonneg ld2 (show (4 : Int) ≠ 0 by decide)
      have b := Int.emod_lt_of_pos ld2 (show (0 : Int) < 4 by decide)
      have z : ld2 % 4 = 0 ∨ ld2 % 4 = 1 ∨ ld2 % 4 = 2 ∨ ld2 % 4 = 3 := by omega
      rcases z with z | z | z | z <;> rw [z]
      · exact ⟨0, rfl, by decide⟩
      · exact ⟨1, rfl, by decide⟩
      · exact ⟨2, rfl, by decide⟩
      · exact ⟨8, rfl, by decide⟩
    refine ⟨_, rfl, _, _, rfl, rfl, (by show (0 : Int) < 4; decide), _, _, _, _, rfl, rfl, SqL.of e4, hc, (cnt : Int), rfl, by omega, by omega, Z6 (n := cnt) (fun i σ H' => Same H5 H' ∧ ∃ (outs : List Nat) (l3 : Int) (u14 : Option V), σ = [some (.ref sa), some (.int (st : Int)), some (.int mb'), some (.ref ls), some (.int l3), some (.int mo), some (.int (many : Int)), some (.bl gr'), some (.int (sz : Int)), some (.ref lu), some (.int bs), u11, u12, some (.ref lo), u14] ∧ H' lo = some (.lst (outV outs)) ∧ outs.length = 1 + i ∧ ∀ o ∈ outs, o < many + sz)
      ⟨j1, [many + sz - 1], _, _, rfl, eo, rfl, fun o ho => by rw [List.mem_singleton.mp ho]; omega⟩ ?_ ?_ ?_⟩
    case refine_1 =>
      rintro σ H6 ⟨g6, outs, l3, u14, rfl, eo, lo1, ol⟩
      refine ⟨by show (cnt : Int).toNat ≤ cnt; omega, ?_⟩
      refine ⟨_, rfl, _, rfl, _, rfl, (show 3 ≤ sizeLine by decide), fun t ht => ?_⟩
      have g7 := qk ht (.tup [.int (many : Int), .ref lu, .ref lo])
      have g67 := g6.trans g7
      have fl : (us.filter isB).length ≤ us.length := List.length_filter_le _ _
      exact q many us outs t lu lo vu _ ⟨wf, by omega, by omega, n1, by omega, by omega, by omega, fun o ho => by rw [lus]; exact ol o ho⟩ (by omega) n3 (by omega) sh (g5.trans g67) (SqT.of qz) nlu (g67 _ _ eu) (rU.mono g67) nlo (g7 _ _ eo)
    case refine_2 =>
      rintro i σ H' hi _
      show i < (cnt : Int).toNat
      omega
    rintro i σ H0 x H' hi ⟨g6, outs, l3, u14, rfl, eo, lo1, ol⟩ ⟨rfl, rfl⟩
    refine ⟨_, rfl, _, rfl, _, rfl, _, _, rfl, rfl, _, _, rfl, rfl, cdivB (n := 64) (by omega) (by unfold Sm; omega), ?_⟩
    dsimp only
    generalize l3.fdiv ((many : Int) + (sz : Int)) = l4
    refine ⟨_, rfl, .inl ⟨rfl, _, SqL.of eo⟩, _, rfl, _, rfl, _, rfl, _, _, rfl, rfl, _, _, rfl, rfl, (by show (0 : Int) < (many : Int) + (sz : Int); omega), lo, _, _, rfl, rfl, eo, by rw [outV_len]; exact zW (by omega), ?_⟩
    obtain ⟨m, hm, ml⟩ : ∃ m : Nat, l4 % ((many : Int) + (sz : Int)) = (m : Int) ∧ m < many + sz := by
      have a := Int.emod_nonneg l4 (show (many : Int) + (sz : Int) ≠ 0 by omega)
      have b := Int.emod_lt_of_pos l4 (show (0 : Int) < (many : Int) + (sz : Int) by omega)
      exact ⟨(l4 % ((many : Int) + (sz : Int))).toNat, by omega, by omega⟩
    dsimp only
    rw [hm]
    have ea : outV outs ++ [V.int (m : Int)] = outV (outs ++ [m]) := by unfold outV; rw [List.map_append]; rfl
    refine ⟨g6.laid hlo _, outs ++ [m], l4, _, rfl, ?_, by rw [List.length_append, lo1]; rfl, fun o ho => ?_⟩
    · rw [qz, ea]
    · rcases List.mem_append.mp ho with k | k
      · exact ol o k
      · rw [List.mem_singleton.mp k]; exact ml
  | false =>
    refine iteF ?_
    refine ⟨_, rfl, _, rfl, _, rfl, _, _, rfl, rfl, _, rfl, _, _, rfl, SqL.of e1, fun c2 hc2 => ?_⟩
    have lzv : (zs.map V.int).length = 13 := by rw [List.length_map, lz]
    rw [show (1 : Int) + (sz : Int) = ((1 + sz : Nat) : Int) by omega, show cutV (zs.map V.int) (some 1) (some ((1 + sz : Nat) : Int)) = _ from cutNN (i := 1) (by omega) (by omega), ← List.map_drop, ← List.map_take]
    have lk : ((zs.drop 1).take (1 + sz - 1)).length = sz := by rw [List.length_take, List.length_drop]; omega
    generalize (zs.drop 1).take (1 + sz - 1) = ks at *
    have j1 := qk hc2 (.lst (ks.map V.int))
    have e2 := qz (H := H3) (a := c2) (o := .lst (ks.map V.int))
    have nc2 : c2 ≠ lu := Ne.symm (zk eu hc2)
    have eu := j1 _ _ eu
    have g1 := g1.trans j1
    generalize upd H3 c2 (.lst (ks.map V.int)) = H4 at *
    clear j1 hc2 e1
    refine ⟨c2, rfl, ⟨_, SqL.of e2⟩, Z6 (n := sz) (fun i σ H' => Same H H' ∧ H' c2 = some (.lst (ks.map V.int)) ∧ ∃ (vu : List V) (us : List Un) (mb' bs : Int) (gr' : Bool) (u11 u12 : Option V), σ = [some (.ref sa), some (.int (st : Int)), some (.int mb'), some (.ref ls), some (.int ld2), some (.int mo), some (.int (many : Int)), some (.bl gr'), some (.int (sz : Int)), some (.ref lu), some (.int bs), u11, u12, none, none] ∧ H' lu = some (.lst vu) ∧ UF lu K H' vu us ∧ us.length = i ∧ WfN many us ∧ ∀ u ∈ us, ShrU u)
      ⟨g1, e2, [], [], _, _, _, _, _, rfl, eu, .nil, rfl, fun k u e => nil_get e, fun u hu => (by cases hu)⟩ ?_ ?_ ?_⟩
    case refine_2 =>
      rintro i σ H' hi ⟨g, k2, _⟩
      exact ⟨_, _, SqL.of k2, List.getElem?_eq_getElem (by rw [List.length_map]; omega)⟩
    case refine_3 =>
      rintro i σ H0 x H' hi ⟨g, k2, vu, us, mb', bs, gr', u11, u12, rfl, eu, rU, lus, wf, sh⟩ ⟨rfl, y1⟩
      obtain ⟨z, ez, rfl⟩ := int_at (y1 _ (SqL.of k2))
      have lvu := UF.length rU
      refine ⟨_, rfl, _, rfl, _, rfl, _, _, rfl, .inl (SqL.of eu), _, _, rfl, rfl, _, rfl, _, rfl, _, _, rfl, rfl, _, rfl, ?_⟩
      dsimp only
      rw [show (many : Int) + (vu.length : Int) = ((many + i : Nat) : Int) by omega]
      refine ⟨z, many + i, _, _, rfl, by omega, by omega, fun u wu su p H5 g5 hU => ?_⟩
      have hU : UnF lu K H5 (.ref p) u := hU lu _ eu
      obtain ⟨t, ys, et, ht⟩ := kind_at hU.un
      cases et
      refine ⟨_, rfl, _, rfl, _, _, _, _, rfl, rfl, ht, at0, rfl, .inr ⟨_, rfl, _, _, rfl, rfl, ?_⟩⟩
      have eu5 := g5 _ _ eu
      refine ⟨_, rfl, .inl ⟨rfl, _, SqL.of eu5⟩, _, rfl, lu, vu, _, rfl, rfl, eu5, zW (by omega), ?_⟩
      refine ⟨(g.trans g5).laid nlu _, by rw [zK nc2]; exact g5 _ _ k2, vu ++ [.ref p], us ++ [u], mb', _, gr', _, _, rfl, qz, UF.upd ((rU.mono g5).snoc hU) eu5, by rw [List.length_append, lus]; rfl, wf.snoc (by rw [lus]; exact wu), fun v hv => ?_⟩
      rcases List.mem_append.mp hv with k | k
      · exact sh v k
      · rw [List.mem_singleton.mp k]; exact su
    rintro σ H5 ⟨g5, k2, vu, us, mb', bs, gr', u11, u12, rfl, eu, rU, lus, wf, sh⟩
    refine ⟨⟨_, SqL.of k2, by rw [List.length_map]; omega⟩, ?_⟩
    have rU := rU.un
    refine ⟨_, rfl, _, rfl, _, _, rfl, rfl, _, _, rfl, rfl, (show 1 ≤ sizeLine by decide), fun lo hlo => ?_⟩
    try dsimp only
    have nlo : H lo = none := wQ g5 hlo
    have j1 := qk hlo (.lst [.int ((many : Int) + (sz : Int) - 1)])
    have e0 : [V.int ((many : Int) + (sz : Int) - 1)] = outV [many + sz - 1] := congrArg (fun z => [V.int z]) (show (many : Int) + (sz : Int) - 1 = ((many + sz - 1 : Nat) : Int) by omega)
    have eo : upd H5 lo (.lst [.int ((many : Int) + (sz : Int) - 1)]) lo = some (.lst (outV [many + sz - 1])) := by rw [qz, e0]
    refine ⟨(show 4 ≤ sizeLine by decide), fun l4 k4 => ?_⟩
    have j4 := qk k4 (.lst [.int 0, .int 1, .int 2, .int 8])
    have eo := j4 _ _ eo
    have j1 := j1.trans j4
    have e4 := qz (H := upd H5 lo (.lst [.int ((many : Int) + (sz : Int) - 1)])) (a := l4) (o := .lst [.int 0, .int 1, .int 2, .int 8])
    have hlo' : H5 lo = none := hlo
    generalize upd (upd H5 lo (.lst [.int ((many : Int) + (sz : Int) - 1)])) l4 (.lst [.int 0, .int 1, .int 2, .int 8]) = H5a at *
    obtain ⟨cnt, hc, c2'⟩ : ∃ cnt : Nat, atI [V.int 0, V.int 1, V.int 2, V.int 8] (ld2 % 4) = some (.int (cnt : Int)) ∧ cnt ≤ 8 := by
      have a := Int.emod_nonneg ld2 (show (4 : Int) ≠ 0 by decide)
      have b := Int.emod_lt_of_pos ld2 (show (0 : Int) < 4 by decide)
      have z : ld2 % 4 = 0 ∨ ld2 % 4 = 1 ∨ ld2 % 4 = 2 ∨ ld2 % 4 = 3 := by omega
      rcases z with z | z | z | z <;> rw [z]
      · exact ⟨0, rfl, by decide⟩
      · exact ⟨1, rfl, by decide⟩
      · exact ⟨2, rfl, by decide⟩
      · exact ⟨8, rfl, by decide⟩
    refine ⟨_, rfl, _, _, rfl, rfl, (by show (0 : Int) < 4; decide), _, _, _, _, rfl, rfl, SqL.of e4, hc, (cnt : Int), rfl, by omega, by omega, Z6 (n := cnt) (fun i σ H' => Same H5 H' ∧ ∃ (outs : List Nat) (l3 : Int) (u14 : Option V), σ = [some (.ref sa), some (.int (st : Int)), some (.int mb'), some (.ref ls), some (.int l3), some (.int mo), some (.int (many : Int)), some (.bl gr'), some (.int (sz : Int)), some (.ref lu), some (.int bs), u11, u12, some (.ref lo), u14] ∧ H' lo = some (.lst (outV outs)) ∧ outs.length = 1 + i ∧ ∀ o ∈ outs, o < many + sz)
      ⟨j1, [many + sz - 1], _, _, rfl, eo, rfl, fun o ho => by rw [List.mem_singleton.mp ho]; omega⟩ ?_ ?_ ?_⟩
    case refine_1 =>
      rintro σ H6 ⟨g6, outs, l3, u14, rfl, eo, lo1, ol⟩
      refine ⟨by show (cnt : Int).toNat ≤ cnt; omega, ?_⟩
      refine ⟨_, rfl, _, rfl, _, rfl, (show 3 ≤ sizeLine by decide), fun t ht => ?_⟩
      have g7 := qk ht (.tup [.int (many : Int), .ref lu, .ref lo])
      have g67 := g6.trans g7
      have fl : (us.filter isB).length ≤ us.length := List.length_filter_le _ _
      exact q many us outs t lu lo vu _ ⟨wf, by omega, by omega, n1, by omega, by omega, by omega, fun o ho => by rw [lus]; exact ol o ho⟩ (by omega) n3 (by omega) sh (g5.trans g67) (SqT.of qz) nlu (g67 _ _ eu) (rU.mono g67) nlo (g7 _ _ eo)
    case refine_2 =>
      rintro i σ H' hi _
      show i < (cnt : Int).toNat
      omega
    rintro i σ H0 x H' hi ⟨g6, outs, l3, u14, rfl, eo, lo1, ol⟩ ⟨rfl, rfl⟩
    refine ⟨_, rfl, _, rfl, _, rfl, _, _, rfl, rfl, _, _, rfl, rfl, cdivB (n := 64) (by omega) (by unfold Sm; omega), ?_⟩
    dsimp only
    generalize l3.fdiv ((many : Int) + (sz : Int)) = l4
    refine ⟨_, rfl, .inl ⟨rfl, _, SqL.of eo⟩, _, rfl, _, rfl, _, rfl, _, _, rfl, rfl, _, _, rfl, rfl, (by show (0 : Int) < (many : Int) + (sz : Int); omega), lo, _, _, rfl, rfl, eo, by rw [outV_len]; exact zW (by omega), ?_⟩
    obtain ⟨m, hm, ml⟩ : ∃ m : Nat, l4 % ((many : Int) + (sz : Int)) = (m : Int) ∧ m < many + sz := by
      have a := Int.emod_nonneg l4 (show (many : Int) + (sz : Int) ≠ 0 by omega)
      have b := Int.emod_lt_of_pos l4 (show (0 : Int) < (many : Int) + (sz : Int) by omega)
      exact ⟨(l4 % ((many : Int) + (sz : Int))).toNat, by omega, by omega⟩
    dsimp only
    rw [hm]
    have ea : outV outs ++ [V.int (m : Int)] = outV (outs ++ [m]) := by unfold outV; rw [List.map_append]; rfl
    refine ⟨g6.laid hlo _, outs ++ [m], l4, _, rfl, ?_, by rw [List.length_append, lo1]; rfl, fun o ho => ?_⟩
    · rw [qz, ea]
    · rcases List.mem_append.mp ho with k | k
      · exact ol o k
      · rw [List.mem_singleton.mp k]; exact ml
def spRatio : Sp := fun vs H Q _ => ∃ t b : Int, vs = [.int t, .int b] ∧ b ≠ 0 ∧ Sm 8000 b ∧ RetT H Q (T2 (nt t b) (nb t b))
theorem ok_ratio (T : Txt K mg a) : FnOk P w K mg base CX0 2 a.f_ratio a.d_ratio ["top", "bottom"] spRatio := by
  refine T.F_ratio.ok sc_ratio (fun vs H Q E h => ?_) (fun cdv A outer s H vs Q E hr h => ?_)
  · obtain ⟨x, y, rfl, _⟩ := h
    rfl
  obtain ⟨t, b, rfl, hb, hs, q⟩ := h
  refine ⟨_, (qZ (ps_if (PW.pt (pw_or (vx (jz (qW (xJ T) (hr.mono (by decide)) rfl T.m_is_whole T.F_is_whole.kp T.b_is_whole .nil pass0 (pa_c (pv 0) qj) (he := qq rfl _ _) (hpl := qy rfl)))) (pw_or (vx (jz (qW (xJ T) (hr.mono (by decide)) rfl T.m_is_whole T.F_is_whole.kp T.b_is_whole .nil pass0 (pa_c (pv 1) qj) (he := qq rfl _ _) (hpl := qy rfl)))) (wX (qK op_eq (pv 1) qw (qY _))))))
        (qJ ps_never)
        zv)
      (qZ (zj (i := 2) sc_ratio.nd rfl (Or.inl rfl) (qW (ok_common T) (hr.mono (by decide)) rfl T.m_common T.F_common.kp T.b_common .nil pass0 (pa_c (qX (Yq) rfl T.m_abs boot_abs (pa_c (pv 0) qj) (he := qq rfl _ _) (hpl := qy rfl)) (pa_c (qX (Yq) rfl T.m_abs boot_abs (pa_c (pv 1) qj) (he := qq rfl _ _) (hpl := qy rfl)) qj)) (he := qq rfl _ _) (hpl := qy rfl)))
      (qZ (ps_if (qK op_lt (pv 1) qw (qY _))
        (qJ (zj (i := 2) sc_ratio.nd rfl (Or.inl rfl) (pe_un un_neg (pv 2))))
        zv)
      (qJ (zw (vq (pa_c (pe_op vz (pv 0) (pv 2)) (pa_c (pe_op vz (pv 1) (pv 2)) qj)))))))), ?_⟩
  refine ⟨_, rfl, _, _, rfl, .int _, _, rfl, iteF ⟨_, rfl, _, _, rfl, .int _, _, rfl, iteF ⟨_, rfl, rfl, _, rfl, iteN (fun z => hb (V.int.inj z)) ?_⟩⟩⟩
  refine ⟨_, rfl, _, rfl, _, rfl, _, rfl, _, _, rfl, abs_nn _, abs_nn _, ?_⟩
  refine ⟨_, rfl, _, _, rfl, rfl, _, rfl, ?_⟩
  try dsimp only
  rw [abs_gcd]
  have d1 := divB (t := t) hb hs
  refine iteD (fun c => ?_) (fun c => ?_)
  · have e : -((Int.gcd t b : Nat) : Int) = sg t b := by unfold sg; rw [if_pos c]
    refine ⟨_, rfl, _, rfl, ?_⟩
    try dsimp only
    rw [e]
    exact ⟨_, rfl, _, rfl, _, _, rfl, rfl, d1, _, rfl, _, rfl, _, _, rfl, rfl, d1, j0, fun p hp => q.new hp⟩
  · have e : ((Int.gcd t b : Nat) : Int) = sg t b := by unfold sg; rw [if_neg c]
    try dsimp only
    rw [e]
    exact ⟨_, rfl, _, rfl, _, _, rfl, rfl, d1, _, rfl, _, rfl, _, _, rfl, rfl, d1, j0, fun p hp => q.new hp⟩
theorem Y3 {n : Nat} (h : n ≤ 1000) : n ≤ sizeLine := Nat.le_trans h (by decide)
theorem notLong {n : Nat} (h : n ≤ 1000) : Builtin.Str.tooLong n = false := by
  unfold Builtin.Str.tooLong
  exact decide_eq_false (Nat.not_lt.mpr (Y3 h))
theorem low60 {n : Nat} (h : n < 10 ^ 60) : ((n : Nat) : Int).natAbs.log2 < 1920 := by
  rw [Int.natAbs_natCast]
  by_cases c : n = 0
  · subst c; decide
  · exact (Nat.log2_lt c).mpr (Nat.lt_trans h (by decide +kernel))
theorem zJ (x y : Str) : (x ++ y).length = x.length + y.length := by rw [v3, v3, v3, PyProof.Rows.cps_toList_append, List.length_append]
def headS (t : Int) : Str := if t < 0 then Str.ofString "-" ++ figs t.natAbs else figs t.natAbs
def txt (t b : Int) : Str := if b = 1 then headS t else headS t ++ Str.ofString "/" ++ figs b.natAbs
theorem dash : Str.ofString "-" = ⟨#[45]⟩ := by decide
theorem Y1 : Str.ofString "/" = ⟨#[47]⟩ := by decide
theorem nought : Str.ofString "0" = ⟨#[48]⟩ := by decide
theorem Z5 (t : Int) : (headS t).cps.toList = (if t < 0 then [45] else []) ++ figL t.natAbs := by
  unfold headS
  split
  · rw [PyProof.Rows.cps_toList_append, xK, dash]
  · rw [xK]; rfl
theorem headS_free (t : Int) : 47 ∉ (headS t).cps.toList := by
  rw [Z5]
  intro z
  rcases List.mem_append.mp z with z | z
  · split at z
    · exact absurd (List.mem_singleton.mp z) (by decide)
    · cases z
  · have := figL_all t.natAbs 47 z
    omega
theorem headS_len {t : Int} (h : t.natAbs < 10 ^ 60) : (headS t).length ≤ 61 := by
  have := (w5 h).2
  rw [v3, Z5]
  rw [v3, xK] at this
  rw [List.length_append]
  split
  · show 1 + _ ≤ _; omega
  · show 0 + _ ≤ _; omega
theorem txt_len {t b : Int} (h : t.natAbs < 10 ^ 60) (hb : b.natAbs < 10 ^ 60) : (txt t b).length ≤ 200 := by
  have h1 := headS_len h
  have h2 := (w5 hb).2
  unfold txt
  split
  · omega
  · rw [zJ, zJ]
    show _ + 1 + _ ≤ _
    omega
theorem txt_parts {t b : Int} : Txt.partition (txt t b) (Str.ofString "/") = if b = 1 then (headS t, Str.empty, Str.empty) else (headS t, Str.ofString "/", figs b.natAbs) := by
  unfold txt
  rw [Y1]
  split
  · exact part_none (headS_free t)
  · exact Yw (headS_free t)
def spFig : Sp := fun vs H Q _ => ∃ n : Nat, vs = [.int (n : Int)] ∧ n < 10 ^ 60 ∧ ∀ H', Same H H' → Q (.str (figs n)) H'
abbrev Zq (P w K mg base) (a : Adr) (cdv A outer s H E) := (cxOf CX0 P w K mg base ["number", "step", "pieces"] "figures" (qQ vK) a.f_figures cdv A outer s H E).nox
theorem ok_figures (T : Txt K mg a) : FnOk P w K mg base CX0 1 a.f_figures a.d_figures ["number"] spFig := by
  refine T.F_figures.ok sc_figures (fun vs H Q E h => ?_) (fun cdv A outer s H vs Q E hr h => ?_)
  · obtain ⟨_, rfl, _⟩ := h
    rfl
  obtain ⟨n, rfl, hn, q⟩ := h
  have h0 : PS (Zq P w K mg base a cdv A outer s H E) (bS vK 0) _ := (zj (i := 1) sc_figures.nd rfl (Or.inl rfl) (pe_op YQ qw qw))
  have h1 : PS (Zq P w K mg base a cdv A outer s H E) (bS vK 1) _ := (zj (i := 2) sc_figures.nd rfl (Or.inl rfl) (jj qj))
  have h2 : PS (Zq P w K mg base a cdv A outer s H E) (bS vK 2) _ := (ps_while PassesOwn.never (qK op_ge (pv 0) (pv 1) (qY _))
        pss_never)
  have h3 : PS (Zq P w K mg base a cdv A outer s H E) (bS vK 3) _ := (ZQ (pe_bm PySem.F.plainAttrs_list PySem.F.slot_list_append PySem.F.type_list_append xX (pv 2) (pa_c (y8 (wz) rfl T.m_str boot_str (pa_c (pv 0) qj) (he := qq rfl _ _) (hpl := qy rfl)) qj) (hs := qq rfl _ _) (hplain := qy rfl)))
  have h4 : PS (Zq P w K mg base a cdv A outer s H E) (bS vK 4) _ := (zw (pe_joinRev rfl rfl T.m_reversed (pv 2)))
  refine ⟨_, body5 (by rfl) h0 h1 h2 h3 h4, ?_⟩
  clear h0 h1 h2 h3 h4
  have p60 : (10 : Int) ^ (60 : Int).toNat = ((10 ^ 60 : Nat) : Int) := by decide +kernel
  refine ⟨_, _, rfl, rfl, ⟨by decide, by decide, by decide⟩, ?_⟩
  dsimp only
  rw [p60]
  refine ⟨(by decide), fun lp hlp => ?_⟩
  have g0 : Same H (upd H lp (.lst [])) := qk hlp (.lst [])
  refine while_by (fun σ H' => H' = upd H lp (.lst []) ∧ σ = [some (.int (n : Int)), some (.int ((10 ^ 60 : Nat) : Int)), some (.ref lp)]) (fun _ _ => 0) ⟨rfl, rfl⟩ ?_ ?_
  · rintro σ H' ⟨rfl, rfl⟩
    refine ⟨_, rfl, _, rfl, _, _, rfl, rfl, _, rfl, iteN (by omega) ?_⟩
    refine ⟨_, rfl, .inl ⟨rfl, _, SqL.of qz⟩, _, rfl, _, rfl, low60 hn, lp, [], _, rfl, rfl, qz, (show 0 < sizeLine by decide), ?_⟩
    refine ⟨_, rfl, lp, figs n, rfl, qz, notLong (by have := (w5 hn).2; show 0 + (figs n).length + 0 ≤ _; omega), q _ fun b o e => by rw [zK (zk e hlp)]; exact g0 _ _ e⟩
  · rintro σ H' Q1 Q2 hq ⟨v, e, v2, e2, i, j, e3, e4, k, ek, q1⟩
    exact ⟨v, e, v2, e2, i, j, e3, e4, k, ek, hq _ _ q1⟩
theorem abs_nat (t : Int) : (if t < 0 then -t else t) = (t.natAbs : Int) := by split <;> omega
def spShown (K : PySem.W.Frag) : Sp := fun vs H Q _ => ∃ (p : Addr) (t b : Int), vs = [.ref p] ∧ SqT K H p (T2 t b) ∧ t.natAbs < 10 ^ 60 ∧ 0 < b ∧ b.natAbs < 10 ^ 60 ∧ ∀ H', Same H H' → Q (.str (txt t b)) H'
abbrev cb_shown (P w K mg base) (a : Adr) (cdv A outer s H E) := (cxOf CX0 P w K mg base ["one", "text"] "shown" (qQ Q4) a.f_shown cdv A outer s H E).nox
theorem ok_shown (T : Txt K mg a) : FnOk P w K mg base CX0 2 a.f_shown a.d_shown ["one"] (spShown K) := by
  refine T.F_shown.ok sc_shown (fun vs H Q E h => ?_) (fun cdv A outer s H vs Q E hr h => ?_)
  · obtain ⟨_, _, _, rfl, _⟩ := h
    rfl
  obtain ⟨p, t, b, rfl, hp, ht, b0, hb, q⟩ := h
  have h0 : PS (cb_shown P w K mg base a cdv A outer s H E) (bS Q4 0) _ := (zj (i := 1) sc_shown.nd rfl (Or.inl rfl) (qW (ok_figures T) (hr.mono (by decide)) rfl T.m_figures T.F_figures.kp T.b_figures .nil pass0 (pa_c (qX (Yq) rfl T.m_abs boot_abs (pa_c (pe_ix yz (pv 0) qw (fun _ _ => rfl)) qj) (he := qq rfl _ _) (hpl := qy rfl)) qj) (he := qq rfl _ _) (hpl := qy rfl)))
  have h1 : PS (cb_shown P w K mg base a cdv A outer s H E) (bS Q4 1) _ := (ps_if (qK op_lt (pe_ix yz (pv 0) qw (fun _ _ => rfl)) qw (qY _))
        (qJ (zj (i := 1) sc_shown.nd rfl (Or.inl rfl) (pe_op kZ qV (pv 1))))
        zv)
  have h2 : PS (cb_shown P w K mg base a cdv A outer s H E) (bS Q4 2) _ := (ps_if (qK op_ne (pe_ix yz (pv 0) qw (fun _ _ => rfl)) qw (qY _))
        (qJ (zj (i := 1) sc_shown.nd rfl (Or.inl rfl) (pe_op kZ (pe_op kZ (pv 1) qV) (qW (ok_figures T) (hr.mono (by decide)) rfl T.m_figures T.F_figures.kp T.b_figures .nil pass0 (pa_c (pe_ix yz (pv 0) qw (fun _ _ => rfl)) qj) (he := qq rfl _ _) (hpl := qy rfl)))))
        zv)
  have h3 : PS (cb_shown P w K mg base a cdv A outer s H E) (bS Q4 3) _ := (zw (pv 1))
  refine ⟨_, body4 (by rfl) h0 h1 h2 h3, ?_⟩
  clear h0 h1 h2 h3
  have hl := (w5 ht).2
  have hl2 := (w5 hb).2
  refine ⟨_, rfl, _, _, _, _, rfl, rfl, hp, rfl, _, rfl, t.natAbs, congrArg (fun z => [V.int z]) (abs_nat t), ht, fun H1 g1 => ?_⟩
  refine (fun h => ⟨_, rfl, _, _, _, _, rfl, rfl, g1.tup hp, rfl, _, _, rfl, rfl, _, rfl, iteD (fun c => ⟨_, rfl, _, _, rfl, rfl, Y3 (by show 1 + _ ≤ _; omega), ?neg⟩) (fun c => ?pos)⟩) True.intro
  case neg =>
    refine ⟨_, rfl, _, _, _, _, rfl, rfl, g1.tup hp, rfl, rfl, _, rfl, ?_⟩
    by_cases k : b = 1
    · subst k
      refine iteNS rfl ⟨_, rfl, ?_⟩
      have e : txt t 1 = Str.ofString "-" ++ figs t.natAbs := by unfold txt headS; rw [if_pos rfl, if_pos c]
      rw [← e]
      exact q _ g1
    · refine iteNP (fun z => k (V.int.inj z)) ?_
      refine ⟨_, rfl, _, _, rfl, rfl, Y3 (by rw [zJ]; show 1 + _ + 1 ≤ _; omega), _, rfl, _, _, _, _, rfl, rfl, g1.tup hp, rfl, b.natAbs, congrArg (fun z => [V.int z]) (by omega), hb, fun H2 g2 => ?_⟩
      refine ⟨_, _, rfl, rfl, Y3 (by rw [zJ, zJ]; show 1 + _ + 1 + _ ≤ _; omega), _, rfl, ?_⟩
      have e : txt t b = Str.ofString "-" ++ figs t.natAbs ++ Str.ofString "/" ++ figs b.natAbs := by unfold txt headS; rw [if_neg k, if_pos c]
      rw [← e]
      exact q _ (g1.trans g2)
  case pos =>
    refine ⟨_, rfl, _, _, _, _, rfl, rfl, g1.tup hp, rfl, rfl, _, rfl, ?_⟩
    by_cases k : b = 1
    · subst k
      refine iteNS rfl ⟨_, rfl, ?_⟩
      have e : txt t 1 = figs t.natAbs := by unfold txt headS; rw [if_pos rfl, if_neg c]
      rw [← e]
      exact q _ g1
    · refine iteNP (fun z => k (V.int.inj z)) ?_
      refine ⟨_, rfl, _, _, rfl, rfl, Y3 (by show _ + 1 ≤ _; omega), _, rfl, _, _, _, _, rfl, rfl, g1.tup hp, rfl, b.natAbs, congrArg (fun z => [V.int z]) (by omega), hb, fun H2 g2 => ?_⟩
      refine ⟨_, _, rfl, rfl, Y3 (by rw [zJ]; show _ + 1 + _ ≤ _; omega), _, rfl, ?_⟩
      have e : txt t b = figs t.natAbs ++ Str.ofString "/" ++ figs b.natAbs := by unfold txt headS; rw [if_neg k, if_neg c]
      rw [← e]
      exact q _ (g1.trans g2)
theorem leB {n : Nat} (h : n ≤ 1000000) : n ≤ sizeLine := Nat.le_trans h (by decide)
theorem kz {n : Nat} (h : n ≤ 1000000) : n < sizeLine := Nat.lt_of_le_of_lt h (by decide)
theorem dig_iff {c : Nat} : c ∈ (Str.ofString "0123456789").cps.toList ↔ 48 ≤ c ∧ c ≤ 57 := by
  have e : (Str.ofString "0123456789").cps.toList = [48, 49, 50, 51, 52, 53, 54, 55, 56, 57] := by decide
  rw [e]
  simp only [List.mem_cons, List.not_mem_nil, or_false]
  omega
theorem all_dig (cs : List Nat) : (cs.map fun c => decide (c ∈ (Str.ofString "0123456789").cps.toList)).all id = true ↔ PySem.NumText.AllDigits cs := by
  rw [List.all_map, List.all_eq_true]
  constructor
  · exact fun h c hc => dig_iff.mp (of_decide_eq_true (h c hc))
  · exact fun h c hc => decide_eq_true (dig_iff.mpr (h c hc))
def spRWE (C : Addr) : Sp := fun vs H Q E => ∃ x : Str, vs = [.str x] ∧ Asc x ∧ x.length ≤ 200000 ∧ (goodS x → ∀ H', Same H H' → Q (.int (valS x : Int)) H') ∧ (¬ goodS x → ∀ H', Same H H' → E (.ref C) none H')
abbrev Qw (P w K mg base) (a : Adr) (cdv A outer s H E) := (cxOf (CXE P w) P w K mg base ["text"] "read_whole" (qQ jJ) a.f_read_whole cdv A outer s H E)
set_option maxHeartbeats 0 in
theorem kq (T : Txt K mg a) : FnOk P w K mg base (CXE P w) 1 a.f_read_whole a.d_read_whole ["text"] (spRWE a.c_NoText) := by
  refine T.F_read_whole.okE sc_read_whole (fun vs H Q E h => ?_) (fun cdv A outer s H vs Q E hr h => ?_)
  · obtain ⟨_, rfl, _⟩ := h
    rfl
  obtain ⟨x, rfl, asc, l200000, q, qe⟩ := h
  have h0 : PS (Qw P w K mg base a cdv A outer s H E) (bS jJ 0) _ := (ps_if (PW.pt (pw_or (qK op_lt (qX (YW) rfl T.m_len boot_len (pa_c (pv 0) qj) (he := qq rfl _ _) (hpl := qy rfl)) qw (qY _)) (wX (qK op_gt (qX (YW) rfl T.m_len boot_len (pa_c (pv 0) qj) (he := qq rfl _ _) (hpl := qy rfl)) (xq (v := .int 60) rfl T.m_MOST_FIGURES ⟨_, rfl⟩) (qY _)))))
        (qJ (j5 rfl rfl rfl rfl rfl T.x_NoText rfl T.m_NoText (pa_c qV qj)))
        zv)
  have h1 : PS (Qw P w K mg base a cdv A outer s H E) (bS jJ 1) _ := (ps_if (vx (jz (qX (call_all rfl) rfl T.m_all boot_all (pa_c (kj (N := ["sign"]) (ix := [none]) ⟨rfl, rfl, rfl, rfl, trivial, rfl, trivial⟩ rfl (pi_str (pv 0)) (fun _ => (zq (i := 0) (show (["sign"] : List Str).Nodup by decide +kernel) rfl (Or.inl rfl))) (fun _ σ => v7 rfl σ) (fun _ => yV) (fun _ => (kv op_in_str (pv 0) (xq (v := .str "0123456789") rfl T.m_FIGURES ⟨_, rfl⟩) (by with_unfolding_all rfl)))) qj) (he := qq rfl _ _) (hpl := qy rfl))))
        (qJ (j5 rfl rfl rfl rfl rfl T.x_NoText rfl T.m_NoText (pa_c qV qj)))
        zv)
  have h2 : PS (Qw P w K mg base a cdv A outer s H E) (bS jJ 2) _ := (ps_if (PW.pt (Y2 (jz (pe_bm PySem.F.plainAttrs_str PySem.F.slot_str_startswith PySem.F.type_str_startswith mt_startswith (pv 0) (pa_c qV qj) (hs := qq rfl _ _) (hplain := qy rfl))) (Qv (qK op_ne (pv 0) qV (qY _)))))
        (qJ (j5 rfl rfl rfl rfl rfl T.x_NoText rfl T.m_NoText (pa_c qV qj)))
        zv)
  have h3 : PS (Qw P w K mg base a cdv A outer s H E) (bS jJ 3) _ := (zw (y8 (call_int_str) rfl T.m_int boot_int (pa_c (pv 0) qj) (he := qq rfl _ _) (hpl := qy rfl)))
  refine ⟨_, body4 (by rfl) h0 h1 h2 h3, ?_⟩
  clear h0 h1 h2 h3
  have lz : x.length ≤ sizeLine := leB (by omega)
  have one : (1 : Nat) ≤ sizeLine := by decide
  refine ⟨_, rfl, _, rfl, lz, _, _, rfl, rfl, _, rfl, iteD (fun c => ⟨one, qe (fun z => by have := z.1; omega) _ (Same.refl _)⟩) (fun c => ⟨_, rfl, _, rfl, lz, _, _, rfl, rfl, _, rfl, iteD (fun c2 => ⟨one, qe (fun z => by have := z.2.1; omega) _ (Same.refl _)⟩) (fun c2 => ?_)⟩)⟩
  have sz : x.cps.size = x.length := rfl
  have sl : x.cps.toList.length = x.length := (v3 x).symm
  refine ⟨_, rfl, x, rfl, asc.all, yk (n := x.length) (fun i ys H' => H' = H ∧ ys = ((x.cps.toList.take i).map fun c => decide (c ∈ (Str.ofString "0123456789").cps.toList)).map V.bl) ⟨rfl, rfl⟩ (kz (by omega)) ?_ ?_ ?_⟩
  case refine_2 =>
    rintro i ys H' hi _
    show i < x.cps.size
    omega
  case refine_3 =>
    rintro i m' ys H' cc v H2 hi ⟨rfl, rfl⟩ ⟨rfl, c, ec, rfl⟩ nx _
    refine Or.inl ⟨rfl, _, rfl, _, _, rfl, rfl, ?_⟩
    dsimp only
    rw [StrLaws.found_one]
    refine nx _ _ ⟨rfl, ?_⟩
    have ec2 : x.cps.toList[i]? = some c := by rw [Array.getElem?_toList]; exact ec
    rw [zZ ec2, List.map_append, List.map_append]
    rfl
  rintro ys H1 ⟨rfl, rfl⟩
  rw [List.take_of_length_le (by omega)]
  refine ⟨by show x.cps.size ≤ _; omega, fun D hD => ⟨D, _, rfl, SqL.of qz, ?_⟩⟩
  have g := qk hD (.lst ((x.cps.toList.map fun c => decide (c ∈ (Str.ofString "0123456789").cps.toList)).map V.bl))
  by_cases ad : PySem.NumText.AllDigits x.cps.toList
  · rw [(all_dig _).mpr ad]
    refine ⟨_, rfl, iteF ?_⟩
    refine ⟨_, rfl, rfl, _, _, rfl, rfl, _, rfl, ?_⟩
    dsimp only
    rw [nought, starts_one]
    by_cases k : x.cps.toList[0]? = some 48
    · rw [decide_eq_true k]
      refine iteT ⟨_, rfl, rfl, _, rfl, ?_⟩
      by_cases k2 : x = ⟨#[48]⟩
      · refine iteNS (congrArg V.str k2) ?_
        have gd : goodS x := ⟨by omega, by omega, ad, fun _ => k2⟩
        exact ⟨_, rfl, x, _, rfl, by omega, ZX gd, q gd _ g⟩
      · refine iteNP (fun z => k2 (V.str.inj z)) ?_
        exact ⟨one, qe (fun z => k2 (z.2.2.2 k)) _ g⟩
    · rw [decide_eq_false k]
      have gd : goodS x := ⟨by omega, by omega, ad, fun z => absurd z k⟩
      exact iteF (iteF ⟨_, rfl, x, _, rfl, by omega, ZX gd, q gd _ g⟩)
  · rw [Bool.eq_false_iff.mpr fun z => ad ((all_dig _).mp z)]
    exact ⟨_, rfl, iteT ⟨one, qe (fun z => ad z.2.2.1) _ g⟩⟩
theorem cut_sign (x : Str) : cutS (Str.ofString "-" ++ x) (some 1) none = x := by
  apply vJ
  have e : (Str.ofString "-" ++ x).cps.toList = 45 :: x.cps.toList := by rw [zX]; rfl
  have l : (Str.ofString "-" ++ x).length = x.cps.toList.length + 1 := by rw [v3, e]; rfl
  show (((Str.ofString "-" ++ x).cps.toList.drop (min 1 (Str.ofString "-" ++ x).length)).take ((Str.ofString "-" ++ x).length - min 1 (Str.ofString "-" ++ x).length)) = _
  rw [l, e, show min 1 (x.cps.toList.length + 1) = 1 by omega]
  show x.cps.toList.take _ = _
  exact List.take_of_length_le (by omega)
def spRTE (C : Addr) : Sp := fun vs H Q E => ∃ (x y : Str) (s : Bool), vs = [.str x] ∧ x = sgnS s ++ y ∧ s = decide (x.cps.toList[0]? = some 45) ∧ Asc y ∧ x.length ≤ 200000 ∧ (goodS y → ∀ H', Same H H' → Q (.int (tv s y)) H') ∧ (¬ goodS y → ∀ H', Same H H' → E (.ref C) none H')
theorem ok_read_top (T : Txt K mg a) : FnOk P w K mg base (CXE P w) 2 a.f_read_top a.d_read_top ["text"] (spRTE a.c_NoText) := by
  refine T.F_read_top.okE sc_read_top (fun vs H Q E h => ?_) (fun cdv A outer s H vs Q E hr h => ?_)
  · obtain ⟨_, _, _, rfl, _⟩ := h
    rfl
  obtain ⟨x, y, s, rfl, ex, es, asc, l200000, q, qe⟩ := h
  refine ⟨_, (qZ (ps_if (jz (pe_bm PySem.F.plainAttrs_str PySem.F.slot_str_startswith PySem.F.type_str_startswith mt_startswith (pv 0) (pa_c qV qj) (hs := qq rfl _ _) (hplain := qy rfl)))
        (qJ (zw (pe_un un_neg (qW (kq T) (hr.mono (by decide)) rfl T.m_read_whole T.F_read_whole.kp T.b_read_whole .nil passE (pa_c (yj sl_strG (pv 0) (yw qw) jV) qj) (he := qq rfl _ _) (hpl := qy rfl)))))
        zv)
      (qJ (zw (qW (kq T) (hr.mono (by decide)) rfl T.m_read_whole T.F_read_whole.kp T.b_read_whole .nil passE (pa_c (pv 0) qj) (he := qq rfl _ _) (hpl := qy rfl))))), ?_⟩
  refine ⟨_, rfl, rfl, _, _, rfl, rfl, _, rfl, ?_⟩
  dsimp only
  rw [show Txt.startswith x (Str.ofString "-") = s by rw [dash, starts_one, es]]
  have ly : y.length ≤ 200000 := by
    rw [ex, zJ] at l200000
    omega
  cases s with
  | true =>
    refine iteT ⟨_, rfl, _, rfl, x, rfl, leB (by omega), y, ?_, asc, ly, fun gd H' g => ?_, fun ng H' g => qe ng H' g⟩
    · exact congrArg (fun z => [V.str z]) (by rw [ex]; exact cut_sign y)
    · exact ⟨_, rfl, q gd H' g⟩
  | false =>
    refine iteF ⟨_, rfl, y, ?_, asc, ly, fun gd H' g => q gd H' g, fun ng H' g => qe ng H' g⟩
    exact congrArg (fun z => [V.str z]) (by rw [ex]; exact vJ (by rw [zX]; rfl))
theorem sgn_free (s : Bool) : 47 ∉ (sgnS s).cps.toList := by cases s <;> decide
theorem sgn_head {s : Bool} {y z : Str} (h : s = decide ((sgnS s ++ y ++ z).cps.toList[0]? = some 45)) : s = decide ((sgnS s ++ y).cps.toList[0]? = some 45) := by
  cases s with
  | true => rw [zX]; rfl
  | false =>
    symm
    refine decide_eq_false fun k => ?_
    have k2 := of_decide_eq_false h.symm
    refine k2 ?_
    rw [zX, List.getElem?_append_left (List.getElem?_eq_some_iff.mp k).1]
    exact k
theorem headS_tv {s : Bool} {x : Str} (gd : goodS x) (h : ¬ (s = true ∧ valS x = 0)) : headS (tv s x) = sgnS s ++ x := by
  have e := goodS_figs gd
  cases s with
  | true =>
    have n0 : valS x ≠ 0 := fun z => h ⟨rfl, z⟩
    have lt : tv true x < 0 := by show -(valS x : Int) < 0; omega
    have na : (tv true x).natAbs = valS x := by show (-(valS x : Int)).natAbs = _; omega
    unfold headS
    rw [if_pos lt, na, ← e]
    rfl
  | false =>
    have nl : ¬ tv false x < 0 := by show ¬ (valS x : Int) < 0; omega
    have na : (tv false x).natAbs = valS x := by show ((valS x : Int)).natAbs = _; omega
    unfold headS
    rw [if_neg nl, na, ← e]
    exact vJ (by rw [zX]; rfl)
theorem headS_dash {x : Str} : headS 0 ≠ sgnS true ++ x := fun z => by
  have e := congrArg (fun q : Str => q.cps.toList[0]?) z
  have e1 : (headS 0).cps.toList[0]? = some 48 := by rw [Z5]; decide
  have e2 : (sgnS true ++ x).cps.toList[0]? = some 45 := by rw [zX]; rfl
  have e3 : some 48 = some 45 := e1.symm.trans (e.trans e2)
  exact absurd (Option.some.inj e3) (by decide)
theorem tv_abs (s : Bool) (x : Str) : (tv s x).natAbs = valS x := by
  unfold tv
  split <;> omega
def spReadE (K : PySem.W.Frag) (C : Addr) : Sp := fun vs H Q E =>
  (∃ (x : Str) (s : Bool) (ps : List Str), vs = [.str x] ∧ Pts x s ps ∧ Asc x ∧ x.length ≤ 200000 ∧ (∀ t b : Int, outP s ps = some (t, b) → RetT H Q (T2 t b)) ∧ (outP s ps = none → ∀ H', Same H H' → E (.ref C) none H')) ∨
  (∃ v, vs = [v] ∧ IsS K H v ∧ ∀ H', Same H H' → E (.ref C) none H')
abbrev ZY (P w K mg base) (a : Adr) (cdv A outer s H E) := (cxOf (CXE P w) P w K mg base ["text", "parts", "top", "bottom", "one"] "read" (qQ xj) a.f_read cdv A outer s H E)
set_option maxHeartbeats 0 in
theorem ok_read (T : Txt K mg a) : FnOk P w K mg base (CXE P w) 3 a.f_read a.d_read ["text"] (spReadE K a.c_NoText) := by
  refine T.F_read.okE sc_read (fun vs H Q E h => ?_) (fun cdv A outer s H vs Q E hr h => ?_)
  · rcases h with ⟨_, _, _, rfl, _⟩ | ⟨_, rfl, _⟩
    · rfl
    · rfl
  have h0 : PS (ZY P w K mg base a cdv A outer s H E) (bS xj 0) _ := (ps_if (vx (jz (qX (call_iss) rfl T.m_isinstance boot_isinstance (pa_c (pv 0) (pa_c (x4 (v := .ty "str") rfl T.m_str boot_str rfl) qj)) (he := qq rfl _ _) (hpl := qy rfl))))
        (qJ (j5 rfl rfl rfl rfl rfl T.x_NoText rfl T.m_NoText (pa_c qV qj)))
        zv)
  have h1 : PS (ZY P w K mg base a cdv A outer s H E) (bS xj 1) _ := (zj (i := 1) sc_read.nd rfl (Or.inl rfl) (pe_bm PySem.F.plainAttrs_str PySem.F.slot_str_partition PySem.F.type_str_partition YJ (pv 0) (pa_c qV qj) (hs := qq rfl _ _) (hplain := qy rfl)))
  have h2 : PS (ZY P w K mg base a cdv A outer s H E) (bS xj 2) _ := (zj (i := 2) sc_read.nd rfl (Or.inl rfl) (qW (ok_read_top T) (hr.mono (by decide)) rfl T.m_read_top T.F_read_top.kp T.b_read_top .nil passE (pa_c (pe_ix yz (pv 1) qw (fun _ _ => rfl)) qj) (he := qq rfl _ _) (hpl := qy rfl)))
  have h3 : PS (ZY P w K mg base a cdv A outer s H E) (bS xj 3) _ := (zj (i := 3) sc_read.nd rfl (Or.inl rfl) (pe_ifExp (qK op_eq (pe_ix yz (pv 1) qw (fun _ _ => rfl)) qV (qY _)) qw (qW (kq T) (hr.mono (by decide)) rfl T.m_read_whole T.F_read_whole.kp T.b_read_whole .nil passE (pa_c (pe_ix yz (pv 1) qw (fun _ _ => rfl)) qj) (he := qq rfl _ _) (hpl := qy rfl))))
  have h4 : PS (ZY P w K mg base a cdv A outer s H E) (bS xj 4) _ := (ps_if (qK op_eq (pv 3) qw (qY _))
        (qJ (j5 rfl rfl rfl rfl rfl T.x_NoText rfl T.m_NoText (pa_c qV qj)))
        zv)
  have h5 : PS (ZY P w K mg base a cdv A outer s H E) (bS xj 5) _ := (zj (i := 4) sc_read.nd rfl (Or.inl rfl) (qW (ok_ratio T) (hr.mono (by decide)) rfl T.m_ratio T.F_ratio.kp T.b_ratio .nil pass0 (pa_c (pv 2) (pa_c (pv 3) qj)) (he := qq rfl _ _) (hpl := qy rfl)))
  have h6 : PS (ZY P w K mg base a cdv A outer s H E) (bS xj 6) _ := (ps_if (qK op_ne (qW (ok_shown T) (hr.mono (by decide)) rfl T.m_shown T.F_shown.kp T.b_shown .nil pass0 (pa_c (pv 4) qj) (he := qq rfl _ _) (hpl := qy rfl)) (pv 0) (qY _))
        (qJ (j5 rfl rfl rfl rfl rfl T.x_NoText rfl T.m_NoText (pa_c qV qj)))
        zv)
  have h7 : PS (ZY P w K mg base a cdv A outer s H E) (bS xj 7) _ := (zw (pv 4))
  refine ⟨_, body8 (by rfl) h0 h1 h2 h3 h4 h5 h6 h7, ?_⟩
  clear h0 h1 h2 h3 h4 h5 h6 h7
  have one : (1 : Nat) ≤ sizeLine := by decide
  rcases h with ⟨x, sg, ps, rfl, pt, asc, l200000, q, qe⟩ | ⟨v, rfl, is, qe⟩
  case inr => exact ⟨_, rfl, v, rfl, .inr ⟨is, _, rfl, iteT ⟨one, qe _ (Same.refl _)⟩⟩⟩
  refine ⟨_, rfl, _, rfl, .inl ⟨x, rfl, _, rfl, iteF ?_⟩⟩
  refine ⟨_, rfl, rfl, _, _, rfl, rfl, rfl, leB (by omega), fun tp htp => ?_⟩
  have ascP := pt.asc asc
  obtain ⟨es, ex, ne, fr⟩ := pt
  match ps, ne with
  | [y], _ =>
    have ex : x = sgnS sg ++ y := ex
    have fx : 47 ∉ x.cps.toList := by
      rw [ex, zX]
      intro z
      rcases List.mem_append.mp z with z | z
      · exact sgn_free sg z
      · exact fr y (List.mem_singleton.mpr rfl) z
    rw [show Txt.partition x (Str.ofString "/") = (x, Str.empty, Str.empty) by rw [Y1]; exact part_none fx]
    have g1 := qk htp (.tup [.str x, .str Str.empty, .str Str.empty])
    have e1 : SqT K (upd H tp (.tup [.str x, .str Str.empty, .str Str.empty])) tp [.str x, .str Str.empty, .str Str.empty] := SqT.of qz
    dsimp only
    generalize upd H tp (.tup [.str x, .str Str.empty, .str Str.empty]) = H1 at *
    refine ⟨_, rfl, _, _, _, _, rfl, rfl, e1, rfl, x, y, sg, rfl, ex, es, ascP y (List.mem_singleton.mpr rfl), l200000, fun gd H2 g2 => ?_, fun ng H2 g2 => qe (out1n fun z => ng z.1) _ (g1.trans g2)⟩
    refine ⟨_, rfl, _, _, _, _, rfl, rfl, g2.tup e1, rfl, rfl, _, rfl, iteP rfl ?_⟩
    refine ⟨_, rfl, rfl, _, rfl, iteN (by decide) ?_⟩
    have va := goodS_val gd
    have ta := tv_abs sg y
    refine ⟨_, rfl, _, rfl, tv sg y, 1, rfl, by decide, by unfold Sm; decide +kernel, fun pr H3 g3 e3 => ?_⟩
    have nn := n_of (x := tv sg y) (y := 1) (t := tv sg y) (b := 1) (by decide) ⟨by decide, by simp⟩ rfl
    rw [← nn.1, ← nn.2] at e3
    have g13 := g1.trans (g2.trans g3)
    refine ⟨_, rfl, pr, tv sg y, 1, rfl, SqT.of e3, by omega, by decide, by decide +kernel, fun H4 g4 => ?_⟩
    refine ⟨_, rfl, rfl, _, rfl, ?_⟩
    have et : txt (tv sg y) 1 = headS (tv sg y) := by unfold txt; rw [if_pos rfl]
    rw [et]
    by_cases k : sg = true ∧ valS y = 0
    · refine iteNP (fun z => ?_) ⟨one, qe (out1n fun z => z.2 k) _ (g13.trans g4)⟩
      have z := V.str.inj z
      rw [ex, k.1, show tv true y = 0 by show -(valS y : Int) = 0; omega] at z
      exact headS_dash z
    · refine iteNS (congrArg V.str ((headS_tv gd k).trans ex.symm)) ?_
      exact ⟨_, rfl, q _ _ (out1 ⟨gd, k⟩) pr H4 (g13.trans g4) (g4 _ _ e3)⟩
  | y :: z :: rest, _ =>
    have ex : x = sgnS sg ++ (y ++ ⟨#[47]⟩ ++ Str.join ⟨#[47]⟩ (z :: rest)) := ex
    have ex : x = sgnS sg ++ y ++ ⟨#[47]⟩ ++ Str.join ⟨#[47]⟩ (z :: rest) := by
      rw [ex]
      exact vJ (by simp only [zX, List.append_assoc])
    have fy : 47 ∉ (sgnS sg ++ y).cps.toList := by
      rw [zX]
      intro k
      rcases List.mem_append.mp k with k | k
      · exact sgn_free sg k
      · exact fr y (List.mem_cons_self ..) k
    have hd : sg = decide ((sgnS sg ++ y).cps.toList[0]? = some 45) := by
      refine sgn_head (z := ⟨#[47]⟩ ++ Str.join ⟨#[47]⟩ (z :: rest)) ?_
      rw [show sgnS sg ++ y ++ (⟨#[47]⟩ ++ Str.join ⟨#[47]⟩ (z :: rest)) = x by rw [ex]; exact vJ (by simp only [zX, List.append_assoc])]
      exact es
    have lx : (sgnS sg ++ y).length + 1 + (Str.join ⟨#[47]⟩ (z :: rest)).length = x.length := by
      rw [ex, zJ (sgnS sg ++ y ++ ⟨#[47]⟩), zJ (sgnS sg ++ y) ⟨#[47]⟩]
      rfl
    rw [show Txt.partition x (Str.ofString "/") = (sgnS sg ++ y, ⟨#[47]⟩, Str.join ⟨#[47]⟩ (z :: rest)) by rw [Y1, ex]; exact Yw fy]
    have rasc : Asc (Str.join ⟨#[47]⟩ (z :: rest)) := fun c hc => asc c (by rw [ex, zX]; exact List.mem_append_right _ hc)
    generalize er : Str.join ⟨#[47]⟩ (z :: rest) = r at *
    have g1 := qk htp (.tup [.str (sgnS sg ++ y), .str ⟨#[47]⟩, .str r])
    have e1 : SqT K (upd H tp (.tup [.str (sgnS sg ++ y), .str ⟨#[47]⟩, .str r])) tp [.str (sgnS sg ++ y), .str ⟨#[47]⟩, .str r] := SqT.of qz
    dsimp only
    generalize upd H tp (.tup [.str (sgnS sg ++ y), .str ⟨#[47]⟩, .str r]) = H1 at *
    have nout : ¬ (goodS y ∧ goodS r) → outP sg (y :: z :: rest) = none := fun k => by
      cases rest with
      | nil =>
        have er : z = r := er
        subst er
        exact out2n fun k2 => k ⟨k2.1, k2.2.1⟩
      | cons _ _ => rfl
    refine ⟨_, rfl, _, _, _, _, rfl, rfl, e1, rfl, sgnS sg ++ y, y, sg, rfl, rfl, hd, ascP y (List.mem_cons_self ..), by omega, fun gd H2 g2 => ?_, fun ng H2 g2 => qe (nout fun k => ng k.1) _ (g1.trans g2)⟩
    refine ⟨_, rfl, _, _, _, _, rfl, rfl, g2.tup e1, rfl, rfl, _, rfl, iteN (by decide) ?_⟩
    refine ⟨_, rfl, _, _, _, _, rfl, rfl, g2.tup e1, rfl, r, rfl, rasc, by omega, fun gr H3 g3 => ?_, fun ng H3 g3 => qe (nout fun k => ng k.2) _ (g1.trans (g2.trans g3))⟩
    have rest0 : rest = [] := by
      cases rest with
      | nil => rfl
      | cons b bs =>
        have m : 47 ∈ r.cps.toList := by
          rw [← er]
          show 47 ∈ (z ++ ⟨#[47]⟩ ++ Str.join ⟨#[47]⟩ (b :: bs)).cps.toList
          rw [zX, zX]
          exact List.mem_append_left _ (List.mem_append_right _ (List.mem_singleton.mpr rfl))
        have := gr.2.2.1 47 m
        omega
    subst rest0
    have er : z = r := er
    subst er
    have g13 := g1.trans (g2.trans g3)
    have va := goodS_val gd
    have vb := goodS_val gr
    have ta := tv_abs sg y
    refine ⟨_, rfl, rfl, _, rfl, iteD (fun c => ⟨one, qe (out2n fun k => ?_) _ g13⟩) (fun c => ?_)⟩
    · have := V.int.inj c
      omega
    have m0 : (valS z : Int) ≠ 0 := fun k => c (by rw [k])
    refine ⟨_, rfl, _, rfl, tv sg y, (valS z : Int), rfl, m0, by unfold Sm; rw [Int.natAbs_natCast]; exact Nat.lt_trans vb (by decide +kernel), fun pr H4 g4 e4 => ?_⟩
    have R := n_isR (t := tv sg y) (b := (valS z : Int)) m0
    have cr := n_cross (tv sg y) (valS z : Int)
    have l1 := nt_le (tv sg y) (valS z : Int) m0
    have l2 := nb_le (tv sg y) (valS z : Int) m0
    generalize nt (tv sg y) (valS z : Int) = N at *
    generalize nb (tv sg y) (valS z : Int) = M at *
    have M0 := R.pos
    have g14 := g13.trans g4
    refine ⟨_, rfl, pr, N, M, rfl, SqT.of e4, by omega, M0, by omega, fun H5 g5 => ?_⟩
    refine ⟨_, rfl, rfl, _, rfl, ?_⟩
    by_cases k : ¬ (sg = true ∧ valS y = 0) ∧ 2 ≤ valS z ∧ Nat.gcd (valS z) (valS y) = 1
    · have R2 : IsR (tv sg y) (valS z : Int) := ⟨by omega, by rw [tv_gcd, Nat.gcd_comm]; exact k.2.2⟩
      have nn := n_of (x := tv sg y) (y := (valS z : Int)) (t := N) (b := M) (by omega) R2 (by rw [cr])
      have n2 := n_of (x := N) (y := M) (t := N) (b := M) (by omega) R rfl
      have eN : N = tv sg y := n2.1.trans nn.1.symm
      have eM : M = (valS z : Int) := n2.2.trans nn.2.symm
      rw [eN, eM] at e4 ⊢
      have et : txt (tv sg y) (valS z : Int) = x := by
        unfold txt
        rw [if_neg (by omega), headS_tv gd k.1, Int.natAbs_natCast, ← goodS_figs gr, ex, Y1]
      refine iteNS (congrArg V.str et) ?_
      exact ⟨_, rfl, q _ _ (out2 ⟨gd, gr, k⟩) pr H5 (g14.trans g5) (g5 _ _ e4)⟩
    · refine iteNP (fun e => k ?_) ⟨one, qe (out2n fun k2 => k k2.2.2) _ (g14.trans g5)⟩
      have e := V.str.inj e
      have pp := congrArg (fun q : Str => Txt.partition q (Str.ofString "/")) e
      have pp : Txt.partition (txt N M) (Str.ofString "/") = Txt.partition x (Str.ofString "/") := pp
      rw [txt_parts, show Txt.partition x (Str.ofString "/") = (sgnS sg ++ y, ⟨#[47]⟩, z) by rw [Y1, ex]; exact Yw fy] at pp
      by_cases m1 : M = 1
      · rw [if_pos m1] at pp
        have q1 := congrArg (fun q : Str × Str × Str => q.2.1.cps.toList) pp
        exact absurd (show ([] : List Nat) = [47] from q1) (by decide)
      · rw [if_neg m1] at pp
        have q1 : headS N = sgnS sg ++ y := congrArg (fun q : Str × Str × Str => q.1) pp
        have q3 : figs M.natAbs = z := congrArg (fun q : Str × Str × Str => q.2.2) pp
        have eM : M.natAbs = valS z := by rw [← q3, figs_val]
        have eM2 : M = (valS z : Int) := by omega
        rw [eM2] at cr R
        have eN : N = tv sg y := Int.eq_of_mul_eq_mul_right m0 cr
        rw [eN] at q1 R
        refine ⟨fun k2 => ?_, by omega, ?_⟩
        · rw [k2.1, show tv true y = 0 by show -(valS y : Int) = 0; omega] at q1
          exact headS_dash q1
        · have := R.low
          rw [tv_gcd, Nat.gcd_comm] at this
          exact this
theorem cutHiN {vs : List V} {n : Nat} (h : n ≤ vs.length) : cutV vs none (some (n : Int)) = vs.take n := by
  unfold cutV
  rw [HT.sIx_nat, HT.sIx_none, Nat.min_eq_left h]
  rfl
theorem cutLo {vs : List V} {n : Nat} (h : n ≤ vs.length) : cutV vs (some (n : Int)) none = vs.drop n := by
  unfold cutV
  rw [HT.sIx_nat, HT.sIx_none, Nat.min_eq_left h]
  exact List.take_of_length_le (by rw [List.length_drop]; exact Nat.le_refl _)
def SzQ (q : Rat) : Prop := q.num.natAbs < 10 ^ 60 ∧ (q.den : Int).natAbs < 10 ^ 60
def qS (q : Rat) : Str := txt q.num q.den
def termS (x : Nat × Rat) : Str := figs x.1 ++ Str.ofString ":" ++ qS x.2
def unitW : Un → List Str
  | .bend p => [Str.ofString "bend", figs p]
  | .sum c ts => Str.ofString "sum" :: qS c :: ts.map termS
abbrev blank : Str := ⟨#[32]⟩
abbrev yx : Str := ⟨#[10]⟩
def unitS (u : Un) : Str := Str.join blank (unitW u)
def outsW (outs : List Nat) : List Str := Str.ofString "outs" :: outs.map figs
def netR (many : Nat) (us : List Un) (outs : List Nat) : List Str := Str.join blank [Str.ofString "ins", figs many] :: us.map unitS ++ [Str.join blank (outsW outs)]
def netS (many : Nat) (us : List Un) (outs : List Nat) : Str := Str.join yx (netR many us outs)
def SzU : Un → Prop
  | .sum c ts => SzQ c ∧ (∀ x ∈ ts, x.1 < 10 ^ 60 ∧ SzQ x.2) ∧ ts.length ≤ 100
  | .bend p => p < 10 ^ 60
theorem colon : Str.ofString ":" = ⟨#[58]⟩ := by decide
theorem Yz : Str.ofString " " = blank := by decide
theorem line_is : Str.ofString "\n" = yx := by decide
theorem txt_free {t b : Int} {c : Nat} (h : c < 45 ∨ 57 < c) : c ∉ (txt t b).cps.toList := by
  have hd : c ∉ (headS t).cps.toList := by
    rw [Z5]
    intro z
    rcases List.mem_append.mp z with z | z
    · split at z
      · have := List.mem_singleton.mp z
        omega
      · cases z
    · have := figL_all t.natAbs c z
      omega
  unfold txt
  split
  · exact hd
  · rw [PyProof.Rows.cps_toList_append, PyProof.Rows.cps_toList_append, Y1]
    intro z
    rcases List.mem_append.mp z with z | z
    · rcases List.mem_append.mp z with z | z
      · exact hd z
      · have := List.mem_singleton.mp z
        omega
    · exact Y8 (by omega) z
theorem qS_len {q : Rat} (h : SzQ q) : (qS q).length ≤ 200 := txt_len h.1 h.2
theorem qS_free {q : Rat} {c : Nat} (h : c < 45 ∨ 57 < c) : c ∉ (qS q).cps.toList := txt_free h
theorem termS_len {x : Nat × Rat} (h : x.1 < 10 ^ 60) (k : SzQ x.2) : (termS x).length ≤ 261 := by
  have h1 := (w5 h).2
  have h2 := qS_len k
  unfold termS
  rw [zJ, zJ]
  show _ + 1 + _ ≤ _
  omega
theorem termS_free {x : Nat × Rat} {c : Nat} (h : c < 45 ∨ 58 < c) : c ∉ (termS x).cps.toList := by
  unfold termS
  rw [PyProof.Rows.cps_toList_append, PyProof.Rows.cps_toList_append, colon]
  intro z
  rcases List.mem_append.mp z with z | z
  · rcases List.mem_append.mp z with z | z
    · exact Y8 (by omega) z
    · have := List.mem_singleton.mp z
      omega
  · exact qS_free (by omega) z
theorem word_free {u : Un} {c : Nat} (h : c = 32 ∨ c = 10) : ∀ p ∈ unitW u, c ∉ p.cps.toList := by
  intro p hp
  have hc : c < 45 := by omega
  cases u with
  | bend n =>
    rcases List.mem_cons.mp hp with rfl | hp
    · rcases h with rfl | rfl <;> decide
    · rw [List.mem_singleton.mp hp]; exact Y8 (by omega)
  | sum q ts =>
    rcases List.mem_cons.mp hp with rfl | hp
    · rcases h with rfl | rfl <;> decide
    · rcases List.mem_cons.mp hp with rfl | hp
      · exact qS_free (by omega)
      · obtain ⟨x, _, rfl⟩ := List.mem_map.mp hp
        exact termS_free (by omega)
theorem outs_free {outs : List Nat} {c : Nat} (h : c = 32 ∨ c = 10) : ∀ p ∈ outsW outs, c ∉ p.cps.toList := by
  intro p hp
  rcases List.mem_cons.mp hp with rfl | hp
  · rcases h with rfl | rfl <;> decide
  · obtain ⟨x, _, rfl⟩ := List.mem_map.mp hp
    exact Y8 (by omega)
theorem ins_free {n : Nat} {c : Nat} (h : c = 32 ∨ c = 10) : ∀ p ∈ [Str.ofString "ins", figs n], c ∉ p.cps.toList := by
  intro p hp
  rcases List.mem_cons.mp hp with rfl | hp
  · rcases h with rfl | rfl <;> decide
  · rw [List.mem_singleton.mp hp]; exact Y8 (by omega)
theorem unitW_len {u : Un} (h : SzU u) : (unitW u).length ≤ 102 ∧ ∀ p ∈ unitW u, p.length ≤ 261 := by
  cases u with
  | bend n =>
    refine ⟨(show 2 ≤ 102 by decide), fun p hp => ?_⟩
    rcases List.mem_cons.mp hp with rfl | hp
    · decide
    · rw [List.mem_singleton.mp hp]
      have := (w5 (show n < 10 ^ 60 from h)).2
      omega
  | sum q ts =>
    refine ⟨by show (ts.map termS).length + 1 + 1 ≤ 102; rw [List.length_map]; have := h.2.2; omega, fun p hp => ?_⟩
    rcases List.mem_cons.mp hp with rfl | hp
    · decide
    · rcases List.mem_cons.mp hp with rfl | hp
      · have := qS_len h.1
        omega
      · obtain ⟨x, hx, rfl⟩ := List.mem_map.mp hp
        exact termS_len (h.2.1 x hx).1 (h.2.1 x hx).2
theorem Q6 {ws : List Str} {n B : Nat} (l : ws.length ≤ n) (h : ∀ p ∈ ws, p.length ≤ B) : (ws.map (·.length)).sum + ws.length ≤ n * B + n := by
  have k := sum_le h
  have m : ws.length * B ≤ n * B := Nat.mul_le_mul_right _ l
  omega
theorem tq_of {x y : Int} (h : IsR x y) : TQ (Rat.divInt x y) = T2 x y := by
  have e := rat_of h
  unfold TQ
  rw [e.1, e.2]
open Classical in
noncomputable def figO (w : Str) : Option Nat := if goodS w then some (valS w) else none
theorem Q5 {w : Str} (h : goodS w) : figO w = some (valS w) := if_pos h
theorem ZW {w : Str} (h : ¬ goodS w) : figO w = none := if_neg h
theorem figO_good {w : Str} {n : Nat} (h : figO w = some n) : goodS w ∧ n = valS w := by
  by_cases k : goodS w
  · rw [Q5 k] at h
    exact ⟨k, (Option.some.inj h).symm⟩
  · rw [ZW k] at h
    cases h
def sgnB (w : Str) : Bool := decide (w.cps.toList[0]? = some 45)
def bodyS (w : Str) : Str := if sgnB w then ⟨w.cps.toList.tail.toArray⟩ else w
theorem Y5 (w : Str) : w = sgnS (sgnB w) ++ bodyS w := by
  apply vJ
  rw [zX]
  unfold bodyS
  by_cases h : w.cps.toList[0]? = some 45
  · have e : sgnB w = true := decide_eq_true h
    rw [e]
    show _ = [45] ++ w.cps.toList.tail
    cases hw : w.cps.toList with
    | nil => rw [hw] at h; cases h
    | cons c cs =>
      rw [hw] at h
      have : c = 45 := Option.some.inj h
      rw [this]
      rfl
  · have e : sgnB w = false := decide_eq_false h
    rw [e]
    rfl
noncomputable def ratP (w : Str) : Option (Int × Int) := outP (sgnB w) (Txt.split (bodyS w) ⟨#[47]⟩)
theorem pts_of (w : Str) : Pts w (sgnB w) (Txt.split (bodyS w) ⟨#[47]⟩) := pts_split rfl (Y5 w)
noncomputable def ratO (w : Str) : Option Rat := (ratP w).map fun z => Rat.divInt z.1 z.2
theorem ratO_yes {w : Str} {q : Rat} (h : ratO w = some q) : ∃ t b : Int, ratP w = some (t, b) ∧ IsR t b ∧ TQ q = T2 t b := by
  unfold ratO at h
  cases e : ratP w with
  | none => rw [e] at h; cases h
  | some z =>
    rw [e] at h
    have R := outP_ratio (t := z.1) (b := z.2) e
    have h : Rat.divInt z.1 z.2 = q := Option.some.inj h
    exact ⟨z.1, z.2, rfl, R, by rw [← h]; exact tq_of R⟩
theorem ratO_no {w : Str} (h : ratO w = none) : ratP w = none := by
  unfold ratO at h
  cases e : ratP w with
  | none => rfl
  | some z => rw [e] at h; cases h
def allO {α β : Type} (f : α → Option β) : List α → Option (List β)
  | [] => some []
  | x :: xs => match f x, allO f xs with
    | some y, some ys => some (y :: ys)
    | _, _ => none
theorem xY {α β : Type} {f : α → Option β} : ∀ {xs : List α} {x : α}, x ∈ xs → f x = none → allO f xs = none
  | y :: xs, x, h, e => by
    unfold allO
    rcases List.mem_cons.mp h with rfl | h
    · rw [e]
    · rw [xY h e]
      cases f y <;> rfl
theorem Yj {α β : Type} {f : α → Option β} : ∀ {xs : List α} {x : α} {ys : List β} {y : β}, allO f xs = some ys → f x = some y → allO f (xs ++ [x]) = some (ys ++ [y])
  | [], x, ys, y, h, e => by
    have h : [] = ys := Option.some.inj h
    subst h
    show allO f [x] = some [y]
    unfold allO
    rw [e]
    rfl
  | z :: xs, x, ys, y, h, e => by
    unfold allO at h
    show allO f (z :: (xs ++ [x])) = _
    unfold allO
    cases hz : f z with
    | none => rw [hz] at h; cases h
    | some a =>
      cases hx : allO f xs with
      | none => rw [hz, hx] at h; cases h
      | some as =>
        rw [hz, hx] at h
        have h : a :: as = ys := Option.some.inj h
        rw [Yj hx e, ← h]
        rfl
theorem allO_len {α β : Type} {f : α → Option β} : ∀ {xs : List α} {ys : List β}, allO f xs = some ys → ys.length = xs.length
  | [], ys, h => by
    have h : [] = ys := Option.some.inj h
    rw [← h]
    rfl
  | z :: xs, ys, h => by
    unfold allO at h
    cases hz : f z with
    | none => rw [hz] at h; cases h
    | some a =>
      cases hx : allO f xs with
      | none => rw [hz, hx] at h; cases h
      | some as =>
        rw [hz, hx] at h
        have h : a :: as = ys := Option.some.inj h
        rw [← h, List.length_cons, List.length_cons, allO_len hx]
noncomputable def termO (w : Str) : Option (Nat × Rat) := match Txt.split w ⟨#[58]⟩ with
  | [x, y] => match figO x, ratO y with
    | some n, some q => some (n, q)
    | _, _ => none
  | _ => none
abbrev bendW : Str := Str.ofString "bend"
abbrev sumW : Str := Str.ofString "sum"
open Classical in
noncomputable def unitO : List Str → Option Un
  | w0 :: w1 :: r => if w0 = bendW ∧ r = [] then (figO w1).map Un.bend else if w0 = sumW then (match ratO w1, allO termO r with
    | some q, some ts => some (Un.sum q ts)
    | _, _ => none) else none
  | _ => none
open Classical in
noncomputable def j3 (h : Str) : List Str → Option (List Nat)
  | w0 :: r => if w0 = h then allO figO r else none
  | [] => none
def spTermR (K : PySem.W.Frag) (C : Addr) : Sp := fun vs H Q E => ∃ w : Str, vs = [.str w] ∧ Asc w ∧ w.length ≤ 100000 ∧ (∀ x, termO w = some x → RetBy H Q fun H' v => Zz K H' v x) ∧ (termO w = none → ∀ H', Same H H' → E (.ref C) none H')
theorem rat_free {r : Str} {q : Rat} {c : Nat} (h : ratO r = some q) (k : c < 45 ∨ 57 < c) : c ∉ r.cps.toList := by
  obtain ⟨t, b, e, _, _⟩ := ratO_yes h
  have hp := (pts_of r).eq
  have dig : ∀ p ∈ Txt.split (bodyS r) ⟨#[47]⟩, PySem.NumText.AllDigits p.cps.toList := by
    unfold ratP at e
    match hs : Txt.split (bodyS r) ⟨#[47]⟩ with
    | [] => rw [hs] at e; cases e
    | [a] =>
      rw [hs] at e
      intro p hp
      rw [List.mem_singleton.mp hp]
      by_cases g : goodS a ∧ ¬ (sgnB r = true ∧ valS a = 0)
      · exact g.1.2.2.1
      · rw [out1n g] at e; cases e
    | [a, b'] =>
      rw [hs] at e
      by_cases g : goodS a ∧ goodS b' ∧ ¬ (sgnB r = true ∧ valS a = 0) ∧ 2 ≤ valS b' ∧ Nat.gcd (valS b') (valS a) = 1
      · intro p hp
        rcases List.mem_cons.mp hp with rfl | hp
        · exact g.1.2.2.1
        · rw [List.mem_singleton.mp hp]; exact g.2.1.2.2.1
      · rw [out2n g] at e; cases e
    | a :: b' :: c' :: rest => rw [hs] at e; cases e
  rw [hp, zX]
  intro z
  rcases List.mem_append.mp z with z | z
  · cases hs : sgnB r with
    | true =>
      rw [hs] at z
      have : c = 45 := List.mem_singleton.mp z
      omega
    | false => rw [hs] at z; cases z
  · refine Z1 (c := 47) (d := c) (by omega) (fun p hp z => ?_) z
    have := dig p hp c z
    omega
theorem ratO_empty : ratO Str.empty = none := by
  cases h : ratO Str.empty with
  | none => rfl
  | some q =>
    obtain ⟨t, b, e, _, _⟩ := ratO_yes h
    have e2 : Txt.split (bodyS Str.empty) ⟨#[47]⟩ = [Str.empty] := Q7 (ps := [Str.empty]) (by simp) (fun p hp => by rw [List.mem_singleton.mp hp]; show 47 ∉ ([] : List Nat); simp)
    unfold ratP at e
    rw [e2, out1n (fun z => absurd z.1.1 (by decide))] at e
    cases e
theorem Asc.left {x y : Str} (h : Asc (x ++ y)) : Asc x := fun c hc => h c (by rw [zX]; exact List.mem_append_left _ hc)
theorem Asc.right {x y : Str} (h : Asc (x ++ y)) : Asc y := fun c hc => h c (by rw [zX]; exact List.mem_append_right _ hc)
theorem ZK (w : Str) (c : Nat) : c ∉ w.cps.toList ∨ ∃ x r, w = x ++ ⟨#[c]⟩ ++ r ∧ c ∉ x.cps.toList := by
  have j := StrLaws.join_split w ⟨#[c]⟩
  have f := StrLaws.split_free w c
  match hs : Txt.split w ⟨#[c]⟩ with
  | [] =>
    have := PyProof.Rows.split_pos w ⟨#[c]⟩
    rw [hs] at this
    exact absurd this (by decide)
  | [x] =>
    rw [hs] at j f
    have j : x = w := j
    left
    rw [← j]
    exact f x (List.mem_singleton.mpr rfl)
  | x :: y :: r =>
    rw [hs] at j f
    exact .inr ⟨x, Str.join ⟨#[c]⟩ (y :: r), j.symm, f x List.mem_cons_self⟩
theorem Zj {x r : Str} {c : Nat} (h : c ∉ x.cps.toList) : Txt.split (x ++ ⟨#[c]⟩ ++ r) ⟨#[c]⟩ = x :: Txt.split r ⟨#[c]⟩ := by
  have n : Txt.split r ⟨#[c]⟩ ≠ [] := fun z => by
    have := PyProof.Rows.split_pos r ⟨#[c]⟩
    rw [z] at this
    exact absurd this (by decide)
  have e : x ++ ⟨#[c]⟩ ++ r = Str.join ⟨#[c]⟩ (x :: Txt.split r ⟨#[c]⟩) := by
    cases hs : Txt.split r ⟨#[c]⟩ with
    | nil => exact absurd hs n
    | cons y ys =>
      show _ = x ++ ⟨#[c]⟩ ++ Str.join ⟨#[c]⟩ (y :: ys)
      rw [← hs, StrLaws.join_split]
  rw [e]
  refine Q7 (by simp) fun p hp => ?_
  rcases List.mem_cons.mp hp with rfl | hp
  · exact h
  · exact StrLaws.split_free r c p hp
theorem Z2 {w : Str} {c : Nat} (h : c ∉ w.cps.toList) : Txt.split w ⟨#[c]⟩ = [w] := Q7 (ps := [w]) (by simp) fun p hp => by rw [List.mem_singleton.mp hp]; exact h
set_option maxHeartbeats 0 in
theorem ok_read_term (T : Txt K mg a) : FnOk P w K mg base (CXE P w) 4 a.f_read_term a.d_read_term ["word"] (spTermR K a.c_NoText) := by
  refine T.F_read_term.okE sc_read_term (fun vs H Q E h => ?_) (fun cdv A outer s H vs Q E hr h => ?_)
  · obtain ⟨_, rfl, _⟩ := h
    rfl
  obtain ⟨wd, rfl, asc, len, q, qe⟩ := h
  refine ⟨_, (qZ (zj (i := 1) sc_read_term.nd rfl (Or.inl rfl) (pe_bm PySem.F.plainAttrs_str PySem.F.slot_str_partition PySem.F.type_str_partition YJ (pv 0) (pa_c qV qj) (hs := qq rfl _ _) (hplain := qy rfl)))
      (qJ (zw (vq (pa_c (qW (kq T) (hr.mono (by decide)) rfl T.m_read_whole T.F_read_whole.kp T.b_read_whole .nil passE (pa_c (pe_ix yz (pv 1) qw (fun _ _ => rfl)) qj) (he := qq rfl _ _) (hpl := qy rfl)) (pa_c (qW (ok_read T) (hr.mono (by decide)) rfl T.m_read T.F_read.kp T.b_read .nil passE (pa_c (pe_ix yz (pv 1) qw (fun _ _ => rfl)) qj) (he := qq rfl _ _) (hpl := qy rfl)) qj)))))), ?_⟩
  refine ⟨_, rfl, rfl, _, _, rfl, rfl, rfl, leB (by omega), fun pt hpt => ?_⟩
  rcases ZK wd 58 with fr | ⟨x, r, rfl, fr⟩
  · rw [show Txt.partition wd (Str.ofString ":") = (wd, Str.empty, Str.empty) by rw [colon]; exact part_none fr]
    have tn : termO wd = none := by unfold termO; rw [Z2 fr]
    have g1 := qk hpt (.tup [.str wd, .str Str.empty, .str Str.empty])
    have e1 : SqT K (upd H pt (.tup [.str wd, .str Str.empty, .str Str.empty])) pt [.str wd, .str Str.empty, .str Str.empty] := SqT.of qz
    dsimp only
    generalize upd H pt (.tup [.str wd, .str Str.empty, .str Str.empty]) = H1 at *
    refine ⟨_, rfl, _, _, _, _, rfl, rfl, e1, rfl, wd, rfl, asc, by omega, fun gd H2 g2 => ?_, fun ng H2 g2 => qe tn _ (g1.trans g2)⟩
    refine ⟨_, rfl, _, _, _, _, rfl, rfl, g2.tup e1, rfl, .inl ⟨Str.empty, _, _, rfl, pts_of _, fun c hc => (by cases hc), by decide, fun t b e => ?_, fun _ H3 g3 => qe tn _ (g1.trans (g2.trans g3))⟩⟩
    have := ratO_no ratO_empty
    unfold ratP at this
    rw [this] at e
    cases e
  · rw [show Txt.partition (x ++ ⟨#[58]⟩ ++ r) (Str.ofString ":") = (x, ⟨#[58]⟩, r) by rw [colon]; exact Yw fr]
    have e0 : termO (x ++ ⟨#[58]⟩ ++ r) = (match figO x, ratO r with | some n, some q => some (n, q) | _, _ => none) := by
      unfold termO
      rw [Zj fr]
      by_cases k : 58 ∈ r.cps.toList
      · have rn : ratO r = none := by
          cases h : ratO r with
          | none => rfl
          | some q => exact absurd k (rat_free h (by omega))
        rw [rn]
        rcases ZK r 58 with z | ⟨y, r2, e, f2⟩
        · exact absurd k z
        · rw [e, Zj f2]
          have := PyProof.Rows.split_pos r2 ⟨#[58]⟩
          cases hs : Txt.split r2 ⟨#[58]⟩ with
          | nil => rw [hs] at this; exact absurd this (by decide)
          | cons _ _ => cases figO x <;> rfl
      · rw [Z2 k]
    have ascx : Asc x := asc.left.left
    have ascr : Asc r := asc.right
    have lx : x.length + 1 + r.length = (x ++ ⟨#[58]⟩ ++ r).length := by rw [zJ, zJ]; rfl
    have g1 := qk hpt (.tup [.str x, .str ⟨#[58]⟩, .str r])
    have e1 : SqT K (upd H pt (.tup [.str x, .str ⟨#[58]⟩, .str r])) pt [.str x, .str ⟨#[58]⟩, .str r] := SqT.of qz
    dsimp only
    generalize upd H pt (.tup [.str x, .str ⟨#[58]⟩, .str r]) = H1 at *
    refine ⟨_, rfl, _, _, _, _, rfl, rfl, e1, rfl, x, rfl, ascx, by omega, fun gd H2 g2 => ?_, fun ng H2 g2 => qe (by rw [e0, ZW ng]) _ (g1.trans g2)⟩
    refine ⟨_, rfl, _, _, _, _, rfl, rfl, g2.tup e1, rfl, .inl ⟨r, _, _, rfl, pts_of _, ascr, by omega, fun t b e => ?_, fun e H3 g3 => qe ?_ _ (g1.trans (g2.trans g3))⟩⟩
    · have e : ratP r = some (t, b) := e
      have R := outP_ratio e
      have eq : ratO r = some (Rat.divInt t b) := by unfold ratO; rw [e]; rfl
      intro pr H3 g3 e3
      refine ⟨j0, fun t2 ht => ?_⟩
      have g4 := qk ht (.tup [.int (valS x : Int), .ref pr])
      exact q (valS x, Rat.divInt t b) (by rw [e0, Q5 gd, eq]) t2 _ (g1.trans (g2.trans (g3.trans g4))) ⟨t2, pr, rfl, SqT.of qz, by show SqT K _ pr (TQ (Rat.divInt t b)); rw [tq_of R]; exact SqT.of (g4 _ _ e3)⟩
    · have e : ratP r = none := e
      have eq : ratO r = none := by unfold ratO; rw [e]; rfl
      rw [e0, eq]
      cases figO x <;> rfl
theorem mem_joined {c d : Nat} : ∀ {ps : List Str} {p : Str}, p ∈ ps → d ∈ p.cps.toList → d ∈ (Str.join ⟨#[c]⟩ ps).cps.toList
  | [a], p, hp, hc => by rw [List.mem_singleton.mp hp] at hc; exact hc
  | a :: b :: r, p, hp, hc => by
    show d ∈ (a ++ ⟨#[c]⟩ ++ Str.join ⟨#[c]⟩ (b :: r)).cps.toList
    rw [zX, zX]
    rcases List.mem_cons.mp hp with z | z
    · rw [z] at hc
      exact List.mem_append_left _ (List.mem_append_left _ hc)
    · exact List.mem_append_right _ (mem_joined z hc)
def spUnitRd (K : PySem.W.Frag) (C : Addr) : Sp := fun vs H Q E => ∃ r : Str, vs = [.str r] ∧ Asc r ∧ r.length ≤ 100000 ∧ (∀ u, unitO (Txt.split r blank) = some u → RetBy H Q fun H' v => UnAt false K H' v u) ∧ (unitO (Txt.split r blank) = none → ∀ H', Same H H' → E (.ref C) none H')
theorem x3 {x : Str} {c : Nat} (h : Asc x) : ∀ p ∈ Txt.split x ⟨#[c]⟩, Asc p := fun p hp d hd => by
  have e := StrLaws.join_split x ⟨#[c]⟩
  refine h d ?_
  rw [← e]
  exact mem_joined hp hd
theorem x9 (x : Str) (c : Nat) : ∃ w0 r, Txt.split x ⟨#[c]⟩ = w0 :: r := by
  cases h : Txt.split x ⟨#[c]⟩ with
  | nil =>
    have := PyProof.Rows.split_pos x ⟨#[c]⟩
    rw [h] at this
    exact absurd this (by decide)
  | cons a b => exact ⟨a, b, rfl⟩
abbrev QY (P w K mg base) (a : Adr) (cdv A outer s H E) := (cxOf (CXE P w) P w K mg base ["row", "words"] "read_unit" (qQ v8) a.f_read_unit cdv A outer s H E)
set_option maxHeartbeats 0 in
theorem ok_read_unit (T : Txt K mg a) : FnOk P w K mg base (CXE P w) 5 a.f_read_unit a.d_read_unit ["row"] (spUnitRd K a.c_NoText) := by
  refine T.F_read_unit.okE sc_read_unit (fun vs H Q E h => ?_) (fun cdv A outer s H vs Q E hr h => ?_)
  · obtain ⟨_, rfl, _⟩ := h
    rfl
  obtain ⟨rw0, rfl, asc, len, q, qe⟩ := h
  have h0 : PS (QY P w K mg base a cdv A outer s H E) (bS v8 0) _ := (zj (i := 1) sc_read_unit.nd rfl (Or.inl rfl) (pe_bm PySem.F.plainAttrs_str PySem.F.slot_str_split PySem.F.type_str_split QZ (pv 0) (pa_c qV qj) (hs := qq rfl _ _) (hplain := qy rfl)))
  have h1 : PS (QY P w K mg base a cdv A outer s H E) (bS v8 1) _ := (ps_if (PW.pt (Y2 (qK op_eq (pe_ix zV (pv 1) qw (fun _ _ => rfl)) qV (qY _)) (Qv (qK op_eq (qX (zx) rfl T.m_len boot_len (pa_c (pv 1) qj) (he := qq rfl _ _) (hpl := qy rfl)) qw (qY _)))))
        (qJ (zw (vq (pa_c qV (pa_c (qW (kq T) (hr.mono (by decide)) rfl T.m_read_whole T.F_read_whole.kp T.b_read_whole .nil passE (pa_c (pe_ix zV (pv 1) qw (fun _ _ => rfl)) qj) (he := qq rfl _ _) (hpl := qy rfl)) qj)))))
        zv)
  have h2 : PS (QY P w K mg base a cdv A outer s H E) (bS v8 2) _ := (ps_if (PW.pt (Y2 (qK op_eq (pe_ix zV (pv 1) qw (fun _ _ => rfl)) qV (qY _)) (Qv (qK op_gt (qX (zx) rfl T.m_len boot_len (pa_c (pv 1) qj) (he := qq rfl _ _) (hpl := qy rfl)) qw (qY _)))))
        (qJ (zw (vq (pa_c qV (pa_c (qW (ok_read T) (hr.mono (by decide)) rfl T.m_read T.F_read.kp T.b_read .nil passE (pa_c (pe_ix zV (pv 1) qw (fun _ _ => rfl)) qj) (he := qq rfl _ _) (hpl := qy rfl)) (pa_c (pe_compE (E := E) rfl rfl rfl rfl (N := ["word"]) (ix := [none]) ⟨rfl, rfl, rfl, rfl, trivial, rfl, trivial⟩ rfl (jv (yj jZ (pv 1) (yw qw) jV)) (fun _ => (zq (i := 0) (show (["word"] : List Str).Nodup by decide +kernel) rfl (Or.inl rfl))) (fun _ σ => v7 rfl σ) (fun _ => yV) (fun _ => (qW (ok_read_term T) (hr.mono (by decide)) rfl T.m_read_term T.F_read_term.kp T.b_read_term .nil passC (pa_c (pv 0) qj) (he := qq rfl _ _) (hpl := qy rfl)))) qj))))))
        zv)
  have h3 : PS (QY P w K mg base a cdv A outer s H E) (bS v8 3) _ := (j5 rfl rfl rfl rfl rfl T.x_NoText rfl T.m_NoText (pa_c qV qj))
  refine ⟨_, body4 (by rfl) h0 h1 h2 h3, ?_⟩
  clear h0 h1 h2 h3
  have one : (1 : Nat) ≤ sizeLine := by decide
  refine ⟨_, rfl, rfl, _, _, rfl, rfl, rfl, leB (by omega), fun lw kw => ?_⟩
  have short : ∀ p ∈ Txt.split rw0 blank, p.length ≤ 100000 := fun p hp => Nat.le_trans (PyProof.Rows.part_short hp) len
  have pasc : ∀ p ∈ Txt.split rw0 blank, Asc p := x3 (c := 32) asc
  have cnt := PyProof.Rows.split_le rw0 blank
  obtain ⟨w0, r, es⟩ : ∃ w0 r, Txt.split rw0 blank = w0 :: r := x9 rw0 32
  rw [Yz, es]
  rw [es] at short pasc cnt q qe
  have f := qk kw (.lst ((w0 :: r).map V.str))
  have bw : upd H lw (.lst ((w0 :: r).map V.str)) lw = some (.lst (.str w0 :: r.map V.str)) := qz
  generalize upd H lw (.lst ((w0 :: r).map V.str)) = H1 at *
  rw [List.length_cons] at cnt
  have lr : ((.str w0 :: r.map V.str : List V).length : Int) = (r.length : Int) + 1 := by rw [List.length_cons, List.length_map]; omega
  have fin : unitO (w0 :: r) = none → 1 ≤ sizeLine ∧ E (.ref a.c_NoText) none H1 := fun z => ⟨one, qe z _ f⟩
  by_cases cb : w0 = bendW ∧ r.length = 1
  · obtain ⟨rfl, l1⟩ := cb
    obtain ⟨w1, rfl⟩ : ∃ w1, r = [w1] := by
      match r, l1 with
      | [w1], _ => exact ⟨w1, rfl⟩
    have uo : unitO [bendW, w1] = (figO w1).map Un.bend := by unfold unitO; exact if_pos ⟨rfl, rfl⟩
    have bw : H1 lw = some (.lst [.str bendW, .str w1]) := bw
    refine ⟨_, rfl, _, _, _, _, rfl, rfl, SqL.of bw, rfl, rfl, _, rfl, iteP rfl ⟨_, rfl, _, _, rfl, .inl (SqL.of bw), rfl, _, rfl, iteP rfl ?_⟩⟩
    refine ⟨_, rfl, _, _, _, _, rfl, rfl, SqL.of bw, rfl, w1, rfl, pasc w1 (by simp), by have := short w1 (by simp); omega, fun gd H2 g2 => ⟨j0, fun t ht => ?_⟩, fun ng H2 g2 => qe (by rw [uo, ZW ng]; rfl) _ (f.trans g2)⟩
    exact q (.bend (valS w1)) (by rw [uo, Q5 gd]; rfl) t _ (f.trans (g2.trans (qk ht _))) ⟨t, rfl, SqT.of qz⟩
  by_cases cs : w0 = sumW ∧ 1 ≤ r.length
  · obtain ⟨rfl, l1⟩ := cs
    obtain ⟨w1, r2, rfl⟩ : ∃ w1 r2, r = w1 :: r2 := by
      match r, l1 with
      | w1 :: r2, _ => exact ⟨w1, r2, rfl⟩
    have uo : unitO (sumW :: w1 :: r2) = (match ratO w1, allO termO r2 with | some q, some ts => some (Un.sum q ts) | _, _ => none) := by
      unfold unitO
      dsimp only
      rw [if_neg (fun z => absurd z.1 (by decide)), if_pos rfl]
      all_goals rfl
    have bw : H1 lw = some (.lst (.str sumW :: .str w1 :: r2.map V.str)) := bw
    have lr : ((.str sumW :: .str w1 :: r2.map V.str : List V).length : Int) = (r2.length : Int) + 2 := by rw [List.length_cons, List.length_cons, List.length_map]; omega
    rw [List.length_cons] at cnt
    refine ⟨_, rfl, _, _, _, _, rfl, rfl, SqL.of bw, at0, rfl, _, rfl, iteN (by decide) (iteF ?_)⟩
    refine ⟨_, rfl, _, _, _, _, rfl, rfl, SqL.of bw, at0, rfl, _, rfl, iteP rfl ⟨_, rfl, _, _, rfl, .inl (SqL.of bw), _, _, rfl, rfl, _, rfl, iteP (by omega) ?_⟩⟩
    refine ⟨_, rfl, _, _, _, _, rfl, rfl, SqL.of bw, atN (n := 1) rfl, .inl ⟨w1, _, _, rfl, pts_of w1, pasc w1 (by simp), by have := short w1 (by simp); omega, fun t b e pr H2 g2 e2 => ?_, fun e H2 g2 => qe ?_ _ (f.trans g2)⟩⟩
    case refine_2 =>
      have e : ratP w1 = none := e
      have eq : ratO w1 = none := by unfold ratO; rw [e]; rfl
      rw [uo, eq]
    have e : ratP w1 = some (t, b) := e
    have R := outP_ratio e
    have eq : ratO w1 = some (Rat.divInt t b) := by unfold ratO; rw [e]; rfl
    rw [← tq_of R] at e2
    generalize Rat.divInt t b = c at *
    rw [eq] at uo
    refine ⟨_, rfl, _, rfl, _, _, rfl, SqL.of (g2 _ _ bw), fun ls ks => ?_⟩
    rw [show cutV (.str sumW :: .str w1 :: r2.map V.str) (some 2) none = r2.map V.str from cutLo (n := 2) (by omega)]
    have f2 := qk ks (.lst (r2.map V.str))
    have bs := qz (H := H2) (a := ls) (o := .lst (r2.map V.str))
    have e2 := f2 _ _ e2
    have gA := f.trans (g2.trans f2)
    generalize upd H2 ls (.lst (r2.map V.str)) = H3 at *
    have lt : (r2.map V.str).length = r2.length := by rw [List.length_map]
    refine ⟨ls, rfl, ⟨_, SqL.of bs⟩, yk (n := r2.length) (fun i ys H' => Same H3 H' ∧ ∃ ts, allO termO (r2.take i) = some ts ∧ TL K H' ys ts) ⟨Same.refl _, [], rfl, .nil⟩ (kz (by omega)) ?_ ?_ ?_⟩
    case refine_2 =>
      rintro i ys H' hi ⟨g, _⟩
      exact ⟨_, _, SqL.of (g _ _ bs), List.getElem?_eq_getElem (by omega)⟩
    case refine_3 =>
      rintro i m' ys H' cc x Hk hi ⟨g, ts, et, rt⟩ ⟨rfl, y1⟩ nx _
      have ex := y1 _ (SqL.of (g _ _ bs))
      obtain ⟨x0, e0⟩ : ∃ x0, r2[i]? = some x0 := ⟨_, List.getElem?_eq_getElem hi⟩
      rw [List.getElem?_map, e0] at ex
      have ex : V.str x0 = x := Option.some.inj ex
      have mx : x0 ∈ r2 := List.mem_of_getElem? e0
      refine Or.inl ⟨rfl, _, rfl, x0, congrArg (fun z => [z]) ex.symm, pasc x0 (by simp [mx]), short x0 (by simp [mx]), fun y ey p3 H4 g4 e4 => nx _ _ ⟨g.trans g4, ts ++ [y], ?_, Paired.snoc (rt.mono g4) e4⟩, fun en H4 g4 => qe ?_ _ (gA.trans (g.trans g4))⟩
      · rw [zZ e0]
        exact Yj et ey
      · rw [uo, xY mx en]
    rintro vt H4 ⟨g4, ts, et, r4⟩
    rw [List.take_of_length_le (Nat.le_refl _)] at et
    rw [et] at uo
    refine ⟨⟨_, SqL.of (g4 _ _ bs), by omega⟩, fun lt2 k2 => ⟨(show 3 ≤ sizeLine by decide), fun t ht => ?_⟩⟩
    have f4 := qk k2 (.lst vt)
    have f5 := qk ht (.tup [.str sumW, .ref pr, .ref lt2])
    have f45 := f4.trans f5
    exact q (.sum c ts) uo t _ (gA.trans (g4.trans f45)) ⟨t, pr, lt2, vt, rfl, SqT.of qz, SqT.of (f45 _ _ (g4 _ _ e2)), SqL.of (f5 _ _ qz), TL.mono r4 f45⟩
  have uo : unitO (w0 :: r) = none := by
    match r, cb, cs with
    | [], _, _ => rfl
    | w1 :: r2, cb, cs =>
      exact (if_neg (c := w0 = bendW ∧ r2 = []) fun z => cb ⟨z.1, by rw [z.2]; rfl⟩).trans (if_neg (c := w0 = sumW) fun z => cs ⟨z, by rw [List.length_cons]; omega⟩)
  have fin := fin uo
  refine ⟨_, rfl, _, _, _, _, rfl, rfl, SqL.of bw, at0, rfl, _, rfl, ?_⟩
  by_cases c1 : V.str w0 = V.str bendW
  · refine iteP c1 ⟨_, rfl, _, _, rfl, .inl (SqL.of bw), rfl, _, rfl, iteN (fun y => cb ⟨V.str.inj c1, by have := V.int.inj y; omega⟩) ?_⟩
    refine ⟨_, rfl, _, _, _, _, rfl, rfl, SqL.of bw, at0, rfl, _, rfl, iteN (fun z => absurd (c1.symm.trans z) (by decide)) (iteF fin)⟩
  · refine iteN c1 (iteF ?_)
    refine ⟨_, rfl, _, _, _, _, rfl, rfl, SqL.of bw, at0, rfl, _, rfl, ?_⟩
    by_cases c2 : V.str w0 = V.str sumW
    · exact iteP c2 ⟨_, rfl, _, _, rfl, .inl (SqL.of bw), _, _, rfl, rfl, _, rfl, iteN (fun y => cs ⟨V.str.inj c2, by omega⟩) fin⟩
    · exact iteN c2 (iteF fin)
def spPlacesRd (C : Addr) : Sp := fun vs H Q E => ∃ x h : Str, vs = [.str x, .str h] ∧ Asc x ∧ x.length ≤ 100000 ∧ (∀ ns, j3 h (Txt.split x blank) = some ns → ∀ l H', Same H H' → H' l = some (.lst (outV ns)) → Q (.ref l) H') ∧ (j3 h (Txt.split x blank) = none → ∀ H', Same H H' → E (.ref C) none H')
abbrev Z8 (P w K mg base) (a : Adr) (cdv A outer s H E) := (cxOf (CXE P w) P w K mg base ["row", "head", "words"] "read_places" (qQ jw) a.f_read_places cdv A outer s H E)
set_option maxHeartbeats 0 in
theorem ok_read_places (T : Txt K mg a) : FnOk P w K mg base (CXE P w) 2 a.f_read_places a.d_read_places ["row", "head"] (spPlacesRd a.c_NoText) := by
  refine T.F_read_places.okE sc_read_places (fun vs H Q E h => ?_) (fun cdv A outer s H vs Q E hr h => ?_)
  · obtain ⟨_, _, rfl, _⟩ := h
    rfl
  obtain ⟨rw0, hd, rfl, asc, len, q, qe⟩ := h
  have h0 : PS (Z8 P w K mg base a cdv A outer s H E) (bS jw 0) _ := (zj (i := 2) sc_read_places.nd rfl (Or.inl rfl) (pe_bm PySem.F.plainAttrs_str PySem.F.slot_str_split PySem.F.type_str_split QZ (pv 0) (pa_c qV qj) (hs := qq rfl _ _) (hplain := qy rfl)))
  have h1 : PS (Z8 P w K mg base a cdv A outer s H E) (bS jw 1) _ := (ps_if (qK op_ne (pe_ix zV (pv 2) qw (fun _ _ => rfl)) (pv 1) (qY _))
        (qJ (j5 rfl rfl rfl rfl rfl T.x_NoText rfl T.m_NoText (pa_c qV qj)))
        zv)
  have h2 : PS (Z8 P w K mg base a cdv A outer s H E) (bS jw 2) _ := (zw (pe_compE (E := E) rfl rfl rfl rfl (N := ["word"]) (ix := [none]) ⟨rfl, rfl, rfl, rfl, trivial, rfl, trivial⟩ rfl (jv (yj jZ (pv 2) (yw qw) jV)) (fun _ => (zq (i := 0) (show (["word"] : List Str).Nodup by decide +kernel) rfl (Or.inl rfl))) (fun _ σ => v7 rfl σ) (fun _ => yV) (fun _ => (qW (kq T) (hr.mono (by decide)) rfl T.m_read_whole T.F_read_whole.kp T.b_read_whole .nil passC (pa_c (pv 0) qj) (he := qq rfl _ _) (hpl := qy rfl)))))
  refine ⟨_, body3 (by rfl) h0 h1 h2, ?_⟩
  clear h0 h1 h2
  have one : (1 : Nat) ≤ sizeLine := by decide
  refine ⟨_, rfl, rfl, _, _, rfl, rfl, rfl, leB (by omega), fun lw kw => ?_⟩
  have short : ∀ p ∈ Txt.split rw0 blank, p.length ≤ 100000 := fun p hp => Nat.le_trans (PyProof.Rows.part_short hp) len
  have pasc : ∀ p ∈ Txt.split rw0 blank, Asc p := x3 (c := 32) asc
  have cnt := PyProof.Rows.split_le rw0 blank
  obtain ⟨w0, r, es⟩ : ∃ w0 r, Txt.split rw0 blank = w0 :: r := x9 rw0 32
  rw [Yz, es]
  rw [es] at short pasc cnt q qe
  have f := qk kw (.lst ((w0 :: r).map V.str))
  have bw : upd H lw (.lst ((w0 :: r).map V.str)) lw = some (.lst (.str w0 :: r.map V.str)) := qz
  generalize upd H lw (.lst ((w0 :: r).map V.str)) = H1 at *
  rw [List.length_cons] at cnt
  refine ⟨_, rfl, _, _, _, _, rfl, rfl, SqL.of bw, at0, _, rfl, rfl, _, rfl, ?_⟩
  by_cases c : w0 = hd
  case neg =>
    have po : j3 hd (w0 :: r) = none := by unfold j3; exact if_neg c
    exact iteNP (fun z => c (V.str.inj z)) ⟨one, qe po _ f⟩
  have po : j3 hd (w0 :: r) = allO figO r := by unfold j3; exact if_pos c
  refine iteNS (congrArg V.str c) ?_
  refine ⟨_, rfl, _, rfl, _, _, rfl, SqL.of bw, fun ls ks => ?_⟩
  rw [show cutV (.str w0 :: r.map V.str) (some 1) none = r.map V.str from cutLo (n := 1) (by rw [List.length_cons]; omega)]
  have f2 := qk ks (.lst (r.map V.str))
  have bs := qz (H := H1) (a := ls) (o := .lst (r.map V.str))
  generalize upd H1 ls (.lst (r.map V.str)) = H2 at *
  have lt : (r.map V.str).length = r.length := by rw [List.length_map]
  refine ⟨ls, rfl, ⟨_, SqL.of bs⟩, yk (n := r.length) (fun i ys H' => Same H2 H' ∧ ∃ ns, allO figO (r.take i) = some ns ∧ ys = outV ns) ⟨Same.refl _, [], rfl, rfl⟩ (kz (by omega)) ?_ ?_ ?_⟩
  case refine_2 =>
    rintro i ys H' hi ⟨g, _⟩
    exact ⟨_, _, SqL.of (g _ _ bs), List.getElem?_eq_getElem (by omega)⟩
  case refine_3 =>
    rintro i m' ys H' cc x Hk hi ⟨g, ns, en, rfl⟩ ⟨rfl, y1⟩ nx _
    have ex := y1 _ (SqL.of (g _ _ bs))
    obtain ⟨x0, e0⟩ : ∃ x0, r[i]? = some x0 := ⟨_, List.getElem?_eq_getElem hi⟩
    rw [List.getElem?_map, e0] at ex
    have ex : V.str x0 = x := Option.some.inj ex
    have mx : x0 ∈ r := List.mem_of_getElem? e0
    refine Or.inl ⟨rfl, _, rfl, x0, congrArg (fun z => [z]) ex.symm, pasc x0 (by simp [mx]), by have := short x0 (by simp [mx]); omega, fun gd H3 g3 => nx _ _ ⟨g.trans g3, ns ++ [valS x0], ?_, ?_⟩, fun ng H3 g3 => qe ?_ _ (f.trans (f2.trans (g.trans g3)))⟩
    · rw [zZ e0]
      exact Yj en (Q5 gd)
    · unfold outV
      rw [List.map_append]
      rfl
    · rw [po]
      exact xY mx (ZW ng)
  rintro ys H3 ⟨g3, ns, en, rfl⟩
  rw [List.take_of_length_le (Nat.le_refl _)] at en
  refine ⟨⟨_, SqL.of (g3 _ _ bs), by omega⟩, fun lr kr => ?_⟩
  exact q ns (po.trans en) lr _ (f.trans (f2.trans (g3.trans (qk kr _)))) qz
def NetHere (K : PySem.W.Frag) (a : Adr) (H : Hp) (pn : Addr) (many : Nat) (us : List Un) (outs : List Nat) : Prop := ∃ lu lo vk, NetAt a.c_Net H pn lu lo many ∧ SqL K H lu vk ∧ UL true K H vk us ∧ SqL K H lo (outV outs)
theorem cutMid {a z : V} {mid : List V} : cutV (a :: mid ++ [z]) (some 1) (some (-1)) = mid := by
  unfold cutV
  have l : (a :: mid ++ [z]).length = mid.length + 2 := by rw [List.length_append, List.length_cons, List.length_singleton]
  have e1 : HT.sIx (a :: mid ++ [z]).length 0 (some 1) = 1 := by
    have e : HT.sIx (a :: mid ++ [z]).length 0 (some ((1 : Nat) : Int)) = min 1 (a :: mid ++ [z]).length := HT.sIx_nat ..
    have e : HT.sIx (a :: mid ++ [z]).length 0 (some 1) = min 1 (a :: mid ++ [z]).length := e
    omega
  have e2 : HT.sIx (a :: mid ++ [z]).length (a :: mid ++ [z]).length (some (-1)) = mid.length + 1 := by
    show (if (-1 : Int) < 0 then (-1 + ((a :: mid ++ [z]).length : Int)).toNat else min (-1 : Int).toNat (a :: mid ++ [z]).length) = _
    rw [if_pos (by decide)]
    omega
  rw [e1, e2]
  show ((mid ++ [z]).take (mid.length + 1 - 1)) = mid
  rw [show mid.length + 1 - 1 = mid.length by omega, List.take_left]
theorem atLast {a z : V} {mid : List V} : atI (a :: mid ++ [z]) (-1) = some z := by
  have l : (a :: mid ++ [z]).length = mid.length + 2 := by rw [List.length_append, List.length_cons, List.length_singleton]
  unfold atI ixN
  rw [if_neg (by decide), if_pos (by omega)]
  rw [show (-1 + ((a :: mid ++ [z]).length : Int)).toNat = mid.length + 1 by omega]
  show (a :: mid ++ [z])[mid.length + 1]? = some z
  rw [List.getElem?_append_right (by rw [List.length_cons]; exact Nat.le_refl _)]
  simp
theorem negS (m : Nat) : Str.ofString (toString (Int.negSucc m)) = Str.ofString "-" ++ figs (m + 1) := by
  apply vJ
  rw [PyProof.Rows.cps_toList_append]
  unfold figs
  rw [Str.ofString_eq_toList, Str.ofString_eq_toList (toString ((m + 1 : Nat) : Int))]
  show (("-" ++ toString (m + 1)).toList.map Char.toNat) = _
  rw [String.toList_append, List.map_append]
  rfl
theorem ofS (i : Int) : Str.ofString (toString i) = headS i := by
  unfold headS
  by_cases h : i < 0
  · rw [if_pos h]
    obtain ⟨m, rfl⟩ : ∃ m : Nat, i = Int.negSucc m := ⟨(-i - 1).toNat, by omega⟩
    rw [negS]
    rfl
  · rw [if_neg h]
    unfold figs
    rw [show ((i.natAbs : Nat) : Int) = i by omega]
theorem first_bad {α : Type} (p : α → Prop) : ∀ xs : List α, (∀ x ∈ xs, p x) ∨ ∃ l x r, xs = l ++ x :: r ∧ (∀ y ∈ l, p y) ∧ ¬ p x
  | [] => .inl fun x h => by cases h
  | y :: xs => by
    by_cases h : p y
    · rcases first_bad p xs with k | ⟨l, x, r, rfl, h1, h2⟩
      · left
        intro x hx
        rcases List.mem_cons.mp hx with rfl | hx
        · exact h
        · exact k x hx
      · refine .inr ⟨y :: l, x, r, rfl, fun z hz => ?_, h2⟩
        rcases List.mem_cons.mp hz with rfl | hz
        · exact h
        · exact h1 z hz
    · exact .inr ⟨[], y, xs, rfl, fun z hz => (by cases hz), h⟩
theorem Yy {α β : Type} {F : α → β → Prop} : ∀ {l : List β} {x : β} {r : List β} {vs : List α}, Paired F vs (l ++ x :: r) → ∃ v1 v v2, vs = v1 ++ v :: v2 ∧ Paired F v1 l ∧ F v x ∧ Paired F v2 r
  | [], _, _, _, .cons h t => ⟨[], _, _, rfl, .nil, h, t⟩
  | _ :: l, _, _, _, .cons h t => by
    obtain ⟨v1, v, v2, rfl, h1, h2, h3⟩ := Yy (l := l) t
    exact ⟨_ :: v1, v, v2, rfl, .cons h h1, h2, h3⟩
theorem wf_cut {m : Nat} : ∀ (us2 us1 : List Un), WfN m us1 → WfN m (us1 ++ us2) ∨ ∃ l u r, us1 ++ us2 = l ++ u :: r ∧ WfN m l ∧ ¬ WfU (m + l.length) u
  | [], us1, h => .inl (by rw [List.append_nil]; exact h)
  | u :: us2, us1, h => by
    by_cases k : WfU (m + us1.length) u
    · have := wf_cut us2 (us1 ++ [u]) (h.snoc k)
      rw [List.append_assoc] at this
      exact this
    · exact .inr ⟨us1, u, us2, rfl, h, k⟩
def ShortU : Un → Prop
  | .sum _ ts => ts.length ≤ 100
  | .bend _ => True
theorem unit_bad {K : PySem.W.Frag} {H : Hp} {e : Nat} {v : V} {u : Un} (h : UnAt false K H v u) (s : ShortU u) (n : ¬ WfU e u) : NU K H e v := by
  cases u with
  | bend p =>
    obtain ⟨t, rfl, h1⟩ := h
    have n : ¬ p < e := n
    exact .bend h1 (.high (by omega))
  | sum c ts =>
    obtain ⟨t, pc, pt, vs, rfl, h1, h2, h3, h4⟩ := h
    have h3 : SqL K H pt vs := h3
    have s : ts.length ≤ 100 := s
    rcases first_bad (fun x : Nat × Rat => x.1 < e) ts with k | ⟨l, x, r, rfl, k1, k2⟩
    · exact .twice h1 h2 h3 h4 k s fun nd => n ⟨k, nd, s⟩
    · obtain ⟨v1, w, v2, rfl, p1, ⟨tt, rr, rfl, q1, q2⟩, p3⟩ := Yy h4
      have l1 := Paired.length p1
      have l3 := Paired.length p3
      rw [List.length_append, List.length_cons] at s
      exact .sum h1 (.bad h2 h3 p1 k1 (by omega) (.fst q1 q2 (.high (by omega))))
theorem net_bad {K : PySem.W.Frag} {H : Hp} {m : Nat} {l o : Addr} {vu : List V} {us : List Un} {outs : List Nat} (hl : SqL K H l vu) (ru : UL false K H vu us) (ho : SqL K H o (outV outs)) (s : ∀ u ∈ us, ShortU u) (n : ¬ NetOk m us outs) : NN K H (.int (m : Int)) (.ref l) (.ref o) := by
  by_cases m1 : m < 1
  · exact .low (by omega)
  by_cases m6 : 6 < m
  · exact .high (by omega)
  have lvu := ru.length
  have lo : (outV outs).length = outs.length := by unfold outV; rw [List.length_map]
  by_cases l80 : 80 < us.length
  · exact .units (by omega) (by omega) (.len hl (by omega))
  rcases wf_cut (m := m) us [] (fun k u e => nil_get e) with wf | ⟨x, u, r, e, wf, nu⟩
  · have wf : WfN m us := wf
    by_cases b20 : 20 < (us.filter isB).length
    · exact .units (by omega) (by omega) (.bends hl ru wf (by omega) b20)
    refine .outs (by omega) (by omega) hl ru wf (by omega) (by omega) ?_
    by_cases o12 : outs.length < 1 ∨ 12 < outs.length
    · exact .len ho (by omega)
    rcases first_bad (fun z : Nat => z < m + us.length) outs with k | ⟨x, z, r, rfl, k1, k2⟩
    · exact absurd ⟨wf, by omega, by omega, by omega, by omega, by omega, by omega, k⟩ n
    · have e : outV (x ++ z :: r) = outV x ++ .int (z : Int) :: outV r := by unfold outV; rw [List.map_append]; rfl
      rw [e] at ho
      rw [List.length_append, List.length_cons] at o12
      have lr : (outV r).length = r.length := by unfold outV; rw [List.length_map]
      exact .bad ho k1 (by omega) (.high (by omega))
  · have e : us = x ++ u :: r := e
    subst e
    obtain ⟨v1, w, v2, rfl, p1, p2, p3⟩ := Yy ru
    have l1 := Paired.length p1
    have l3 := Paired.length p3
    rw [List.length_append, List.length_cons] at l80
    refine .units (by omega) (by omega) (.bad hl p1 wf (by omega) ?_)
    rw [l1]
    exact unit_bad p2 (s u (List.mem_append_right _ List.mem_cons_self)) nu
abbrev insW : Str := Str.ofString "ins"
abbrev outW : Str := Str.ofString "outs"
def combO : Option (List Nat) → Option (List Un) → Option (List Nat) → Option (Nat × List Un × List Nat)
  | some [m], some us, some outs => some (m, us, outs)
  | _, _, _ => none
noncomputable def netO (x : Str) : Option (Nat × List Un × List Nat) := match Txt.split x yx with
  | f :: b :: r => combO (j3 insW (Txt.split f blank)) (allO (fun z => unitO (Txt.split z blank)) (b :: r).dropLast) (j3 outW (Txt.split ((b :: r).getLast (by simp)) blank))
  | _ => none
theorem netO_one {x f : Str} (h : Txt.split x yx = [f]) : netO x = none := by unfold netO; rw [h]
theorem netO_two {x f z : Str} {mid : List Str} (h : Txt.split x yx = f :: mid ++ [z]) : netO x = combO (j3 insW (Txt.split f blank)) (allO (fun z => unitO (Txt.split z blank)) mid) (j3 outW (Txt.split z blank)) := by
  unfold netO
  rw [h]
  cases mid with
  | nil => rfl
  | cons b mid =>
    show combO _ (allO _ (b :: (mid ++ [z])).dropLast) (j3 outW (Txt.split ((b :: (mid ++ [z])).getLast _) blank)) = _
    have e1 : (b :: (mid ++ [z])).dropLast = b :: mid := by
      show ((b :: mid) ++ [z]).dropLast = _
      rw [List.dropLast_concat]
    have e2 : ∀ pf, (b :: (mid ++ [z])).getLast pf = z := fun pf => by
      show ((b :: mid) ++ [z]).getLast _ = z
      rw [List.getLast_concat]
    rw [e1, e2]
theorem rows_cut (xs : List Str) (n : xs ≠ []) : (∃ f, xs = [f]) ∨ ∃ f mid z, xs = f :: mid ++ [z] := by
  cases xs with
  | nil => exact absurd rfl n
  | cons f r =>
    by_cases h : r = []
    · exact .inl ⟨f, by rw [h]⟩
    · refine .inr ⟨f, r.dropLast, r.getLast h, ?_⟩
      rw [List.cons_append, List.dropLast_concat_getLast]
def spNetRd (K : PySem.W.Frag) (a : Adr) : Sp := fun vs H Q E => (∃ x : Str, vs = [.str x] ∧ Asc x ∧ x.length ≤ 200000 ∧ (∀ r ∈ Txt.split x yx, r.length ≤ 90000 ∧ (Txt.split r blank).length ≤ 100) ∧ (∀ m us outs, netO x = some (m, us, outs) → NetOk m us outs → ∀ p H', Same H H' → NetHere K a H' p m us outs → Q (.ref p) H') ∧ (∀ m us outs, netO x = some (m, us, outs) → ¬ NetOk m us outs → ∀ H', Same H H' → E (.ref a.c_NoNet) none H') ∧ (netO x = none → ∀ H', Same H H' → E (.ref a.c_NoText) none H')) ∨
  (∃ v, vs = [v] ∧ IsS K H v ∧ ∀ H', Same H H' → E (.ref a.c_NoText) none H')
theorem unitO_short {ws : List Str} {u : Un} (h : unitO ws = some u) (l : ws.length ≤ 100) : ShortU u := by
  match ws, h with
  | w0 :: w1 :: r, h =>
    unfold unitO at h
    dsimp only at h
    split at h
    · cases e : figO w1 with
      | none => rw [e] at h; cases h
      | some n => rw [e] at h; cases h; trivial
    · split at h
      · cases e1 : ratO w1 with
        | none => rw [e1] at h; cases h
        | some q =>
          cases e2 : allO termO r with
          | none => rw [e1, e2] at h; cases h
          | some ts =>
            rw [e1, e2] at h
            cases h
            have := allO_len e2
            rw [List.length_cons, List.length_cons] at l
            show ts.length ≤ 100
            omega
      · cases h
theorem allO_all {α β : Type} {f : α → Option β} {P : β → Prop} : ∀ {xs : List α} {ys : List β}, allO f xs = some ys → (∀ x ∈ xs, ∀ y, f x = some y → P y) → ∀ y ∈ ys, P y
  | [], ys, h, _ => by
    have h : [] = ys := Option.some.inj h
    intro y hy
    rw [← h] at hy
    cases hy
  | z :: xs, ys, h, k => by
    unfold allO at h
    cases hz : f z with
    | none => rw [hz] at h; cases h
    | some b =>
      cases hx : allO f xs with
      | none => rw [hz, hx] at h; cases h
      | some bs =>
        rw [hz, hx] at h
        have h : b :: bs = ys := Option.some.inj h
        intro y hy
        rw [← h] at hy
        rcases List.mem_cons.mp hy with rfl | hy
        · exact k z List.mem_cons_self y hz
        · exact allO_all hx (fun x hx2 => k x (List.mem_cons_of_mem _ hx2)) y hy
theorem placesO_head {h g : Str} {ws : List Str} {ns : List Nat} (e : j3 h ws = some ns) (n : h ≠ g) : j3 g ws = none := by
  cases ws with
  | nil => rfl
  | cons w0 r =>
    by_cases c : w0 = h
    · unfold j3
      exact if_neg fun z => n (c.symm.trans z)
    · have k : j3 h (w0 :: r) = none := by unfold j3; exact if_neg c
      rw [k] at e
      cases e
theorem cutMid1 {x : V} : cutV [x] (some 1) (some (-1)) = [] := rfl
abbrev xV (P w K mg base) (a : Adr) (cdv A outer s H E) := (cxOf (CXE P w) P w K mg base ["text", "rows", "many", "units"] "read_net" (qQ jW) a.f_read_net cdv A outer s H E)
set_option maxHeartbeats 0 in
theorem ok_read_net (T : Txt K mg a) : FnOk P w K mg base (CXE P w) 9 a.f_read_net a.d_read_net ["text"] (spNetRd K a) := by
  refine T.F_read_net.okE Zx (fun vs H Q E h => ?_) (fun cdv A outer s H vs Q E hr h => ?_)
  · rcases h with ⟨_, rfl, _⟩ | ⟨_, rfl, _⟩
    · rfl
    · rfl
  have h0 : PS (xV P w K mg base a cdv A outer s H E) (bS jW 0) _ := (ps_if (vx (jz (qX (call_iss) rfl T.m_isinstance boot_isinstance (pa_c (pv 0) (pa_c (x4 (v := .ty "str") rfl T.m_str boot_str rfl) qj)) (he := qq rfl _ _) (hpl := qy rfl))))
        (qJ (j5 rfl rfl rfl rfl rfl T.x_NoText rfl T.m_NoText (pa_c qV qj)))
        zv)
  have h1 : PS (xV P w K mg base a cdv A outer s H E) (bS jW 1) _ := (zj (i := 1) Zx.nd rfl (Or.inl rfl) (pe_bm PySem.F.plainAttrs_str PySem.F.slot_str_split PySem.F.type_str_split QZ (pv 0) (pa_c qV qj) (hs := qq rfl _ _) (hplain := qy rfl)))
  have h2 : PS (xV P w K mg base a cdv A outer s H E) (bS jW 2) _ := (zj (i := 2) Zx.nd rfl (Or.inl rfl) (qW (ok_read_places T) (hr.mono (by decide)) rfl T.m_read_places T.F_read_places.kp T.b_read_places .nil passE (pa_c (pe_ix zV (pv 1) qw (fun _ _ => rfl)) (pa_c qV qj)) (he := qq rfl _ _) (hpl := qy rfl)))
  have h3 : PS (xV P w K mg base a cdv A outer s H E) (bS jW 3) _ := (ps_if (qK op_ne (qX (zx) rfl T.m_len boot_len (pa_c (pv 2) qj) (he := qq rfl _ _) (hpl := qy rfl)) qw (qY _))
        (qJ (j5 rfl rfl rfl rfl rfl T.x_NoText rfl T.m_NoText (pa_c qV qj)))
        zv)
  have h4 : PS (xV P w K mg base a cdv A outer s H E) (bS jW 4) _ := (ps_setCompE (E := E) rfl rfl rfl rfl (i := 3) Zx.nd rfl (Or.inl rfl) (N := ["row"]) (ix := [none]) ⟨rfl, rfl, rfl, rfl, trivial, rfl, trivial⟩ rfl (jv (yj jZ (pv 1) (yw qw) (yw (pe_un un_neg qw)))) (fun _ => (zq (i := 0) (show (["row"] : List Str).Nodup by decide +kernel) rfl (Or.inl rfl))) (fun _ σ => v7 rfl σ) (fun _ => yV) (fun _ => (qW (ok_read_unit T) (hr.mono (by decide)) rfl T.m_read_unit T.F_read_unit.kp T.b_read_unit .nil passC (pa_c (pv 0) qj) (he := qq rfl _ _) (hpl := qy rfl))))
  have h5 : PS (xV P w K mg base a cdv A outer s H E) (bS jW 5) _ := (zw (pe_make T.M_Net (ok_Net_init T) (hr.mono (by decide)) rfl T.m_Net T.b_Net_init .nil passE (pa_c (pe_ix zV (pv 2) qw (fun _ _ => rfl)) (pa_c (pv 3) (pa_c (qW (ok_read_places T) (hr.mono (by decide)) rfl T.m_read_places T.F_read_places.kp T.b_read_places .nil passE (pa_c (pe_ix zV (pv 1) (pe_un un_neg qw) (fun _ _ => rfl)) (pa_c qV qj)) (he := qq rfl _ _) (hpl := qy rfl)) qj))) (he := qq rfl _ _) (hpl := qy rfl)))
  refine ⟨_, body6 (by rfl) h0 h1 h2 h3 h4 h5, ?_⟩
  clear h0 h1 h2 h3 h4 h5
  have one : (1 : Nat) ≤ sizeLine := by decide
  rcases h with ⟨x, rfl, asc, len, rows, q, qn, qe⟩ | ⟨v, rfl, is, qe⟩
  case inr => exact ⟨_, rfl, v, rfl, .inr ⟨is, _, rfl, iteT ⟨one, qe _ (Same.refl _)⟩⟩⟩
  refine ⟨_, rfl, _, rfl, .inl ⟨x, rfl, _, rfl, iteF ?_⟩⟩
  refine ⟨_, rfl, rfl, _, _, rfl, rfl, rfl, leB (by omega), fun lw kw => ?_⟩
  have pasc : ∀ p ∈ Txt.split x yx, Asc p := x3 (c := 10) asc
  have cnt := PyProof.Rows.split_le x yx
  rw [line_is]
  rcases rows_cut (Txt.split x yx) (by obtain ⟨w0, r, e⟩ := x9 x 10; rw [show Txt.split x yx = w0 :: r from e]; simp) with ⟨f, es⟩ | ⟨f, mid, z, es⟩
  ·
    have no := netO_one es
    rw [es]
    rw [es] at pasc rows
    have rf := rows f (List.mem_singleton.mpr rfl)
    have g0 := qk kw (.lst ([f].map V.str))
    have bw : upd H lw (.lst ([f].map V.str)) lw = some (.lst [.str f]) := qz
    generalize upd H lw (.lst ([f].map V.str)) = H1 at *
    refine ⟨_, rfl, _, _, _, _, rfl, rfl, SqL.of bw, rfl, f, insW, rfl, pasc f (List.mem_singleton.mpr rfl), by omega, fun ns en lm H2 g2 em => ?_, fun en H2 g2 => qe no _ (g0.trans g2)⟩
    have lo : (outV ns).length = ns.length := by unfold outV; rw [List.length_map]
    refine ⟨_, rfl, _, _, rfl, .inl (SqL.of em), rfl, _, rfl, ?_⟩
    by_cases c : ns.length = 1
    case neg => exact iteNP (fun z => c (by have := V.int.inj z; omega)) ⟨one, qe no _ (g0.trans g2)⟩
    obtain ⟨m, rfl⟩ : ∃ m, ns = [m] := by
      match ns, c with
      | [m], _ => exact ⟨m, rfl⟩
    have em : H2 lm = some (.lst [.int (m : Int)]) := em
    refine iteNS rfl ?_
    have bw := g2 _ _ bw
    refine ⟨_, rfl, _, rfl, _, rfl, _, rfl, _, _, rfl, SqL.of bw, fun ls ks => ?_⟩
    rw [cutMid1]
    have f2 := qk ks (.lst [])
    have bs := qz (H := H2) (a := ls) (o := .lst [])
    have bw := f2 _ _ bw
    have em := f2 _ _ em
    have gA := g0.trans (g2.trans f2)
    generalize upd H2 ls (.lst []) = H3 at *
    refine ⟨ls, rfl, ⟨_, SqL.of bs⟩, yk (n := 0) (fun i ys H' => H' = H3 ∧ ys = []) ⟨rfl, rfl⟩ (by decide) ?_ ?_ ?_⟩
    case refine_2 =>
      rintro i ys H' hi _
      omega
    case refine_3 =>
      rintro i m' ys H' cc y Hk hi
      omega
    rintro ys H4 ⟨rfl, rfl⟩
    refine ⟨⟨_, SqL.of bs, Nat.le_refl _⟩, fun lU kU => ?_⟩
    have f4 := qk kU (.lst [])
    refine ⟨_, rfl, _, _, _, _, rfl, rfl, SqL.of (f4 _ _ em), rfl, _, rfl, _, rfl, _, rfl, _, _, _, _, rfl, rfl, SqL.of (f4 _ _ bw), rfl, f, outW, rfl, pasc f (List.mem_singleton.mpr rfl), by omega, fun ns en2 lm H2 g2 em => ?_, fun en2 H5 g5 => qe no _ (gA.trans (f4.trans g5))⟩
    rw [placesO_head en (by decide)] at en2
    cases en2
  have no := netO_two es
  rw [es]
  rw [es] at pasc rows cnt
  have mf : f ∈ f :: mid ++ [z] := List.mem_append_left _ List.mem_cons_self
  have mz : z ∈ f :: mid ++ [z] := List.mem_append_right _ (List.mem_singleton.mpr rfl)
  have rf := rows f mf
  have rz := rows z mz
  have lmid : mid.length + 2 ≤ 200002 := by rw [List.length_append, List.length_cons, List.length_singleton] at cnt; omega
  have em0 : (f :: mid ++ [z]).map V.str = .str f :: mid.map V.str ++ [.str z] := by rw [List.map_append]; rfl
  rw [em0]
  have g0 := qk kw (.lst (.str f :: mid.map V.str ++ [.str z]))
  have bw := qz (H := H) (a := lw) (o := .lst (.str f :: mid.map V.str ++ [.str z]))
  generalize upd H lw (.lst (.str f :: mid.map V.str ++ [.str z])) = H1 at *
  refine ⟨_, rfl, _, _, _, _, rfl, rfl, SqL.of bw, at0, f, insW, rfl, pasc f mf, by omega, fun ns en lm H2 g2 em => ?_, fun en H2 g2 => qe (by rw [no, en]; rfl) _ (g0.trans g2)⟩
  have lo : (outV ns).length = ns.length := by unfold outV; rw [List.length_map]
  refine ⟨_, rfl, _, _, rfl, .inl (SqL.of em), rfl, _, rfl, ?_⟩
  by_cases c : ns.length = 1
  case neg =>
    refine iteNP (fun z => c (by have := V.int.inj z; omega)) ⟨one, qe ?_ _ (g0.trans g2)⟩
    rw [no, en]
    match ns, c with
    | [], _ => rfl
    | _ :: _ :: _, _ => rfl
  obtain ⟨m, rfl⟩ : ∃ m, ns = [m] := by
    match ns, c with
    | [m], _ => exact ⟨m, rfl⟩
  have em : H2 lm = some (.lst [.int (m : Int)]) := em
  rw [en] at no
  refine iteNS rfl ?_
  have gA := g0.trans g2
  have bw := g2 _ _ bw
  refine ⟨_, rfl, _, rfl, _, rfl, _, rfl, _, _, rfl, SqL.of bw, fun ls ks => ?_⟩
  rw [cutMid]
  have f2 := qk ks (.lst (mid.map V.str))
  have bs := qz (H := H2) (a := ls) (o := .lst (mid.map V.str))
  have bw := f2 _ _ bw
  have em := f2 _ _ em
  have gA := gA.trans f2
  generalize upd H2 ls (.lst (mid.map V.str)) = H3 at *
  have lt : (mid.map V.str).length = mid.length := by rw [List.length_map]
  refine ⟨ls, rfl, ⟨_, SqL.of bs⟩, yk (n := mid.length) (fun i ys H' => Same H3 H' ∧ ∃ us, allO (fun z => unitO (Txt.split z blank)) (mid.take i) = some us ∧ UL false K H' ys us) ⟨Same.refl _, [], rfl, .nil⟩ (kz (by omega)) ?_ ?_ ?_⟩
  case refine_2 =>
    rintro i ys H' hi ⟨g, _⟩
    exact ⟨_, _, SqL.of (g _ _ bs), List.getElem?_eq_getElem (by omega)⟩
  case refine_3 =>
    rintro i m' ys H' cc y Hk hi ⟨g, us, eu, ru⟩ ⟨rfl, y1⟩ nx _
    have ex := y1 _ (SqL.of (g _ _ bs))
    obtain ⟨x0, e0⟩ : ∃ x0, mid[i]? = some x0 := ⟨_, List.getElem?_eq_getElem hi⟩
    rw [List.getElem?_map, e0] at ex
    have ex : V.str x0 = y := Option.some.inj ex
    have m0 : x0 ∈ mid := List.mem_of_getElem? e0
    have mx : x0 ∈ f :: mid ++ [z] := List.mem_append_left _ (List.mem_cons_of_mem _ m0)
    have rx := rows x0 mx
    refine Or.inl ⟨rfl, _, rfl, x0, congrArg (fun z => [z]) ex.symm, pasc x0 mx, by omega, fun u hu p3 H4 g4 e4 => nx _ _ ⟨g.trans g4, us ++ [u], ?_, UL.snoc (ru.mono g4) e4⟩, fun en H4 g4 => qe ?_ _ (gA.trans (g.trans g4))⟩
    · rw [zZ e0]
      exact Yj eu hu
    · rw [no, xY (f := fun z => unitO (Txt.split z blank)) m0 en]
      rfl
  rintro vu H4 ⟨g4, us, eu, r4⟩
  rw [List.take_of_length_le (Nat.le_refl _)] at eu
  rw [eu] at no
  have sh : ∀ u ∈ us, ShortU u := allO_all eu fun x0 h0 u hu => unitO_short hu (rows x0 (List.mem_append_left _ (List.mem_cons_of_mem _ h0))).2
  refine ⟨⟨_, SqL.of (g4 _ _ bs), by omega⟩, fun lU kU => ?_⟩
  have f4 := qk kU (.lst vu)
  have eU := qz (H := H4) (a := lU) (o := .lst vu)
  have r4 := r4.mono f4
  have gB := g4.trans f4
  have bw := gB _ _ bw
  have em := gB _ _ em
  have gA := gA.trans gB
  generalize upd H4 lU (.lst vu) = H5 at *
  refine ⟨_, rfl, _, _, _, _, rfl, rfl, SqL.of em, rfl, _, rfl, _, rfl, _, rfl, _, _, _, _, rfl, rfl, SqL.of bw, atLast, z, outW, rfl, pasc z mz, by omega, fun outs eo lO H6 g6 eO => ?_, fun eo H6 g6 => qe (by rw [no, eo]; rfl) _ (gA.trans g6)⟩
  rw [eo] at no
  have no : netO x = some (m, us, outs) := no
  have eU := g6 _ _ eU
  have r4 := r4.mono g6
  have gA := gA.trans g6
  refine fun y dx hx hdx ne => ?_
  have ga := qk hdx (.own y)
  have hx' : upd H6 dx (.own y) y = none := by rw [zK (Ne.symm ne)]; exact hx
  have gb := qk hx' (.ins a.c_Net dx [])
  refine ⟨H6, y, dx, _, _, _, rfl, qz, ga.trans gb, hx, ?_⟩
  by_cases ok : NetOk m us outs
  · refine .inl ⟨lU, lO, m, vu, us, outs, rfl, rfl, rfl, SqL.of eU, r4, SqL.of eO, ok, fun ku ko vk H7 g7 hN eu eo rk => ⟨rfl, ?_⟩⟩
    exact q m us outs no ok y H7 (gA.trans g7) ⟨ku, ko, vk, hN, SqL.of eu, rk, SqL.of eo⟩
  · exact .inr ⟨net_bad (SqL.of eU) r4 (SqL.of eO) sh ok, fun H7 g7 => qn m us outs no ok _ (gA.trans g7)⟩
theorem bendS (p : Nat) : Str.ofString "bend " ++ figs p = unitS (.bend p) := by
  apply vJ
  show _ = (Str.ofString "bend" ++ blank ++ figs p).cps.toList
  rw [PyProof.Rows.cps_toList_append, PyProof.Rows.cps_toList_append, PyProof.Rows.cps_toList_append]
  have e : (Str.ofString "bend ").cps.toList = (Str.ofString "bend").cps.toList ++ blank.cps.toList := by decide
  rw [e]
theorem low86 {n : Nat} (h : n < 100) : n < 10 ^ 60 := Nat.lt_trans h (by decide +kernel)
theorem rows_free {many : Nat} {us : List Un} {outs : List Nat} : ∀ p ∈ netR many us outs, 10 ∉ p.cps.toList := by
  intro p hp
  unfold netR at hp
  rcases List.mem_append.mp hp with hp | hp
  · rcases List.mem_cons.mp hp with rfl | hp
    · exact Z1 (by decide) (ins_free (.inr rfl))
    · obtain ⟨u, hu, rfl⟩ := List.mem_map.mp hp
      exact Z1 (by decide) (word_free (.inr rfl))
  · rw [List.mem_singleton.mp hp]
    exact Z1 (by decide) (outs_free (.inr rfl))
def spLShown (K : PySem.W.Frag) : Sp := fun vs H Q _ => ∃ (p : Addr) (x : Rat), vs = [.ref p] ∧ SqT K H p (TQ x) ∧ SzQ x ∧ Q (.str (qS x)) H
theorem YK {t : Int} (h : t.natAbs < 10 ^ 60) : t.natAbs.log2 < 1920 := by
  have k := low60 h
  rw [Int.natAbs_natCast] at k
  exact k
theorem ok_law_shown (T : Txt K mg a) : FnOk P w K mg base CX0 1 a.f_law_shown a.d_law_shown ["_law_one"] (spLShown K) := by
  refine T.F_law_shown.ok sc_law_shown (fun vs H Q E h => ?_) (fun cdv A outer s H vs Q E hr h => ?_)
  · obtain ⟨_, _, rfl, _⟩ := h
    rfl
  obtain ⟨p, x, rfl, hp, sx, q⟩ := h
  refine ⟨_, (qZ (ps_if (qK op_eq (pe_ix yz (pv 0) qw (fun _ _ => rfl)) qw (qY _))
        (qJ (zw (y8 (wz) rfl T.m_str boot_str (pa_c (pe_ix yz (pv 0) qw (fun _ _ => rfl)) qj) (he := qq rfl _ _) (hpl := qy rfl))))
        zv)
      (qJ (zw (pe_op kZ (pe_op kZ (y8 (wz) rfl T.m_str boot_str (pa_c (pe_ix yz (pv 0) qw (fun _ _ => rfl)) qj) (he := qq rfl _ _) (hpl := qy rfl)) qV) (y8 (wz) rfl T.m_str boot_str (pa_c (pe_ix yz (pv 0) qw (fun _ _ => rfl)) qj) (he := qq rfl _ _) (hpl := qy rfl)))))), ?_⟩
  have d1 := headS_len sx.1
  have d2 := (w5 sx.2).2
  refine ⟨_, rfl, _, _, _, _, rfl, rfl, hp, rfl, rfl, _, rfl, ?_⟩
  by_cases k : (x.den : Int) = 1
  · refine iteP (congrArg V.int k) ⟨_, rfl, _, _, _, _, rfl, rfl, hp, rfl, _, rfl, YK sx.1, ?_⟩
    have e : qS x = headS x.num := by unfold qS txt; rw [if_pos k]
    rw [e, ← ofS] at q
    exact q
  · refine iteN (fun z => k (V.int.inj z)) ⟨_, rfl, _, _, _, _, rfl, rfl, hp, rfl, _, rfl, YK sx.1, ?_⟩
    have e1 : (toString x.num : Str) = headS x.num := ofS x.num
    have e2 : (toString (x.den : Int) : Str) = figs (x.den : Int).natAbs := by
      show Str.ofString (toString (x.den : Int)) = _
      rw [ofS]
      unfold headS
      rw [if_neg (by omega)]
    rw [e1]
    refine ⟨_, _, rfl, rfl, Y3 (by show _ + 1 ≤ _; omega), _, rfl, _, _, _, _, rfl, rfl, hp, rfl, _, rfl, YK sx.2, ?_⟩
    rw [e2]
    refine ⟨_, _, rfl, rfl, Y3 (by rw [zJ]; show _ + 1 + _ ≤ _; omega), ?_⟩
    have e : qS x = headS x.num ++ Str.ofString "/" ++ figs (x.den : Int).natAbs := by unfold qS txt; rw [if_neg k]
    rw [e] at q
    exact q
def spLWords (K : PySem.W.Frag) : Sp := fun vs H Q _ => ∃ (v : V) (u : Un), vs = [v] ∧ UnAt false K H v u ∧ SzU u ∧ ∀ l H', Same H H' → H' l = some (.lst ((unitW u).map V.str)) → Q (.ref l) H'
theorem ofN (n : Nat) : (toString ((n : Nat) : Int) : Str) = figs n := rfl
set_option maxHeartbeats 0 in
theorem ok_law_words (T : Txt K mg a) : FnOk P w K mg base CX0 2 a.f_law_words a.d_law_words ["_law_unit_here"] (spLWords K) := by
  refine T.F_law_words.ok sc_law_words (fun vs H Q E h => ?_) (fun cdv A outer s H vs Q E hr h => ?_)
  · obtain ⟨_, _, rfl, _⟩ := h
    rfl
  obtain ⟨v, u, rfl, hu, sz, q⟩ := h
  refine ⟨_, (qZ (ps_if (qK op_eq (pe_ix yz (pv 0) qw (fun _ _ => rfl)) qV (qY _))
        (qJ (zw (jj (pa_c qV (pa_c (y8 (wz) rfl T.m_str boot_str (pa_c (pe_ix yz (pv 0) qw (fun _ _ => rfl)) qj) (he := qq rfl _ _) (hpl := qy rfl)) qj)))))
        zv)
      (qJ (zw (pe_op x8 (jj (pa_c qV (pa_c (qW (ok_law_shown T) (hr.mono (by decide)) rfl T.m_law_shown T.F_law_shown.kp T.b_law_shown .nil pass0 (pa_c (pe_ix yz (pv 0) qw (fun _ _ => rfl)) qj) (he := qq rfl _ _) (hpl := qy rfl)) qj))) (kj (N := ["_law_place", "_law_share"]) (ix := [none, none]) ⟨rfl, rfl, rfl, rfl, trivial, rfl, trivial⟩ rfl (jv (pe_ix yz (pv 0) qw (fun _ _ => rfl))) (fun _ => (wj rfl (zy (zq (i := 0) (show (["_law_place", "_law_share"] : List Str).Nodup by decide +kernel) rfl (Or.inl rfl)) (zy (zq (i := 1) (show (["_law_place", "_law_share"] : List Str).Nodup by decide +kernel) rfl (Or.inl rfl)) v6)))) (fun _ σ => go_two rfl rfl (by decide) σ) (fun _ => yV) (fun _ => (pe_op kZ (pe_op kZ (y8 (wz) rfl T.m_str boot_str (pa_c (pv 0) qj) (he := qq rfl _ _) (hpl := qy rfl)) qV) (qW (ok_law_shown T) (hr.mono (by decide)) rfl T.m_law_shown T.F_law_shown.kp T.b_law_shown .nil pass0 (pa_c (pv 1) qj) (he := qq rfl _ _) (hpl := qy rfl))))))))), ?_⟩
  cases u with
  | bend p =>
    obtain ⟨t, rfl, h1⟩ := hu
    refine ⟨_, rfl, _, _, _, _, rfl, rfl, h1, rfl, rfl, _, rfl, iteP rfl ?_⟩
    refine ⟨_, rfl, _, _, _, _, rfl, rfl, h1, rfl, _, rfl, YK (t := (p : Int)) (by rw [Int.natAbs_natCast]; exact sz), j0, fun l kl => ?_⟩
    exact q l _ (qk kl _) qz
  | sum c ts =>
    obtain ⟨t, pc, pt, vt, rfl, h1, h2, h3, h4⟩ := hu
    have h3 : SqL K H pt vt := h3
    have l4 := h4.length
    obtain ⟨sc, st, l100⟩ := sz
    refine ⟨_, rfl, _, _, _, _, rfl, rfl, h1, rfl, rfl, _, rfl, iteN (by decide) ?_⟩
    refine ⟨_, rfl, _, _, _, _, rfl, rfl, h1, rfl, pc, c, rfl, h2, sc, j0, fun l1 k1 => ?_⟩
    have f := qk k1 (.lst [.str (Str.ofString "sum"), .str (qS c)])
    have b1 := qz (H := H) (a := l1) (o := .lst [.str (Str.ofString "sum"), .str (qS c)])
    generalize upd H l1 (.lst [.str (Str.ofString "sum"), .str (qS c)]) = H2 at *
    refine ⟨_, rfl, _, _, _, _, rfl, rfl, f.tup h1, rfl, pt, rfl, ⟨_, f.seq h3⟩, yk (n := ts.length) (fun i ys H' => H' = H2 ∧ ys = ((ts.take i).map termS).map V.str) ⟨rfl, rfl⟩ (zW (by omega)) ?_ ?_ ?_⟩
    case refine_2 =>
      rintro i ys H' hi ⟨rfl, _⟩
      exact ⟨_, _, f.seq h3, List.getElem?_eq_getElem (by omega)⟩
    case refine_3 =>
      rintro i m' ys H' cc x Hk hi ⟨rfl, rfl⟩ ⟨rfl, y1⟩ nx _
      obtain ⟨x0, ex, tt, rr, rfl, k1, k2⟩ := h4.get (y1 _ (f.seq h3))
      have sx := st x0 (List.mem_of_getElem? ex)
      have d1 := (w5 sx.1).2
      have d2 := qS_len sx.2
      refine ⟨tt, _, rfl, f.tup k1, rfl, _, _, rfl, _, _, rfl, rfl, Or.inl ⟨rfl, ?_⟩⟩
      refine ⟨_, rfl, _, rfl, YK (t := (x0.1 : Int)) (by rw [Int.natAbs_natCast]; exact sx.1), ?_⟩
      rw [ofN]
      refine ⟨_, _, rfl, rfl, Y3 (by show _ + 1 ≤ _; omega), _, rfl, rr, x0.2, rfl, f.tup k2, sx.2, _, _, rfl, rfl, Y3 (by rw [zJ]; show _ + 1 + _ ≤ _; omega), nx _ _ ⟨rfl, ?_⟩⟩
      rw [zZ ex, List.map_append, List.map_append]
      rfl
    rintro ys H3 ⟨rfl, rfl⟩
    rw [List.take_of_length_le (Nat.le_refl _)]
    refine ⟨⟨_, f.seq h3, by omega⟩, fun l2 k2 => ?_⟩
    have f2 := qk k2 (.lst ((ts.map termS).map V.str))
    have b2 := qz (H := H3) (a := l2) (o := .lst ((ts.map termS).map V.str))
    have b1 := f2 _ _ b1
    generalize upd H3 l2 (.lst ((ts.map termS).map V.str)) = H4 at *
    refine ⟨_, _, _, _, rfl, rfl, b1, b2, Nat.le_of_lt (zW (by rw [List.length_map, List.length_map]; show 2 + _ ≤ _; omega)), fun l3 k3 => ?_⟩
    exact q l3 _ (f.trans (f2.trans (qk k3 _))) qz
def WL (H : Hp) (vs : List V) (ws : List (List Str)) : Prop := Paired (fun v w => ∃ l, v = .ref l ∧ H l = some (.lst (w.map V.str))) vs ws
theorem WL.mono {H H' : Hp} {vs : List V} {ws : List (List Str)} (h : WL H vs ws) (g : Same H H') : WL H' vs ws := Paired.mapP h fun _ _ ⟨l, e, k⟩ => ⟨l, e, g _ _ k⟩
theorem wl_app {H : Hp} : ∀ {vs ws : List V} {us zs : List (List Str)}, WL H vs us → WL H ws zs → WL H (vs ++ ws) (us ++ zs)
  | _, _, _, _, .nil, h => h
  | _, _, _, _, .cons h t, k => .cons h (wl_app t k)
def netW (many : Nat) (us : List Un) (outs : List Nat) : List (List Str) := [Str.ofString "ins", figs many] :: us.map unitW ++ [outsW outs]
def spLRows (K : PySem.W.Frag) : Sp := fun vs H Q _ => ∃ (t l m : Addr) (many : Nat) (vl : List V) (us : List Un) (outs : List Nat), vs = [.ref t] ∧ SqT K H t [.int (many : Int), .ref l, .ref m] ∧ SqL K H l vl ∧ UL false K H vl us ∧ SqL K H m (outV outs) ∧ NetOk many us outs ∧ (∀ u ∈ us, SzU u) ∧ ∀ p H' ws, Same H H' → H' p = some (.lst ws) → WL H' ws (netW many us outs) → Q (.ref p) H'
abbrev cb_law_rows (P w K mg base) (a : Adr) (cdv A outer s H E) := (cxOf CX0 P w K mg base ["_law_told", "_law_many", "_law_units", "_law_outs"] "_law_rows" (qQ wJ) a.f_law_rows cdv A outer s H E).nox
set_option maxHeartbeats 0 in
theorem ok_law_rows (T : Txt K mg a) : FnOk P w K mg base CX0 3 a.f_law_rows a.d_law_rows ["_law_told"] (spLRows K) := by
  refine T.F_law_rows.ok Zv (fun vs H Q E h => ?_) (fun cdv A outer s H vs Q E hr h => ?_)
  · obtain ⟨_, _, _, _, _, _, _, rfl, _⟩ := h
    rfl
  obtain ⟨t, l, m, many, vl, us, outs, rfl, ht, hl, rl, hm, ⟨wf, l80, b20, m1, m6, o1, o12, ol⟩, sz, q⟩ := h
  have h0 : PS (cb_law_rows P w K mg base a cdv A outer s H E) (bS wJ 0) _ := (xx (pv 0) (wj rfl (zy (zq (i := 1) Zv.nd rfl (Or.inl rfl)) (zy (zq (i := 2) Zv.nd rfl (Or.inl rfl)) (zy (zq (i := 3) Zv.nd rfl (Or.inl rfl)) v6)))))
  have h1 : PS (cb_law_rows P w K mg base a cdv A outer s H E) (bS wJ 1) _ := (zw (pe_op x8 (pe_op x8 (jj (pa_c (jj (pa_c qV (pa_c (y8 (wz) rfl T.m_str boot_str (pa_c (pv 1) qj) (he := qq rfl _ _) (hpl := qy rfl)) qj))) qj)) (kj (N := ["_law_unit_here"]) (ix := [none]) ⟨rfl, rfl, rfl, rfl, trivial, rfl, trivial⟩ rfl (jv (pv 2)) (fun _ => (zq (i := 0) (show (["_law_unit_here"] : List Str).Nodup by decide +kernel) rfl (Or.inl rfl))) (fun _ σ => v7 rfl σ) (fun _ => yV) (fun _ => (qW (ok_law_words T) (hr.mono (by decide)) rfl T.m_law_words T.F_law_words.kp T.b_law_words .nil pass0 (pa_c (pv 0) qj) (he := qq rfl _ _) (hpl := qy rfl))))) (jj (pa_c (pe_op x8 (jj (pa_c qV qj)) (kj (N := ["_law_place"]) (ix := [none]) ⟨rfl, rfl, rfl, rfl, trivial, rfl, trivial⟩ rfl (jv (pv 3)) (fun _ => (zq (i := 0) (show (["_law_place"] : List Str).Nodup by decide +kernel) rfl (Or.inl rfl))) (fun _ σ => v7 rfl σ) (fun _ => yV) (fun _ => (y8 (wz) rfl T.m_str boot_str (pa_c (pv 0) qj) (he := qq rfl _ _) (hpl := qy rfl))))) qj))))
  refine ⟨_, body2 (by rfl) h0 h1, ?_⟩
  clear h0 h1
  have lvl := rl.length
  refine ⟨_, rfl, t, _, rfl, ht, rfl, _, _, rfl, _, _, rfl, _, _, rfl, rfl, ?_⟩
  refine ⟨_, rfl, _, rfl, YK (t := (many : Int)) (by rw [Int.natAbs_natCast]; exact low86 (by omega)), j0, fun l1 k1 => ?_⟩
  rw [ofN]
  have f := qk k1 (.lst [.str (Str.ofString "ins"), .str (figs many)])
  have b1 := qz (H := H) (a := l1) (o := .lst [.str (Str.ofString "ins"), .str (figs many)])
  have g := f
  generalize upd H l1 (.lst [.str (Str.ofString "ins"), .str (figs many)]) = H1 at *
  refine ⟨(show 1 ≤ sizeLine by decide), fun l2 k2 => ?_⟩
  have f := qk k2 (.lst [.ref l1])
  have b2 := qz (H := H1) (a := l2) (o := .lst [.ref l1])
  have b1 := f _ _ b1
  have g := g.trans f
  generalize upd H1 l2 (.lst [.ref l1]) = H2 at *
  refine ⟨_, rfl, l, rfl, ⟨_, g.seq hl⟩, yk (n := us.length) (fun i ys H' => Same H2 H' ∧ WL H' ys ((us.take i).map unitW)) ⟨Same.refl _, .nil⟩ (zW (by omega)) ?_ ?_ ?_⟩
  case refine_2 =>
    rintro i ys H' hi ⟨g3, _⟩
    exact ⟨_, _, (g.trans g3).seq hl, List.getElem?_eq_getElem (by omega)⟩
  case refine_3 =>
    rintro i m' ys H' cc x Hk hi ⟨g3, r⟩ ⟨rfl, y1⟩ nx _
    obtain ⟨u, eu, hu⟩ := rl.get (y1 _ ((g.trans g3).seq hl))
    refine Or.inl ⟨rfl, _, rfl, x, u, rfl, hu.mono (g.trans g3), sz u (List.mem_of_getElem? eu), fun l4 H4 g4 e4 => nx _ _ ⟨g3.trans g4, ?_⟩⟩
    rw [zZ eu, List.map_append]
    exact Paired.snoc (WL.mono r g4) ⟨l4, rfl, e4⟩
  rintro wu H3 ⟨g3, r3⟩
  rw [List.take_of_length_le (Nat.le_refl _)] at r3
  refine ⟨⟨_, (g.trans g3).seq hl, by omega⟩, fun l3 k3 => ?_⟩
  have lwu : wu.length = us.length := by have := Paired.length r3; rw [List.length_map] at this; exact this
  have f := qk k3 (.lst wu)
  have b3 := qz (H := H3) (a := l3) (o := .lst wu)
  have gf := g3.trans f
  have b1 := gf _ _ b1
  have b2 := gf _ _ b2
  have r3 := WL.mono r3 f
  have g := g.trans gf
  generalize upd H3 l3 (.lst wu) = H4 at *
  refine ⟨_, _, _, _, rfl, rfl, b2, b3, Nat.le_of_lt (zW (by rw [List.length_singleton]; omega)), fun l4 k4 => ?_⟩
  have f := qk k4 (.lst ([.ref l1] ++ wu))
  have b4 := qz (H := H4) (a := l4) (o := .lst ([.ref l1] ++ wu))
  have b1 := f _ _ b1
  have r3 := WL.mono r3 f
  have g := g.trans f
  generalize upd H4 l4 (.lst ([.ref l1] ++ wu)) = H5 at *
  refine ⟨(show 1 ≤ sizeLine by decide), fun l5 k5 => ?_⟩
  have f := qk k5 (.lst [.str (Str.ofString "outs")])
  have b5 := qz (H := H5) (a := l5) (o := .lst [.str (Str.ofString "outs")])
  have b1 := f _ _ b1
  have b4 := f _ _ b4
  have r3 := WL.mono r3 f
  have g := g.trans f
  generalize upd H5 l5 (.lst [.str (Str.ofString "outs")]) = H6 at *
  have lo : (outV outs).length = outs.length := by unfold outV; rw [List.length_map]
  refine ⟨_, rfl, m, rfl, ⟨_, g.seq hm⟩, yk (n := outs.length) (fun i ys H' => H' = H6 ∧ ys = ((outs.take i).map figs).map V.str) ⟨rfl, rfl⟩ (zW (by omega)) ?_ ?_ ?_⟩
  case refine_2 =>
    rintro i ys H' hi ⟨rfl, _⟩
    exact ⟨_, _, g.seq hm, List.getElem?_eq_getElem (by omega)⟩
  case refine_3 =>
    rintro i m' ys H' cc x Hk hi ⟨rfl, rfl⟩ ⟨rfl, y1⟩ nx _
    obtain ⟨o, eo, rfl⟩ := out_at (y1 _ (g.seq hm))
    have lo1 := ol o (List.mem_of_getElem? eo)
    refine Or.inl ⟨rfl, _, rfl, _, rfl, YK (t := (o : Int)) (by rw [Int.natAbs_natCast]; exact low86 (by omega)), nx _ _ ⟨rfl, ?_⟩⟩
    rw [zZ eo, List.map_append, List.map_append]
    rfl
  rintro ys H7 ⟨rfl, rfl⟩
  rw [List.take_of_length_le (Nat.le_refl _)]
  refine ⟨⟨_, g.seq hm, by omega⟩, fun l6 k6 => ?_⟩
  have f := qk k6 (.lst ((outs.map figs).map V.str))
  have b6 := qz (H := H7) (a := l6) (o := .lst ((outs.map figs).map V.str))
  have b1 := f _ _ b1
  have b4 := f _ _ b4
  have b5 := f _ _ b5
  have r3 := WL.mono r3 f
  have g := g.trans f
  generalize upd H7 l6 (.lst ((outs.map figs).map V.str)) = H8 at *
  refine ⟨_, _, _, _, rfl, rfl, b5, b6, Nat.le_of_lt (zW (by rw [List.length_singleton, List.length_map, List.length_map]; omega)), fun l7 k7 => ?_⟩
  have f := qk k7 (.lst ([.str (Str.ofString "outs")] ++ (outs.map figs).map V.str))
  have b7 : upd H8 l7 (.lst ([.str (Str.ofString "outs")] ++ (outs.map figs).map V.str)) l7 = some (.lst ((outsW outs).map V.str)) := qz
  have b1 := f _ _ b1
  have b4 := f _ _ b4
  have r3 := WL.mono r3 f
  have g := g.trans f
  generalize upd H8 l7 (.lst ([.str (Str.ofString "outs")] ++ (outs.map figs).map V.str)) = H9 at *
  refine ⟨(show 1 ≤ sizeLine by decide), fun l8 k8 => ?_⟩
  have f := qk k8 (.lst [.ref l7])
  have b8 := qz (H := H9) (a := l8) (o := .lst [.ref l7])
  have b1 := f _ _ b1
  have b4 := f _ _ b4
  have b7 := f _ _ b7
  have r3 := WL.mono r3 f
  have g := g.trans f
  generalize upd H9 l8 (.lst [.ref l7]) = HA at *
  refine ⟨_, _, _, _, rfl, rfl, b4, b8, Nat.le_of_lt (zW (by rw [List.length_append, List.length_singleton, List.length_singleton]; omega)), fun l9 k9 => ?_⟩
  have f := qk k9 (.lst ([.ref l1] ++ wu ++ [.ref l7]))
  have b1 : HA l1 = some (.lst ([Str.ofString "ins", figs many].map V.str)) := b1
  have p1 : WL (upd HA l9 (.lst ([.ref l1] ++ wu ++ [.ref l7]))) (.ref l1 :: wu) ([Str.ofString "ins", figs many] :: us.map unitW) := Paired.cons ⟨l1, rfl, f _ _ b1⟩ (WL.mono r3 f)
  have p2 : WL (upd HA l9 (.lst ([.ref l1] ++ wu ++ [.ref l7]))) [.ref l7] [outsW outs] := Paired.cons ⟨l7, rfl, f _ _ b7⟩ .nil
  exact q l9 _ _ (g.trans f) qz (wl_app p1 p2)
theorem Shr.sz {q : Rat} (h : Shr q) : SzQ q := by
  obtain ⟨h1, h2⟩ := h
  have d := den_le h1
  have d2 : q.den < 2 ^ 38 := d
  refine ⟨Nat.lt_of_le_of_lt h2 (Nat.lt_of_le_of_lt (Nat.mul_le_mul_left _ (Nat.le_of_lt d2)) (by decide +kernel)), ?_⟩
  rw [Int.natAbs_natCast]
  exact Nat.lt_trans d2 (by decide +kernel)
theorem unit_sz {u : Un} {e : Nat} (h : ShrU u) (w : WfU e u) (l : e ≤ 100) : SzU u ∧ (unitS u).length ≤ 7000 := by
  cases u with
  | bend p =>
    have w : p < e := w
    have s : p < 10 ^ 60 := low86 (by omega)
    refine ⟨s, ?_⟩
    rw [← bendS, zJ]
    have := (w5 s).2
    show 5 + _ ≤ _
    omega
  | sum c ts =>
    have s : SzU (.sum c ts) := ⟨h.1.sz, fun x hx => ⟨low86 (by have := w.1 x hx; omega), (h.2.1 x hx).sz⟩, by have := h.2.2; omega⟩
    refine ⟨s, ?_⟩
    have k := Q6 (ws := unitW (.sum c ts)) (n := 10) (B := 261) (by show (ts.map termS).length + 1 + 1 ≤ 10; rw [List.length_map]; have := h.2.2; omega) (unitW_len s).2
    have j : (Str.join blank (unitW (.sum c ts))).length ≤ _ := ZJ (c := 32) (unitW (.sum c ts))
    unfold unitS
    omega
theorem netW_rows {many : Nat} {us : List Un} {outs : List Nat} : (netW many us outs).map (Str.join blank) = netR many us outs := by
  unfold netW netR
  rw [List.map_append, List.map_cons, List.map_map]
  rfl
theorem netW_len {many : Nat} {us : List Un} {outs : List Nat} (ok : NetOk many us outs) : (netW many us outs).length ≤ 82 := by
  unfold netW
  rw [List.length_append, List.length_cons, List.length_map, List.length_singleton]
  have := ok.2.1
  omega
theorem netW_words {many : Nat} {us : List Un} {outs : List Nat} (ok : NetOk many us outs) (sz : ∀ u ∈ us, SzU u) : ∀ w ∈ netW many us outs, (w.map (·.length)).sum + w.length ≤ 1048576 := fun w hw => by
  obtain ⟨wf, l80, b20, m1, m6, o1, o12, ol⟩ := ok
  unfold netW at hw
  rcases List.mem_append.mp hw with hw | hw
  · rcases List.mem_cons.mp hw with rfl | hw
    · have k := Q6 (ws := [Str.ofString "ins", figs many]) (n := 2) (B := 60) (Nat.le_refl 2) fun p hp => by
        rcases List.mem_cons.mp hp with rfl | hp
        · decide
        · rw [List.mem_singleton.mp hp]; exact (w5 (low86 (by omega))).2
      omega
    · obtain ⟨u, hu, rfl⟩ := List.mem_map.mp hw
      have k := Q6 (unitW_len (sz u hu)).1 (unitW_len (sz u hu)).2
      omega
  · rw [List.mem_singleton.mp hw]
    have k := Q6 (ws := outsW outs) (n := 13) (B := 60) (by unfold outsW; rw [List.length_cons, List.length_map]; omega) fun p hp => by
      rcases List.mem_cons.mp hp with rfl | hp
      · decide
      · obtain ⟨x, hx, rfl⟩ := List.mem_map.mp hp
        exact (w5 (low86 (by have := ol x hx; omega))).2
    omega
def spLFig : Sp := fun vs H Q _ => ∃ w : Str, vs = [.str w, .int 60] ∧ Asc w ∧ w.length ≤ 100000 ∧ (∀ n, figO w = some n → ∀ H', Same H H' → Q (.int (n : Int)) H') ∧ (figO w = none → ∀ H', Same H H' → Q .non H')
theorem any_dig (cs : List Nat) : (cs.map fun c => !decide (c ∈ (Str.ofString "0123456789").cps.toList)).any id = false ↔ PySem.NumText.AllDigits cs := by
  rw [List.any_map, List.any_eq_false]
  constructor
  · intro h c hc
    have := h c hc
    simp only [Function.comp, id, Bool.not_eq_true', decide_eq_false_iff_not, Classical.not_not] at this
    exact dig_iff.mp this
  · intro h c hc
    simp only [Function.comp, id, Bool.not_eq_true', decide_eq_false_iff_not, Classical.not_not]
    exact dig_iff.mpr (h c hc)
abbrev Z9 (P w K mg base) (a : Adr) (cdv A outer s H E) := (cxOf CX0 P w K mg base ["_law_word", "_law_most"] "_law_figures" (qQ jy) a.f_law_figures cdv A outer s H E).nox
set_option maxHeartbeats 0 in
theorem vZ (T : Txt K mg a) : FnOk P w K mg base CX0 1 a.f_law_figures a.d_law_figures ["_law_word", "_law_most"] spLFig := by
  refine T.F_law_figures.ok sc_law_figures (fun vs H Q E h => ?_) (fun cdv A outer s H vs Q E hr h => ?_)
  · obtain ⟨_, rfl, _⟩ := h
    rfl
  obtain ⟨x, rfl, asc, len, q, qn⟩ := h
  have h0 : PS (Z9 P w K mg base a cdv A outer s H E) (bS jy 0) _ := (ps_if (PW.pt (pw_or (qK op_eq (pv 0) qV (qY _)) (pw_or (qK op_gt (qX (YW) rfl T.m_len boot_len (pa_c (pv 0) qj) (he := qq rfl _ _) (hpl := qy rfl)) (pv 1) (qY _)) (wX (jz (qX (call_any rfl) rfl T.m_any boot_any (pa_c (kj (N := ["_law_sign"]) (ix := [none]) ⟨rfl, rfl, rfl, rfl, trivial, rfl, trivial⟩ rfl (pi_str (pv 0)) (fun _ => (zq (i := 0) (show (["_law_sign"] : List Str).Nodup by decide +kernel) rfl (Or.inl rfl))) (fun _ σ => v7 rfl σ) (fun _ => yV) (fun _ => (kv op_notIn_str (pv 0) qV (by with_unfolding_all rfl)))) qj) (he := qq rfl _ _) (hpl := qy rfl)))))))
        (qJ (zw vX))
        zv)
  have h1 : PS (Z9 P w K mg base a cdv A outer s H E) (bS jy 1) _ := (ps_if (PW.pt (Y2 (qK op_eq (pe_ix ix_str (pv 0) qw (fun _ _ => rfl)) qV (qY _)) (Qv (qK op_ne (pv 0) qV (qY _)))))
        (qJ (zw vX))
        zv)
  have h2 : PS (Z9 P w K mg base a cdv A outer s H E) (bS jy 2) _ := (zw (y8 (call_int_str) rfl T.m_int boot_int (pa_c (pv 0) qj) (he := qq rfl _ _) (hpl := qy rfl)))
  refine ⟨_, body3 (by rfl) h0 h1 h2, ?_⟩
  clear h0 h1 h2
  have sl : x.cps.toList.length = x.length := (v3 x).symm
  refine ⟨_, rfl, rfl, _, rfl, ?_⟩
  by_cases c0 : V.str x = V.str (Str.ofString "")
  · refine iteP c0 (qn (ZW fun z => ?_) _ (Same.refl _))
    have := z.1
    rw [V.str.inj c0] at this
    exact absurd this (by decide)
  refine iteN c0 ⟨_, rfl, _, rfl, leB (by omega), _, rfl, _, _, rfl, rfl, _, rfl, iteD (fun c => qn (ZW fun z => by have := z.2.1; omega) _ (Same.refl _)) (fun c => ?_)⟩
  have l1 : 1 ≤ x.length := by
    by_cases k : x.length = 0
    · refine absurd ?_ c0
      refine congrArg V.str (vJ ?_)
      rw [List.length_eq_zero_iff.mp (show x.cps.toList.length = 0 by omega)]
      decide
    · omega
  refine ⟨_, rfl, x, rfl, asc.all, yk (n := x.length) (fun i ys H' => H' = H ∧ ys = ((x.cps.toList.take i).map fun c => !decide (c ∈ (Str.ofString "0123456789").cps.toList)).map V.bl) ⟨rfl, rfl⟩ (kz (by omega)) ?_ ?_ ?_⟩
  case refine_2 =>
    rintro i ys H' hi _
    exact hi
  case refine_3 =>
    rintro i m' ys H' cc v H2 hi ⟨rfl, rfl⟩ ⟨rfl, c, ec, rfl⟩ nx _
    refine Or.inl ⟨rfl, _, rfl, _, _, rfl, rfl, ?_⟩
    dsimp only
    rw [StrLaws.found_one]
    refine nx _ _ ⟨rfl, ?_⟩
    have ec2 : x.cps.toList[i]? = some c := by rw [Array.getElem?_toList]; exact ec
    rw [zZ ec2, List.map_append, List.map_append]
    rfl
  rintro ys H1 ⟨rfl, rfl⟩
  rw [List.take_of_length_le (by omega)]
  refine ⟨by show x.cps.size ≤ _; exact Nat.le_refl _, fun D hD => ⟨D, _, rfl, SqL.of qz, ?_⟩⟩
  have g := qk hD (.lst ((x.cps.toList.map fun c => !decide (c ∈ (Str.ofString "0123456789").cps.toList)).map V.bl))
  by_cases ad : PySem.NumText.AllDigits x.cps.toList
  case neg =>
    rw [show (x.cps.toList.map fun c => !decide (c ∈ (Str.ofString "0123456789").cps.toList)).any id = true from eq_true_of_ne_false fun z => ad ((any_dig _).mp z)]
    exact ⟨_, rfl, iteT (qn (ZW fun z => ad z.2.2.1) _ g)⟩
  rw [(any_dig _).mpr ad]
  refine ⟨_, rfl, iteF ?_⟩
  obtain ⟨c1, cs, ec⟩ : ∃ c1 cs, x.cps.toList = c1 :: cs := by
    cases h : x.cps.toList with
    | nil => rw [h] at sl; rw [← sl] at l1; exact absurd l1 (by decide)
    | cons a b => exact ⟨a, b, rfl⟩
  refine ⟨_, rfl, x, 0, c1, rfl, rfl, leB (by omega), by rw [ec]; unfold atI ixN; rw [if_pos (by decide), if_pos (by rw [List.length_cons]; omega)]; rfl, rfl, _, rfl, ?_⟩
  have e48 : V.str ⟨#[c1]⟩ = V.str (Str.ofString "0") ↔ c1 = 48 := by
    rw [nought]
    constructor
    · intro z
      have z := congrArg (fun q : Str => q.cps.toList) (V.str.inj z)
      exact (List.cons.inj z).1
    · rintro rfl
      rfl
  by_cases k : c1 = 48
  · refine iteP (e48.mpr k) ⟨_, rfl, rfl, _, rfl, ?_⟩
    by_cases k2 : x = ⟨#[48]⟩
    · have gd : goodS x := ⟨l1, by omega, ad, fun _ => k2⟩
      refine iteNS (congrArg V.str (k2.trans nought.symm)) ?_
      exact ⟨_, rfl, x, _, rfl, by omega, ZX gd, q _ (Q5 gd) _ g⟩
    · refine iteNP (fun z => k2 ((V.str.inj z).trans nought)) (qn (ZW fun z => k2 (z.2.2.2 (by rw [ec, k]; rfl))) _ g)
  · refine iteN (fun z => k (e48.mp z)) (iteF ?_)
    have gd : goodS x := ⟨l1, by omega, ad, fun z => absurd (by rw [ec] at z; exact Option.some.inj z) k⟩
    exact ⟨_, rfl, x, _, rfl, by omega, ZX gd, q _ (Q5 gd) _ g⟩
theorem cut_first (x : Str) : decide (V.str (cutS x none (some 1)) = V.str (Str.ofString "-")) = sgnB x := by
  unfold sgnB
  have e : (cutS x none (some 1)).cps.toList = x.cps.toList.take 1 := by
    show ((x.cps.toList.drop 0).take (min 1 x.length - 0)) = _
    rw [List.drop_zero, Nat.sub_zero, v3]
    cases x.cps.toList with
    | nil => rfl
    | cons c cs => rw [show min 1 (c :: cs).length = 1 by rw [List.length_cons]; omega]
  by_cases k : x.cps.toList[0]? = some 45
  · rw [decide_eq_true k]
    refine decide_eq_true (congrArg V.str (vJ ?_))
    rw [e, dash]
    cases h : x.cps.toList with
    | nil => rw [h] at k; cases k
    | cons c cs =>
      rw [h] at k
      have k : c = 45 := Option.some.inj k
      rw [k]
      rfl
  · rw [decide_eq_false k]
    refine decide_eq_false fun z => k ?_
    have z := congrArg (fun q : Str => q.cps.toList) (V.str.inj z)
    have z : (cutS x none (some 1)).cps.toList = [45] := z
    rw [e] at z
    cases h : x.cps.toList with
    | nil => rw [h] at z; cases z
    | cons c cs =>
      rw [h] at z
      have z : [c] = [45] := z
      rw [(List.cons.inj z).1]
      rfl
theorem cut_rest (x : Str) : x = sgnS (sgnB x) ++ cutS x (some (if sgnB x = true then 1 else 0)) none := by
  apply vJ
  rw [zX]
  have lx := v3 x
  cases h : sgnB x with
  | true =>
    have k := of_decide_eq_true h
    show _ = [45] ++ ((x.cps.toList.drop (min 1 x.length)).take (x.length - min 1 x.length))
    cases hx : x.cps.toList with
    | nil => rw [hx] at k; cases k
    | cons c cs =>
      rw [hx] at k lx
      have k : c = 45 := Option.some.inj k
      rw [k, lx, show min 1 (c :: cs).length = 1 by rw [List.length_cons]; omega]
      show 45 :: cs = 45 :: cs.take _
      rw [List.take_of_length_le (by rw [List.length_cons]; omega)]
  | false =>
    show _ = [] ++ ((x.cps.toList.drop (min 0 x.length)).take (x.length - min 0 x.length))
    rw [Nat.zero_min, List.drop_zero, List.nil_append, List.take_of_length_le (by omega)]
theorem cut_shorter (x : Str) (lo hi : Option Int) : (cutS x lo hi).length ≤ x.length := by
  rw [v3]
  exact cut_len x lo hi
theorem app_left {s x y : Str} (e : s ++ x = s ++ y) : x = y := by
  apply vJ
  have k := congrArg (fun q : Str => q.cps.toList) e
  have k : (s ++ x).cps.toList = (s ++ y).cps.toList := k
  rw [zX, zX] at k
  exact List.append_cancel_left k
theorem body_cut (x : Str) : cutS x (some (if sgnB x = true then 1 else 0)) none = bodyS x := app_left ((cut_rest x).symm.trans (Y5 x))
theorem body_mem {x : Str} {c : Nat} (h : c ∈ (bodyS x).cps.toList) : c ∈ x.cps.toList := by
  rw [Y5 x, zX]
  exact List.mem_append_right _ h
theorem ratP_one {x : Str} (h : 47 ∉ x.cps.toList) : ratP x = outP (sgnB x) [bodyS x] := by
  unfold ratP
  rw [Z2 fun z => h (body_mem z)]
theorem sgn_two {top bot : Str} : sgnB (top ++ ⟨#[47]⟩ ++ bot) = sgnB top := by
  unfold sgnB
  rw [zX, zX]
  cases h : top.cps.toList with
  | nil => exact (decide_eq_false (p := (([] ++ [47] ++ bot.cps.toList : List Nat)[0]? = some 45)) (fun z => absurd (Option.some.inj z) (by decide))).trans (decide_eq_false (fun z => by cases z)).symm
  | cons c cs => rfl
theorem body_two {top bot : Str} : bodyS (top ++ ⟨#[47]⟩ ++ bot) = bodyS top ++ ⟨#[47]⟩ ++ bot := by
  have e := Y5 (top ++ ⟨#[47]⟩ ++ bot)
  rw [sgn_two] at e
  refine app_left (s := sgnS (sgnB top)) (e.symm.trans ?_)
  apply vJ
  have k := congrArg (fun q : Str => q.cps.toList) (Y5 top)
  have k : top.cps.toList = (sgnS (sgnB top) ++ bodyS top).cps.toList := k
  rw [zX] at k
  rw [zX, zX, k, zX, zX, zX]
  simp only [List.append_assoc]
theorem ratP_two {top bot : Str} (h : 47 ∉ top.cps.toList) : ratP (top ++ ⟨#[47]⟩ ++ bot) = outP (sgnB top) (bodyS top :: Txt.split bot ⟨#[47]⟩) := by
  unfold ratP
  rw [sgn_two, body_two, Zj fun z => h (body_mem z)]
theorem minus0 {top : Str} (gd : goodS (bodyS top)) : V.str top = V.str (Str.ofString "-0") ↔ sgnB top = true ∧ valS (bodyS top) = 0 := by
  constructor
  · intro z
    rw [V.str.inj z]
    decide
  · rintro ⟨s, v⟩
    refine congrArg V.str ?_
    have k := Y5 top
    rw [s, goodS_figs gd, v] at k
    rw [k]
    decide
theorem out_ok {s : Bool} {u v : Str} (g1 : goodS u) (g2 : goodS v) (n : ¬ (s = true ∧ valS u = 0)) (l : 2 ≤ valS v) : outP s [u, v] = if Nat.gcd (valS v) (valS u) = 1 then some (tv s u, (valS v : Int)) else none := by
  by_cases h : Nat.gcd (valS v) (valS u) = 1
  · rw [if_pos h, out2 ⟨g1, g2, n, l, h⟩]
  · rw [if_neg h, out2n fun z => h z.2.2.2.2]
def spLRat : Sp := fun vs H Q _ => ∃ w : Str, vs = [.str w] ∧ Asc w ∧ w.length ≤ 100000 ∧ (∀ t b, ratP w = some (t, b) → RetT H Q (T2 t b)) ∧ (ratP w = none → ∀ H', Same H H' → Q .non H')
theorem eqV2 {x y u v : Int} : eqVs (T2 x y) (T2 u v) = decide (x = u ∧ y = v) := by
  show (decide _ && (decide _ && true)) = _
  by_cases h1 : x = u <;> by_cases h2 : y = v <;> simp [h1, h2]
abbrev w6 (P w K mg base) (a : Adr) (cdv A outer s H E) := (cxOf CX0 P w K mg base ["_law_word", "_law_top", "_law_stroke", "_law_bottom", "_law_number", "_law_other"] "_law_ratio" (qQ yX) a.f_law_ratio cdv A outer s H E).nox
set_option maxHeartbeats 0 in
theorem QK (T : Txt K mg a) : FnOk P w K mg base CX0 2 a.f_law_ratio a.d_law_ratio ["_law_word"] spLRat := by
  refine T.F_law_ratio.ok vW (fun vs H Q E h => ?_) (fun cdv A outer s H vs Q E hr h => ?_)
  · obtain ⟨_, rfl, _⟩ := h
    rfl
  obtain ⟨x, rfl, asc, len, q, qn⟩ := h
  have h0 : PS (w6 P w K mg base a cdv A outer s H E) (bS yX 0) _ := (xx (pe_bm PySem.F.plainAttrs_str PySem.F.slot_str_partition PySem.F.type_str_partition YJ (pv 0) (pa_c qV qj) (hs := qq rfl _ _) (hplain := qy rfl)) (wj rfl (zy (zq (i := 1) vW.nd rfl (Or.inl rfl)) (zy (zq (i := 2) vW.nd rfl (Or.inl rfl)) (zy (zq (i := 3) vW.nd rfl (Or.inl rfl)) v6)))))
  have h1 : PS (w6 P w K mg base a cdv A outer s H E) (bS yX 1) _ := (zj (i := 4) vW.nd rfl (Or.inl rfl) (qW (vZ T) (hr.mono (by decide)) rfl T.m_law_figures T.F_law_figures.kp T.b_law_figures .nil pass0 (pa_c (yj sl_strG (pv 1) (yw (y8 (xW) rfl T.m_int boot_int (pa_c (kv op_eq (yj sl_strG (pv 1) jV (yw qw)) qV (qY _)) qj) (he := qq rfl _ _) (hpl := qy rfl))) jV) (pa_c qw qj)) (he := qq rfl _ _) (hpl := qy rfl)))
  have h2 : PS (w6 P w K mg base a cdv A outer s H E) (bS yX 2) _ := (zj (i := 5) vW.nd rfl (Or.inl rfl) qw)
  have h3 : PS (w6 P w K mg base a cdv A outer s H E) (bS yX 3) _ := (ps_if (qK op_eq (pv 2) qV (qY _))
        (qJ (zj (i := 5) vW.nd rfl (Or.inl rfl) (qW (vZ T) (hr.mono (by decide)) rfl T.m_law_figures T.F_law_figures.kp T.b_law_figures .nil pass0 (pa_c (pv 3) (pa_c qw qj)) (he := qq rfl _ _) (hpl := qy rfl))))
        zv)
  have h4 : PS (w6 P w K mg base a cdv A outer s H E) (bS yX 4) _ := (ps_if (PW.pt (pw_or (qK op_isN (pv 4) vX (qY _)) (pw_or (qK op_isN (pv 5) vX (qY _)) (pw_or (qK op_eq (pv 1) qV (qY _)) (wX (PW.pt (Y2 (qK op_eq (pv 2) qV (qY _)) (Qv (qK op_lt (pv 5) qw (qY _))))))))))
        (qJ (zw vX))
        zv)
  have h5 : PS (w6 P w K mg base a cdv A outer s H E) (bS yX 5) _ := (ps_if (qK op_eq (yj sl_strG (pv 1) jV (yw qw)) qV (qY _))
        (qJ (zj (i := 4) vW.nd rfl (Or.inl rfl) (pe_op op_sub qw (pv 4))))
        zv)
  have h6 : PS (w6 P w K mg base a cdv A outer s H E) (bS yX 6) _ := (ps_if (qK (op_neT (hu_of hr)) (qW (ok_law_part T) (hr.mono (by decide)) rfl T.m_law_part T.F_law_part.kp T.b_law_part .nil pass0 (pa_c (pv 4) (pa_c (pv 5) qj)) (he := qq rfl _ _) (hpl := qy rfl)) (vq (pa_c (pv 4) (pa_c (pv 5) qj))) (qY _))
        (qJ (zw vX))
        zv)
  have h7 : PS (w6 P w K mg base a cdv A outer s H E) (bS yX 7) _ := (zw (vq (pa_c (pv 4) (pa_c (pv 5) qj))))
  refine ⟨_, body8 (by rfl) h0 h1 h2 h3 h4 h5 h6 h7, ?_⟩
  clear h0 h1 h2 h3 h4 h5 h6 h7
  have isN : ∀ {i : Int}, ¬ (V.int i = V.non) := fun z => by cases z
  refine ⟨_, rfl, rfl, _, _, rfl, rfl, rfl, leB (by omega), fun pt hpt => ?_⟩
  rcases ZK x 47 with fr | ⟨top, bot, rfl, fr⟩
  ·
    rw [show Txt.partition x (Str.ofString "/") = (x, Str.empty, Str.empty) by rw [Y1]; exact part_none fr]
    have rp := ratP_one fr
    have g1 := qk hpt (.tup [.str x, .str Str.empty, .str Str.empty])
    have e1 : SqT K (upd H pt (.tup [.str x, .str Str.empty, .str Str.empty])) pt [.str x, .str Str.empty, .str Str.empty] := SqT.of qz
    dsimp only
    generalize upd H pt (.tup [.str x, .str Str.empty, .str Str.empty]) = H1 at *
    refine ⟨pt, _, rfl, e1, rfl, _, _, rfl, _, _, rfl, _, _, rfl, rfl, ?_⟩
    refine ⟨_, rfl, _, rfl, _, rfl, x, rfl, leB (by omega), rfl, ?_⟩
    dsimp only
    rw [cut_first]
    refine .inr ⟨_, rfl, _, rfl, x, rfl, leB (by omega), ?_⟩
    rw [body_cut]
    have lb : (bodyS x).length ≤ 100000 := by have := cut_shorter x (some (if sgnB x = true then 1 else 0)) none; rw [body_cut] at this; omega
    have ab : Asc (bodyS x) := fun c hc => asc c (body_mem hc)
    refine ⟨bodyS x, rfl, ab, lb, fun n en H2 g2 => ?_, fun en H2 g2 => ?_⟩
    case refine_2 =>
      refine ⟨_, rfl, rfl, _, rfl, iteN (by decide) ?_⟩
      refine ⟨_, rfl, rfl, _, rfl, iteT (qn ?_ _ (g1.trans g2))⟩
      rw [rp, out1n fun z => ?_]
      rw [Q5 z.1] at en
      cases en
    obtain ⟨gd, rfl⟩ := figO_good en
    refine ⟨_, rfl, rfl, _, rfl, iteN (by decide) ?_⟩
    refine ⟨_, rfl, rfl, _, rfl, iteN isN ⟨_, rfl, rfl, _, rfl, iteN isN ⟨_, rfl, rfl, _, rfl, ?_⟩⟩⟩
    by_cases m0 : sgnB x = true ∧ valS (bodyS x) = 0
    · exact iteP ((minus0 gd).mpr m0) (qn (by rw [rp, out1n fun z => z.2 m0]) _ (g1.trans g2))
    refine iteN (fun z => m0 ((minus0 gd).mp z)) ⟨_, rfl, rfl, _, rfl, iteN (by decide) (iteF ?_)⟩
    have rp := rp.trans (out1 ⟨gd, m0⟩)
    have gA := g1.trans g2
    refine ⟨_, rfl, _, rfl, x, rfl, leB (by omega), rfl, ?_⟩
    dsimp only
    rw [cut_first]
    have b0 : (0 : Int) < 1 := by decide
    have sb : Sm 8000 1 := by unfold Sm; decide +kernel
    have R1 : ∀ z : Int, IsR z 1 := fun z => ⟨by decide, by simp⟩
    obtain ⟨B0, eB⟩ : ∃ B0 : Int, B0 = 1 := ⟨1, rfl⟩
    rw [← eB] at b0 sb rp
    cases hs : sgnB x with
    | true =>
      obtain ⟨T0, eT⟩ : ∃ T0 : Int, T0 = 0 - (valS (bodyS x) : Int) := ⟨_, rfl⟩
      have rp : ratP x = some (T0, B0) := by rw [rp, hs, eT]; show some (-(valS (bodyS x) : Int), B0) = _; rw [Int.zero_sub]
      refine ⟨_, rfl, iteT ⟨_, rfl, _, _, rfl, rfl, ?_⟩⟩
      dsimp only
      rw [← eT, ← eB]
      have yes : IsR T0 B0 → ratP x = some (T0, B0) := fun _ => rp
      have no : ¬ IsR T0 B0 → ratP x = none := fun z => absurd (by rw [eB]; exact R1 T0) z
      refine ⟨_, rfl, _, rfl, T0, B0, rfl, b0, sb, fun pr H3 g3 e3 => ⟨_, rfl, _, rfl, j0, fun t2 k2 => ?_⟩⟩
      have f := qk k2 (.tup (T2 T0 B0))
      refine ⟨pr, t2, _, _, rfl, rfl, SqT.of (f _ _ e3), SqT.of qz, rfl, rfl, _, rfl, ?_⟩
      rw [eqV2]
      by_cases R : IsR T0 B0
      · have nn := n_of (t := T0) (b := B0) (by omega) R rfl
        rw [decide_eq_true (show nt T0 B0 = T0 ∧ nb T0 B0 = B0 from ⟨nn.1.symm, nn.2.symm⟩)]
        refine iteF ⟨_, rfl, _, rfl, j0, fun t3 k3 => ?_⟩
        exact q T0 B0 (yes R) t3 _ (gA.trans (g3.trans (f.trans (qk k3 _)))) qz
      · have R2 := n_isR (t := T0) (b := B0) (by omega)
        rw [decide_eq_false (show ¬ (nt T0 B0 = T0 ∧ nb T0 B0 = B0) from fun z => R (by rw [z.1, z.2] at R2; exact R2))]
        exact iteT (qn (no R) _ (gA.trans (g3.trans f)))
    | false =>
      obtain ⟨T0, eT⟩ : ∃ T0 : Int, T0 = (valS (bodyS x) : Int) := ⟨_, rfl⟩
      have rp : ratP x = some (T0, B0) := by rw [rp, hs, eT]; rfl
      refine ⟨_, rfl, iteF ?_⟩
      rw [← eT, ← eB]
      have yes : IsR T0 B0 → ratP x = some (T0, B0) := fun _ => rp
      have no : ¬ IsR T0 B0 → ratP x = none := fun z => absurd (by rw [eB]; exact R1 T0) z
      refine ⟨_, rfl, _, rfl, T0, B0, rfl, b0, sb, fun pr H3 g3 e3 => ⟨_, rfl, _, rfl, j0, fun t2 k2 => ?_⟩⟩
      have f := qk k2 (.tup (T2 T0 B0))
      refine ⟨pr, t2, _, _, rfl, rfl, SqT.of (f _ _ e3), SqT.of qz, rfl, rfl, _, rfl, ?_⟩
      rw [eqV2]
      by_cases R : IsR T0 B0
      · have nn := n_of (t := T0) (b := B0) (by omega) R rfl
        rw [decide_eq_true (show nt T0 B0 = T0 ∧ nb T0 B0 = B0 from ⟨nn.1.symm, nn.2.symm⟩)]
        refine iteF ⟨_, rfl, _, rfl, j0, fun t3 k3 => ?_⟩
        exact q T0 B0 (yes R) t3 _ (gA.trans (g3.trans (f.trans (qk k3 _)))) qz
      · have R2 := n_isR (t := T0) (b := B0) (by omega)
        rw [decide_eq_false (show ¬ (nt T0 B0 = T0 ∧ nb T0 B0 = B0) from fun z => R (by rw [z.1, z.2] at R2; exact R2))]
        exact iteT (qn (no R) _ (gA.trans (g3.trans f)))
  ·
    rw [show Txt.partition (top ++ ⟨#[47]⟩ ++ bot) (Str.ofString "/") = (top, ⟨#[47]⟩, bot) by rw [Y1]; exact Yw fr]
    have rp := ratP_two (bot := bot) fr
    have ascT : Asc top := asc.left.left
    have ascB : Asc bot := asc.right
    have lx : top.length + 1 + bot.length = (top ++ ⟨#[47]⟩ ++ bot).length := by rw [zJ, zJ]; rfl
    have lT : top.length ≤ 100000 := by omega
    generalize top ++ ⟨#[47]⟩ ++ bot = x at *
    have g1 := qk hpt (.tup [.str top, .str ⟨#[47]⟩, .str bot])
    have e1 : SqT K (upd H pt (.tup [.str top, .str ⟨#[47]⟩, .str bot])) pt [.str top, .str ⟨#[47]⟩, .str bot] := SqT.of qz
    dsimp only
    generalize upd H pt (.tup [.str top, .str ⟨#[47]⟩, .str bot]) = H1 at *
    refine ⟨pt, _, rfl, e1, rfl, _, _, rfl, _, _, rfl, _, _, rfl, rfl, ?_⟩
    refine ⟨_, rfl, _, rfl, _, rfl, top, rfl, leB (by omega), rfl, ?_⟩
    dsimp only
    rw [cut_first]
    refine .inr ⟨_, rfl, _, rfl, top, rfl, leB (by omega), ?_⟩
    rw [body_cut]
    have lb : (bodyS top).length ≤ 100000 := by have := cut_shorter top (some (if sgnB top = true then 1 else 0)) none; rw [body_cut] at this; omega
    have ab : Asc (bodyS top) := fun c hc => ascT c (body_mem hc)
    have bad : ¬ (goodS (bodyS top) ∧ goodS bot) → ratP x = none := fun h => by
      rw [rp]
      by_cases k : 47 ∈ bot.cps.toList
      · rcases ZK bot 47 with z | ⟨y, r2, e, f2⟩
        · exact absurd k z
        · rw [e, Zj f2]
          obtain ⟨w0, r, er⟩ := x9 r2 47
          rw [er]
          rfl
      · rw [Z2 k]
        exact out2n fun z => h ⟨z.1, z.2.1⟩
    have sl : V.str ⟨#[47]⟩ = V.str (Str.ofString "/") := congrArg V.str Y1.symm
    refine ⟨bodyS top, rfl, ab, lb, fun n en H2 g2 => ?_, fun en H2 g2 => ?_⟩
    case refine_2 =>
      refine ⟨_, rfl, rfl, _, rfl, iteP sl ?_⟩
      have no : ratP x = none := bad fun z => by rw [Q5 z.1] at en; cases en
      refine ⟨_, rfl, bot, rfl, ascB, by omega, fun n2 _ H3 g3 => ?_, fun _ H3 g3 => ?_⟩
      · exact ⟨_, rfl, rfl, _, rfl, iteT (qn no _ (g1.trans (g2.trans g3)))⟩
      · exact ⟨_, rfl, rfl, _, rfl, iteT (qn no _ (g1.trans (g2.trans g3)))⟩
    obtain ⟨gd, rfl⟩ := figO_good en
    refine ⟨_, rfl, rfl, _, rfl, iteP sl ?_⟩
    refine ⟨_, rfl, bot, rfl, ascB, by omega, fun n2 en2 H3 g3 => ?_, fun en2 H3 g3 => ?_⟩
    case refine_2 =>
      have no : ratP x = none := bad fun z => by rw [Q5 z.2] at en2; cases en2
      exact ⟨_, rfl, rfl, _, rfl, iteN isN ⟨_, rfl, rfl, _, rfl, iteT (qn no _ (g1.trans (g2.trans g3)))⟩⟩
    obtain ⟨gd2, rfl⟩ := figO_good en2
    have nos : 47 ∉ bot.cps.toList := fun z => by have := gd2.2.2.1 47 z; omega
    rw [Z2 nos] at rp
    have gA := g1.trans (g2.trans g3)
    refine ⟨_, rfl, rfl, _, rfl, iteN isN ⟨_, rfl, rfl, _, rfl, iteN isN ⟨_, rfl, rfl, _, rfl, ?_⟩⟩⟩
    by_cases m0 : sgnB top = true ∧ valS (bodyS top) = 0
    · exact iteP ((minus0 gd).mpr m0) (qn (by rw [rp, out2n fun z => z.2.2.1 m0]) _ gA)
    refine iteN (fun z => m0 ((minus0 gd).mp z)) ⟨_, rfl, rfl, _, rfl, iteP sl ⟨_, rfl, _, _, rfl, rfl, _, rfl, iteD (fun c => qn (by rw [rp, out2n fun z => by have := z.2.2.2.1; omega]) _ gA) (fun c => ?_)⟩⟩
    have l2 : 2 ≤ valS bot := by omega
    rw [out_ok gd gd2 m0 l2] at rp
    have vb := goodS_val gd2
    refine ⟨_, rfl, _, rfl, top, rfl, leB (by omega), rfl, ?_⟩
    dsimp only
    rw [cut_first]
    obtain ⟨B0, eB⟩ : ∃ B0 : Int, B0 = (valS bot : Int) := ⟨_, rfl⟩
    have b0 : 0 < B0 := by omega
    have sb : Sm 8000 B0 := by unfold Sm; rw [eB, Int.natAbs_natCast]; exact Nat.lt_trans vb (by decide +kernel)
    have low : ∀ z : Int, z.natAbs = valS (bodyS top) → (IsR z B0 ↔ Nat.gcd (valS bot) (valS (bodyS top)) = 1) := fun z hz => by
      have e : Int.gcd z B0 = Nat.gcd (valS bot) (valS (bodyS top)) := by rw [eB, Int.gcd, hz, Int.natAbs_natCast, Nat.gcd_comm]
      exact ⟨fun R => by rw [← e]; exact R.low, fun h => ⟨b0, by rw [e]; exact h⟩⟩
    cases hs : sgnB top with
    | true =>
      obtain ⟨T0, eT⟩ : ∃ T0 : Int, T0 = 0 - (valS (bodyS top) : Int) := ⟨_, rfl⟩
      have lw := low T0 (by omega)
      have et : tv (sgnB top) (bodyS top) = T0 := by rw [hs, eT, Int.zero_sub]; rfl
      rw [et, ← eB] at rp
      refine ⟨_, rfl, iteT ⟨_, rfl, _, _, rfl, rfl, ?_⟩⟩
      dsimp only
      rw [← eT, ← eB]
      have yes : IsR T0 B0 → ratP x = some (T0, B0) := fun R => by rw [rp, if_pos (lw.mp R)]
      have no : ¬ IsR T0 B0 → ratP x = none := fun R => by rw [rp, if_neg fun z => R (lw.mpr z)]
      refine ⟨_, rfl, _, rfl, T0, B0, rfl, b0, sb, fun pr H3 g3 e3 => ⟨_, rfl, _, rfl, j0, fun t2 k2 => ?_⟩⟩
      have f := qk k2 (.tup (T2 T0 B0))
      refine ⟨pr, t2, _, _, rfl, rfl, SqT.of (f _ _ e3), SqT.of qz, rfl, rfl, _, rfl, ?_⟩
      rw [eqV2]
      by_cases R : IsR T0 B0
      · have nn := n_of (t := T0) (b := B0) (by omega) R rfl
        rw [decide_eq_true (show nt T0 B0 = T0 ∧ nb T0 B0 = B0 from ⟨nn.1.symm, nn.2.symm⟩)]
        refine iteF ⟨_, rfl, _, rfl, j0, fun t3 k3 => ?_⟩
        exact q T0 B0 (yes R) t3 _ (gA.trans (g3.trans (f.trans (qk k3 _)))) qz
      · have R2 := n_isR (t := T0) (b := B0) (by omega)
        rw [decide_eq_false (show ¬ (nt T0 B0 = T0 ∧ nb T0 B0 = B0) from fun z => R (by rw [z.1, z.2] at R2; exact R2))]
        exact iteT (qn (no R) _ (gA.trans (g3.trans f)))
    | false =>
      obtain ⟨T0, eT⟩ : ∃ T0 : Int, T0 = (valS (bodyS top) : Int) := ⟨_, rfl⟩
      have lw := low T0 (by omega)
      have et : tv (sgnB top) (bodyS top) = T0 := by rw [hs, eT]; rfl
      rw [et, ← eB] at rp
      refine ⟨_, rfl, iteF ?_⟩
      rw [← eT, ← eB]
      have yes : IsR T0 B0 → ratP x = some (T0, B0) := fun R => by rw [rp, if_pos (lw.mp R)]
      have no : ¬ IsR T0 B0 → ratP x = none := fun R => by rw [rp, if_neg fun z => R (lw.mpr z)]
      refine ⟨_, rfl, _, rfl, T0, B0, rfl, b0, sb, fun pr H3 g3 e3 => ⟨_, rfl, _, rfl, j0, fun t2 k2 => ?_⟩⟩
      have f := qk k2 (.tup (T2 T0 B0))
      refine ⟨pr, t2, _, _, rfl, rfl, SqT.of (f _ _ e3), SqT.of qz, rfl, rfl, _, rfl, ?_⟩
      rw [eqV2]
      by_cases R : IsR T0 B0
      · have nn := n_of (t := T0) (b := B0) (by omega) R rfl
        rw [decide_eq_true (show nt T0 B0 = T0 ∧ nb T0 B0 = B0 from ⟨nn.1.symm, nn.2.symm⟩)]
        refine iteF ⟨_, rfl, _, rfl, j0, fun t3 k3 => ?_⟩
        exact q T0 B0 (yes R) t3 _ (gA.trans (g3.trans (f.trans (qk k3 _)))) qz
      · have R2 := n_isR (t := T0) (b := B0) (by omega)
        rw [decide_eq_false (show ¬ (nt T0 B0 = T0 ∧ nb T0 B0 = B0) from fun z => R (by rw [z.1, z.2] at R2; exact R2))]
        exact iteT (qn (no R) _ (gA.trans (g3.trans f)))
theorem ratP_of {w : Str} : (ratP w = none ∧ ratO w = none) ∨ ∃ t b q, ratP w = some (t, b) ∧ ratO w = some q ∧ TQ q = T2 t b := by
  cases h : ratO w with
  | none => exact .inl ⟨ratO_no h, rfl⟩
  | some q =>
    obtain ⟨t, b, e, _, eq⟩ := ratO_yes h
    exact .inr ⟨t, b, q, e, rfl, eq⟩
def Wds (ws : List Str) : Prop := ∀ p ∈ ws, Asc p ∧ p.length ≤ 100000
def spLUnit (K : PySem.W.Frag) : Sp := fun vs H Q _ => ∃ (l : Addr) (ws : List Str), vs = [.ref l] ∧ SqL K H l (ws.map V.str) ∧ ws ≠ [] ∧ Wds ws ∧ ws.length ≤ 100000 ∧ (∀ u, unitO ws = some u → RetBy H Q fun H' v => UnAt false K H' v u) ∧ (unitO ws = none → ∀ H', Same H H' → Q .non H')
theorem unit_bend (w1 : Str) : unitO [bendW, w1] = (figO w1).map Un.bend := by unfold unitO; exact if_pos ⟨rfl, rfl⟩
theorem unit_sum (w1 : Str) (r : List Str) : unitO (sumW :: w1 :: r) = (match ratO w1, allO termO r with | some q, some ts => some (Un.sum q ts) | _, _ => none) := by
  unfold unitO
  dsimp only
  rw [if_neg (fun z => absurd z.1 (by decide)), if_pos rfl]
  all_goals rfl
theorem unit_else {w0 : Str} {r : List Str} (cb : ¬ (w0 = bendW ∧ r.length = 1)) (cs : ¬ (w0 = sumW ∧ 1 ≤ r.length)) : unitO (w0 :: r) = none := by
  match r, cb, cs with
  | [], _, _ => rfl
  | w1 :: r2, cb, cs =>
    exact (if_neg (c := w0 = bendW ∧ r2 = []) fun z => cb ⟨z.1, by rw [z.2]; rfl⟩).trans (if_neg (c := w0 = sumW) fun z => cs ⟨z, by rw [List.length_cons]; omega⟩)
theorem term_pieces {w x y : Str} (h : Txt.split w ⟨#[58]⟩ = [x, y]) : termO w = (match figO x, ratO y with | some n, some q => some (n, q) | _, _ => none) := by
  unfold termO
  rw [h]
  all_goals rfl
theorem term_not {w : Str} (h : (Txt.split w ⟨#[58]⟩).length ≠ 2) : termO w = none := by
  unfold termO
  match hs : Txt.split w ⟨#[58]⟩ with
  | [] => rfl
  | [_] => rfl
  | [_, _] => rw [hs] at h; exact absurd rfl h
  | _ :: _ :: _ :: _ => rfl
abbrev kX (P w K mg base) (a : Adr) (cdv A outer s H E) := (cxOf CX0 P w K mg base ["_law_words_here", "_law_place", "_law_terms", "_law_word", "_law_pieces"] "_law_unit_of" (qQ yW) a.f_law_unit_of cdv A outer s H E).nox
set_option maxHeartbeats 0 in
theorem ok_law_unit_of (T : Txt K mg a) : FnOk P w K mg base CX0 3 a.f_law_unit_of a.d_law_unit_of ["_law_words_here"] (spLUnit K) := by
  refine T.F_law_unit_of.ok ky (fun vs H Q E h => ?_) (fun cdv A outer s H vs Q E hr h => ?_)
  · obtain ⟨_, _, rfl, _⟩ := h
    rfl
  obtain ⟨l, ws, rfl, hl, ne, wd, lw, q, qn⟩ := h
  have h0 : PS (kX P w K mg base a cdv A outer s H E) (bS yW 0) _ := (ps_if (PW.pt (Y2 (qK op_eq (pe_ix zV (pv 0) qw (fun _ _ => rfl)) qV (qY _)) (Qv (qK op_eq (qX (zx) rfl T.m_len boot_len (pa_c (pv 0) qj) (he := qq rfl _ _) (hpl := qy rfl)) qw (qY _)))))
        (qZ (zj (i := 1) ky.nd rfl (Or.inl rfl) (qW (vZ T) (hr.mono (by decide)) rfl T.m_law_figures T.F_law_figures.kp T.b_law_figures .nil pass0 (pa_c (pe_ix zV (pv 0) qw (fun _ _ => rfl)) (pa_c qw qj)) (he := qq rfl _ _) (hpl := qy rfl)))
      (qJ (zw (pe_ix zV (jj (pa_c (vq (pa_c qV (pa_c (pv 1) qj))) (pa_c vX qj))) (y8 (xW) rfl T.m_int boot_int (pa_c (kv op_isN (pv 1) vX (qY _)) qj) (he := qq rfl _ _) (hpl := qy rfl)) (fun _ _ => rfl)))))
        zv)
  have h1 : PS (kX P w K mg base a cdv A outer s H E) (bS yW 1) _ := (ps_if (PW.pt (pw_or (qK op_ne (pe_ix zV (pv 0) qw (fun _ _ => rfl)) qV (qY _)) (pw_or (qK op_lt (qX (zx) rfl T.m_len boot_len (pa_c (pv 0) qj) (he := qq rfl _ _) (hpl := qy rfl)) qw (qY _)) (wX (qK op_isN (qW (QK T) (hr.mono (by decide)) rfl T.m_law_ratio T.F_law_ratio.kp T.b_law_ratio .nil pass0 (pa_c (pe_ix zV (pv 0) qw (fun _ _ => rfl)) qj) (he := qq rfl _ _) (hpl := qy rfl)) vX (qY _))))))
        (qJ (zw vX))
        zv)
  have h2 : PS (kX P w K mg base a cdv A outer s H E) (bS yW 2) _ := (zj (i := 2) ky.nd rfl (Or.inl rfl) (jj qj))
  have h3 : PS (kX P w K mg base a cdv A outer s H E) (bS yW 3) _ := (Yv PassesOwn.never rfl (jv (yj jZ (pv 0) (yw qw) jV)) (zq (i := 3) ky.nd rfl (Or.inl rfl))
        (qZ (zj (i := 4) ky.nd rfl (Or.inl rfl) (pe_bm PySem.F.plainAttrs_str PySem.F.slot_str_split PySem.F.type_str_split QZ (pv 3) (pa_c qV qj) (hs := qq rfl _ _) (hplain := qy rfl)))
      (qZ (ps_if (PW.pt (pw_or (qK op_ne (qX (zx) rfl T.m_len boot_len (pa_c (pv 4) qj) (he := qq rfl _ _) (hpl := qy rfl)) qw (qY _)) (pw_or (qK op_isN (qW (vZ T) (hr.mono (by decide)) rfl T.m_law_figures T.F_law_figures.kp T.b_law_figures .nil pass0 (pa_c (pe_ix zV (pv 4) qw (fun _ _ => rfl)) (pa_c qw qj)) (he := qq rfl _ _) (hpl := qy rfl)) vX (qY _)) (wX (qK op_isN (qW (QK T) (hr.mono (by decide)) rfl T.m_law_ratio T.F_law_ratio.kp T.b_law_ratio .nil pass0 (pa_c (pe_ix zV (pv 4) qw (fun _ _ => rfl)) qj) (he := qq rfl _ _) (hpl := qy rfl)) vX (qY _))))))
        (qJ (zw vX))
        zv)
      (qJ (ZQ (pe_bm PySem.F.plainAttrs_list PySem.F.slot_list_append PySem.F.type_list_append xX (pv 2) (pa_c (vq (pa_c (qW (vZ T) (hr.mono (by decide)) rfl T.m_law_figures T.F_law_figures.kp T.b_law_figures .nil pass0 (pa_c (pe_ix zV (pv 4) qw (fun _ _ => rfl)) (pa_c qw qj)) (he := qq rfl _ _) (hpl := qy rfl)) (pa_c (qW (QK T) (hr.mono (by decide)) rfl T.m_law_ratio T.F_law_ratio.kp T.b_law_ratio .nil pass0 (pa_c (pe_ix zV (pv 4) qw (fun _ _ => rfl)) qj) (he := qq rfl _ _) (hpl := qy rfl)) qj))) qj) (hs := qq rfl _ _) (hplain := qy rfl)))))))
  have h4 : PS (kX P w K mg base a cdv A outer s H E) (bS yW 4) _ := (zw (vq (pa_c qV (pa_c (qW (QK T) (hr.mono (by decide)) rfl T.m_law_ratio T.F_law_ratio.kp T.b_law_ratio .nil pass0 (pa_c (pe_ix zV (pv 0) qw (fun _ _ => rfl)) qj) (he := qq rfl _ _) (hpl := qy rfl)) (pa_c (pv 2) qj)))))
  refine ⟨_, body5 (by rfl) h0 h1 h2 h3 h4, ?_⟩
  clear h0 h1 h2 h3 h4
  have isN : ∀ {i : Int}, ¬ (V.int i = V.non) := fun z => by cases z
  have isR : ∀ {i : Addr}, ¬ (V.ref i = V.non) := fun z => by cases z
  obtain ⟨w0, r, rfl⟩ : ∃ w0 r, ws = w0 :: r := by
    cases ws with
    | nil => exact absurd rfl ne
    | cons a b => exact ⟨a, b, rfl⟩
  have hl : SqL K H l (.str w0 :: r.map V.str) := hl
  have lr : ((.str w0 :: r.map V.str : List V).length : Int) = (r.length : Int) + 1 := by rw [List.length_cons, List.length_map]; omega
  by_cases cb : w0 = bendW ∧ r.length = 1
  · obtain ⟨rfl, l1⟩ := cb
    obtain ⟨w1, rfl⟩ : ∃ w1, r = [w1] := by
      match r, l1 with
      | [w1], _ => exact ⟨w1, rfl⟩
    have hl : SqL K H l [.str bendW, .str w1] := hl
    have k1 := wd w1 (by simp)
    refine ⟨_, rfl, _, _, _, _, rfl, rfl, hl, rfl, rfl, _, rfl, iteP rfl ⟨_, rfl, _, _, rfl, .inl hl, rfl, _, rfl, iteP rfl ?_⟩⟩
    refine ⟨_, rfl, _, _, _, _, rfl, rfl, hl, rfl, w1, rfl, k1.1, k1.2, fun n en H2 g2 => ?_, fun en H2 g2 => ?_⟩
    · refine ⟨_, rfl, j0, fun t ht => ⟨j0, fun l2 k2 => ?_⟩⟩
      have f1 := qk ht (.tup [.str bendW, .int (n : Int)])
      have f2 := qk k2 (.lst [.ref t, .non])
      refine ⟨_, rfl, rfl, .inr ⟨_, rfl, _, _, _, _, rfl, rfl, SqL.of qz, (show atI [V.ref t, V.non] (if decide (V.int (n : Int) = V.non) = true then 1 else 0) = some (.ref t) by rw [decide_eq_false isN]; rfl), ?_⟩⟩
      exact q (.bend n) (by rw [unit_bend, en]; rfl) t _ (g2.trans (f1.trans f2)) ⟨t, rfl, SqT.of (f2 _ _ qz)⟩
    · refine ⟨_, rfl, j0, fun t ht => ⟨j0, fun l2 k2 => ?_⟩⟩
      have f1 := qk ht (.tup [.str bendW, .non])
      have f2 := qk k2 (.lst [.ref t, .non])
      refine ⟨_, rfl, rfl, .inr ⟨_, rfl, _, _, _, _, rfl, rfl, SqL.of qz, (show atI [V.ref t, V.non] (if decide (V.non = V.non) = true then 1 else 0) = some .non by rw [decide_eq_true rfl]; rfl), ?_⟩⟩
      exact qn (by rw [unit_bend, en]; rfl) _ (g2.trans (f1.trans f2))
  have go : ∀ {G : Prop}, G → G := fun g => g
  have first : V.str w0 = V.str bendW → ¬ V.int ((.str w0 :: r.map V.str : List V).length : Int) = V.int 2 := fun c y => cb ⟨V.str.inj c, by have := V.int.inj y; omega⟩
  by_cases cs : w0 = sumW ∧ 1 ≤ r.length
  case neg =>
    have un := unit_else cb cs
    have second : ∀ {G : Prop}, (V.str w0 ≠ V.str sumW → G) → (V.str w0 = V.str sumW → r = [] → G) → G := fun g1 g2 => by
      by_cases c : V.str w0 = V.str sumW
      · refine g2 c ?_
        by_cases k : 1 ≤ r.length
        · exact absurd ⟨V.str.inj c, k⟩ cs
        · exact List.length_eq_zero_iff.mp (by omega)
      · exact g1 c
    have fin := qn un H (Same.refl _)
    refine ⟨_, rfl, _, _, _, _, rfl, rfl, hl, at0, rfl, _, rfl, ?_⟩
    by_cases c1 : V.str w0 = V.str bendW
    · refine iteP c1 ⟨_, rfl, _, _, rfl, .inl hl, rfl, _, rfl, iteN (first c1) ?_⟩
      exact ⟨_, rfl, _, _, _, _, rfl, rfl, hl, at0, rfl, _, rfl, iteNP (fun z => absurd (c1.symm.trans z) (by decide)) fin⟩
    · refine iteN c1 (iteF ⟨_, rfl, _, _, _, _, rfl, rfl, hl, at0, rfl, _, rfl, ?_⟩)
      refine second (fun c2 => iteNP c2 fin) fun c2 rn => ?_
      exact iteNS c2 ⟨_, rfl, _, _, rfl, .inl hl, _, _, rfl, rfl, _, rfl, iteP (by have k0 := congrArg List.length rn; rw [List.length_nil] at k0; omega) fin⟩
  obtain ⟨rfl, l1⟩ := cs
  obtain ⟨w1, r2, rfl⟩ : ∃ w1 r2, r = w1 :: r2 := by
    match r, l1 with
    | w1 :: r2, _ => exact ⟨w1, r2, rfl⟩
  have uo := unit_sum w1 r2
  have k1 := wd w1 (by simp)
  rw [List.length_cons, List.length_cons] at lw
  have hl : SqL K H l (.str sumW :: .str w1 :: r2.map V.str) := hl
  have hl0 := hl
  have lr : ((.str sumW :: .str w1 :: r2.map V.str : List V).length : Int) = (r2.length : Int) + 2 := by rw [List.length_cons, List.length_cons, List.length_map]; omega
  refine ⟨_, rfl, _, _, _, _, rfl, rfl, hl, at0, rfl, _, rfl, iteN (by decide) (iteF ?_)⟩
  refine ⟨_, rfl, _, _, _, _, rfl, rfl, hl, at0, rfl, _, rfl, iteNS rfl ⟨_, rfl, _, _, rfl, .inl hl, _, _, rfl, rfl, _, rfl, iteN (by omega) ?_⟩⟩
  rcases ratP_of (w := w1) with ⟨rp, ro⟩ | ⟨t1, b1, c, rp, ro, eq⟩
  · refine ⟨_, rfl, _, _, _, _, rfl, rfl, hl, atN (n := 1) rfl, w1, rfl, k1.1, k1.2, fun t b e => (by rw [rp] at e; cases e), fun _ H2 g2 => ⟨rfl, _, rfl, iteP rfl (qn (by rw [uo, ro]) _ g2)⟩⟩
  refine ⟨_, rfl, _, _, _, _, rfl, rfl, hl, atN (n := 1) rfl, w1, rfl, k1.1, k1.2, fun t b e p2 H2 g2 e2 => ⟨rfl, _, rfl, iteN isR ?_⟩, fun e => (by rw [rp] at e; cases e)⟩
  rw [ro] at uo
  clear e2 p2 e
  have hl := g2.seq hl
  refine ⟨(show 0 ≤ sizeLine by decide), fun lt kt => ?_⟩
  have nlt : H lt = none := wQ g2 kt
  have f := qk kt (.lst [])
  have et := qz (H := H2) (a := lt) (o := .lst [])
  have hl := f.seq hl
  have gA := g2.trans f
  generalize upd H2 lt (.lst []) = H3 at *
  refine ⟨_, rfl, _, rfl, _, _, rfl, hl, fun ls ks => ?_⟩
  rw [show cutV (.str sumW :: .str w1 :: r2.map V.str) (some 2) none = r2.map V.str from cutLo (n := 2) (by omega)]
  have nls : ls ≠ lt := Ne.symm (zk et ks)
  have f := qk ks (.lst (r2.map V.str))
  have es := qz (H := H3) (a := ls) (o := .lst (r2.map V.str))
  have et := f _ _ et
  have gA := gA.trans f
  generalize upd H3 ls (.lst (r2.map V.str)) = H4 at *
  have lt2 : (r2.map V.str).length = r2.length := List.length_map ..
  refine ⟨ls, rfl, ⟨_, SqL.of es⟩, Z6 (n := r2.length) (fun i σ H' => Same H H' ∧ H' ls = some (.lst (r2.map V.str)) ∧ ∃ (ts : List (Nat × Rat)) (vt : List V) (u3 u4 : Option V), σ = [some (.ref l), none, some (.ref lt), u3, u4] ∧ H' lt = some (.lst vt) ∧ TL K H' vt ts ∧ allO termO (r2.take i) = some ts) ⟨gA, es, [], [], _, _, rfl, et, .nil, rfl⟩ ?_ ?_ ?_⟩
  case refine_2 =>
    rintro i σ H' hi ⟨g, k2, _⟩
    exact ⟨_, _, SqL.of k2, List.getElem?_eq_getElem (by omega)⟩
  case refine_3 =>
    rintro i σ H0 x Hk hi ⟨g, k2, ts, vt, u3, u4, rfl, et, rt, ea⟩ ⟨rfl, y1⟩
    have ex := y1 _ (SqL.of k2)
    obtain ⟨x0, e0⟩ : ∃ x0, r2[i]? = some x0 := ⟨_, List.getElem?_eq_getElem hi⟩
    rw [List.getElem?_map, e0] at ex
    have ex : V.str x0 = x := Option.some.inj ex
    subst ex
    have mx : x0 ∈ r2 := List.mem_of_getElem? e0
    have kx := wd x0 (by simp [mx])
    have bad : termO x0 = none → unitO (sumW :: w1 :: r2) = none := fun z => by rw [uo, xY mx z]
    refine ⟨_, rfl, rfl, _, _, rfl, rfl, rfl, leB (by omega), fun lp kp => ?_⟩
    rw [colon]
    have pasc : ∀ p ∈ Txt.split x0 ⟨#[58]⟩, Asc p := x3 (c := 58) kx.1
    have short : ∀ p ∈ Txt.split x0 ⟨#[58]⟩, p.length ≤ 100000 := fun p hp => Nat.le_trans (PyProof.Rows.part_short hp) kx.2
    have f := qk kp (.lst ((Txt.split x0 ⟨#[58]⟩).map V.str))
    have ep := qz (H := Hk) (a := lp) (o := .lst ((Txt.split x0 ⟨#[58]⟩).map V.str))
    have k2 := f _ _ k2
    have et := f _ _ et
    have rt := rt.mono f
    have g := g.trans f
    generalize upd Hk lp (.lst ((Txt.split x0 ⟨#[58]⟩).map V.str)) = G1 at *
    refine ⟨_, rfl, _, _, rfl, .inl (SqL.of ep), rfl, _, rfl, ?_⟩
    have lm : ((Txt.split x0 ⟨#[58]⟩).map V.str).length = (Txt.split x0 ⟨#[58]⟩).length := List.length_map ..
    by_cases c2 : (Txt.split x0 ⟨#[58]⟩).length = 2
    case neg => exact iteNP (fun z => c2 (by have := V.int.inj z; omega)) (qn (bad (term_not c2)) _ g)
    obtain ⟨x, y, hs⟩ : ∃ x y, Txt.split x0 ⟨#[58]⟩ = [x, y] := by
      match hs : Txt.split x0 ⟨#[58]⟩, c2 with
      | [x, y], _ => exact ⟨x, y, rfl⟩
    have tp := term_pieces hs
    rw [hs] at ep pasc short lm
    have ep : G1 lp = some (.lst [.str x, .str y]) := ep
    refine iteNS (congrArg V.int (by rw [hs]; rfl)) ?_
    have ax := pasc x (by simp)
    have ay := pasc y (by simp)
    have sx := short x (by simp)
    have sy := short y (by simp)
    refine ⟨_, rfl, _, _, _, _, rfl, rfl, SqL.of ep, rfl, x, rfl, ax, sx, fun n en G2 g2 => ⟨rfl, _, rfl, iteN isN ?_⟩, fun en G2 g2 => ⟨rfl, _, rfl, iteP rfl (qn (bad (by rw [tp, en])) _ (g.trans g2))⟩⟩
    have ep := g2 _ _ ep
    have k2 := g2 _ _ k2
    have et := g2 _ _ et
    have rt := rt.mono g2
    have g := g.trans g2
    rcases ratP_of (w := y) with ⟨yp, yo⟩ | ⟨t2, b2, c3, yp, yo, eq3⟩
    · refine ⟨_, rfl, _, _, _, _, rfl, rfl, SqL.of ep, rfl, y, rfl, ay, sy, fun t b e => (by rw [yp] at e; cases e), fun _ G3 g3 => ⟨rfl, _, rfl, iteP rfl (qn (bad (by rw [tp, en, yo])) _ (g.trans g3))⟩⟩
    refine ⟨_, rfl, _, _, _, _, rfl, rfl, SqL.of ep, rfl, y, rfl, ay, sy, fun t b e p3 G3 g3 e3 => ⟨rfl, _, rfl, iteN isR ?_⟩, fun e => (by rw [yp] at e; cases e)⟩
    have ep := g3 _ _ ep
    have k2 := g3 _ _ k2
    have et := g3 _ _ et
    have rt := rt.mono g3
    have g := g.trans g3
    refine ⟨_, rfl, .inl ⟨rfl, _, SqL.of et⟩, _, rfl, _, _, _, _, rfl, rfl, SqL.of ep, rfl, x, rfl, ax, sx, fun n2 en2 G4 g4 => ?_, fun en2 => (by rw [en] at en2; cases en2)⟩
    have en2 : n = n2 := Option.some.inj (en.symm.trans en2)
    subst en2
    refine ⟨_, rfl, _, _, _, _, rfl, rfl, SqL.of (g4 _ _ ep), rfl, y, rfl, ay, sy, fun t b e p5 G5 g5 e5 => ⟨j0, fun t6 k6 => ?_⟩, fun e => (by rw [yp] at e; cases e)⟩
    rw [yp] at e
    cases e
    have f6 := qk k6 (.tup [.int (n : Int), .ref p5])
    have gB := g4.trans (g5.trans f6)
    have et := gB _ _ et
    have k2 := gB _ _ k2
    have rt := rt.mono gB
    have g := g.trans gB
    have hT : Zz K (upd G5 t6 (.tup [.int (n : Int), .ref p5])) (.ref t6) (n, c3) := ⟨t6, p5, rfl, SqT.of qz, by show SqT K _ p5 (TQ c3); rw [eq3]; exact SqT.of (f6 _ _ e5)⟩
    generalize upd G5 t6 (.tup [.int (n : Int), .ref p5]) = G6 at *
    have ltl := rt.length
    have lal := allO_len ea
    rw [List.length_take] at lal
    refine ⟨lt, vt, _, rfl, rfl, et, kz (by omega), ?_⟩
    refine ⟨g.laid nlt _, by rw [zK nls]; exact k2, ts ++ [(n, c3)], vt ++ [.ref t6], _, _, rfl, qz, Paired.mapP (Paired.snoc rt hT) fun _ _ ⟨t, r, e1, k1, k2⟩ => ⟨t, r, e1, SqT.upd_lst k1 et, SqT.upd_lst k2 et⟩, ?_⟩
    rw [zZ e0]
    exact Yj ea (by rw [tp, en, yo])
  rintro σ H5 ⟨g5, k2, ts, vt, u3, u4, rfl, et, rt, ea⟩
  rw [List.take_of_length_le (Nat.le_refl _)] at ea
  rw [ea] at uo
  refine ⟨⟨_, SqL.of k2, by omega⟩, ?_⟩
  have hl := g5.seq hl0
  refine ⟨_, rfl, _, _, _, _, rfl, rfl, hl, atN (n := 1) rfl, w1, rfl, k1.1, k1.2, fun t b e pr H6 g6 e6 => ⟨_, rfl, (show 3 ≤ sizeLine by decide), fun t7 k7 => ?_⟩, fun e => (by rw [rp] at e; cases e)⟩
  rw [rp] at e
  cases e
  have f7 := qk k7 (.tup [.str sumW, .ref pr, .ref lt])
  have g67 := g6.trans f7
  exact q (.sum c ts) uo t7 _ (g5.trans g67) ⟨t7, pr, lt, vt, rfl, SqT.of qz, by rw [eq]; exact SqT.of (f7 _ _ e6), SqL.of (g67 _ _ et), rt.mono g67⟩
def OpR' {β : Type} (R : V → β → Prop) (v : V) : Option β → Prop
  | some b => R v b
  | none => v = .non
theorem opt_cut {α β : Type} {R : V → β → Prop} {f : α → Option β} (nn : ∀ b, ¬ R .non b) : ∀ {xs : List α} {ys : List V}, Paired (OpR' R) ys (xs.map f) → (V.non ∈ ys ∧ allO f xs = none) ∨ (V.non ∉ ys ∧ ∃ bs, allO f xs = some bs ∧ Paired R ys bs)
  | [], _, .nil => .inr ⟨by simp, [], rfl, .nil⟩
  | x :: xs, y :: ys, .cons h t => by
    cases hf : f x with
    | none =>
      rw [hf] at h
      have h : y = .non := h
      exact .inl ⟨by rw [h]; exact List.mem_cons_self, xY List.mem_cons_self hf⟩
    | some b =>
      rw [hf] at h
      have h : R y b := h
      have ny : V.non ≠ y := fun z => nn b (by rw [z]; exact h)
      rcases opt_cut nn (xs := xs) t with ⟨h1, h2⟩ | ⟨h1, bs, h2, h3⟩
      · refine .inl ⟨List.mem_cons_of_mem _ h1, ?_⟩
        unfold allO
        rw [hf, h2]
      · refine .inr ⟨fun z => ?_, b :: bs, ?_, .cons h h3⟩
        · rcases List.mem_cons.mp z with z | z
          · exact ny z
          · exact h1 z
        · unfold allO
          rw [hf, h2]
theorem ints_outs : ∀ {ys : List V} {ns : List Nat}, Paired (fun v (n : Nat) => v = .int (n : Int)) ys ns → ys = outV ns
  | _, _, .nil => rfl
  | _, _, .cons h t => by
    rw [h, ints_outs t]
    rfl
theorem placesO_len {h : Str} {ws : List Str} {ns : List Nat} (e : j3 h ws = some ns) : ns.length + 1 = ws.length := by
  cases ws with
  | nil => cases e
  | cons w0 r =>
    by_cases c : w0 = h
    · have k : j3 h (w0 :: r) = allO figO r := by unfold j3; exact if_pos c
      rw [k] at e
      rw [allO_len e, List.length_cons]
    · have k : j3 h (w0 :: r) = none := by unfold j3; exact if_neg c
      rw [k] at e
      cases e
theorem places_yes (h : Str) (r : List Str) : j3 h (h :: r) = allO figO r := by unfold j3; exact if_pos rfl
theorem places_no {h w0 : Str} {r : List Str} (c : w0 ≠ h) : j3 h (w0 :: r) = none := by unfold j3; exact if_neg c
theorem comb_len {ps : Option (List Nat)} {us : Option (List Un)} {os : Option (List Nat)} (h : ∀ ns, ps = some ns → ns.length ≠ 1) : combO ps us os = none := by
  match ps, us, os with
  | none, _, _ => rfl
  | some [], _, _ => rfl
  | some [m], _, _ => exact absurd rfl (h [m] rfl)
  | some (_ :: _ :: _), _, _ => rfl
theorem comb_us {ps : Option (List Nat)} {os : Option (List Nat)} : combO ps none os = none := by
  match ps, os with
  | none, _ => rfl
  | some [], _ => rfl
  | some [_], _ => rfl
  | some (_ :: _ :: _), _ => rfl
theorem comb_os {ps : Option (List Nat)} {us : Option (List Un)} : combO ps us none = none := by
  match ps, us with
  | none, _ => rfl
  | some [], _ => rfl
  | some [_], none => rfl
  | some [_], some _ => rfl
  | some (_ :: _ :: _), _ => rfl
theorem wV {β : Type} {R S : V → β → Prop} (m : ∀ v b, R v b → S v b) : ∀ {ys : List V} {os : List (Option β)}, Paired (OpR' R) ys os → Paired (OpR' S) ys os
  | _, _, .nil => .nil
  | _, some b :: _, .cons h t => .cons (m _ b h) (wV m t)
  | _, none :: _, .cons h t => .cons h (wV m t)
theorem opr_all {β : Type} {R : V → β → Prop} {K : PySem.W.Frag} {H : Hp} (m : ∀ v b, R v b → NoOr K H v) : ∀ {ys : List V} {os : List (Option β)}, Paired (OpR' R) ys os → ∀ v ∈ ys, NoOr K H v
  | _, _, .nil, v, h => by cases h
  | _ :: _, some b :: _, .cons h t, v, hv => by
    rcases List.mem_cons.mp hv with rfl | hv
    · exact m _ b h
    · exact opr_all m t v hv
  | _ :: _, none :: _, .cons h t, v, hv => by
    rcases List.mem_cons.mp hv with rfl | hv
    · exact .inl h
    · exact opr_all m t v hv
def RowsOk (x : Str) : Prop := ∀ r ∈ Txt.split x yx, r.length ≤ 90000 ∧ (Txt.split r blank).length ≤ 100
def spLRead (K : PySem.W.Frag) : Sp := fun vs H Q _ => (∃ x : Str, vs = [.str x] ∧ Asc x ∧ x.length ≤ 200000 ∧ RowsOk x ∧ (∀ m us outs, netO x = some (m, us, outs) → ∀ t l o vu H', Same H H' → SqT K H' t [.int ((m : Nat) : Int), .ref l, .ref o] → SqL K H' l vu → UL false K H' vu us → SqL K H' o (outV outs) → Q (.ref t) H') ∧ (netO x = none → ∀ H', Same H H' → Q .non H')) ∨
  (∃ v, vs = [v] ∧ IsS K H v ∧ Q .non H)
abbrev wZ (P w K mg base) (a : Adr) (cdv A outer s H E) := (cxOf CX0 P w K mg base ["_law_text", "_law_rows_here", "_law_many", "_law_units", "_law_outs"] "_law_read" (qQ jq) a.f_law_read cdv A outer s H E).nox
set_option maxHeartbeats 0 in
theorem ok_law_read (T : Txt K mg a) : FnOk P w K mg base CX0 4 a.f_law_read a.d_law_read ["_law_text"] (spLRead K) := by
  refine T.F_law_read.ok QQ (fun vs H Q E h => ?_) (fun cdv A outer s H vs Q E hr h => ?_)
  · rcases h with ⟨_, rfl, _⟩ | ⟨_, rfl, _⟩
    · rfl
    · rfl
  have h0 : PS (wZ P w K mg base a cdv A outer s H E) (bS jq 0) _ := (ps_if (vx (jz (qX (call_iss) rfl T.m_isinstance boot_isinstance (pa_c (pv 0) (pa_c (x4 (v := .ty "str") rfl T.m_str boot_str rfl) qj)) (he := qq rfl _ _) (hpl := qy rfl))))
        (qJ (zw vX))
        zv)
  have h1 : PS (wZ P w K mg base a cdv A outer s H E) (bS jq 1) _ := (Z4 (i := 1) QQ.nd rfl (Or.inl rfl) (N := ["_law_line"]) (ix := [none]) ⟨rfl, rfl, rfl, rfl, trivial, rfl, trivial⟩ rfl (jv (pe_bm PySem.F.plainAttrs_str PySem.F.slot_str_split PySem.F.type_str_split QZ (pv 0) (pa_c qV qj) (hs := qq rfl _ _) (hplain := qy rfl))) (fun _ => (zq (i := 0) (show (["_law_line"] : List Str).Nodup by decide +kernel) rfl (Or.inl rfl))) (fun _ σ => v7 rfl σ) (fun _ => yV) (fun _ => (pe_bm PySem.F.plainAttrs_str PySem.F.slot_str_split PySem.F.type_str_split QZ (pv 0) (pa_c qV qj) (hs := qq rfl _ _) (hplain := qy rfl))))
  have h2 : PS (wZ P w K mg base a cdv A outer s H E) (bS jq 2) _ := (ps_if (PW.pt (pw_or (qK op_lt (qX (zx) rfl T.m_len boot_len (pa_c (pv 1) qj) (he := qq rfl _ _) (hpl := qy rfl)) qw (qY _)) (pw_or (qK op_ne (pe_ix zV (pe_ix zV (pv 1) qw (fun _ _ => rfl)) qw (fun _ _ => rfl)) qV (qY _)) (pw_or (qK op_ne (qX (zx) rfl T.m_len boot_len (pa_c (pe_ix zV (pv 1) qw (fun _ _ => rfl)) qj) (he := qq rfl _ _) (hpl := qy rfl)) qw (qY _)) (wX (qK op_ne (pe_ix zV (pe_ix zV (pv 1) (pe_un un_neg qw) (fun _ _ => rfl)) qw (fun _ _ => rfl)) qV (qY _)))))))
        (qJ (zw vX))
        zv)
  have h3 : PS (wZ P w K mg base a cdv A outer s H E) (bS jq 3) _ := (zj (i := 2) QQ.nd rfl (Or.inl rfl) (qW (vZ T) (hr.mono (by decide)) rfl T.m_law_figures T.F_law_figures.kp T.b_law_figures .nil pass0 (pa_c (pe_ix zV (pe_ix zV (pv 1) qw (fun _ _ => rfl)) qw (fun _ _ => rfl)) (pa_c qw qj)) (he := qq rfl _ _) (hpl := qy rfl)))
  have h4 : PS (wZ P w K mg base a cdv A outer s H E) (bS jq 4) _ := (Z4 (i := 3) QQ.nd rfl (Or.inl rfl) (N := ["_law_words_here"]) (ix := [none]) ⟨rfl, rfl, rfl, rfl, trivial, rfl, trivial⟩ rfl (jv (yj jZ (pv 1) (yw qw) (yw (pe_un un_neg qw)))) (fun _ => (zq (i := 0) (show (["_law_words_here"] : List Str).Nodup by decide +kernel) rfl (Or.inl rfl))) (fun _ σ => v7 rfl σ) (fun _ => yV) (fun _ => (qW (ok_law_unit_of T) (hr.mono (by decide)) rfl T.m_law_unit_of T.F_law_unit_of.kp T.b_law_unit_of .nil pass0 (pa_c (pv 0) qj) (he := qq rfl _ _) (hpl := qy rfl))))
  have h5 : PS (wZ P w K mg base a cdv A outer s H E) (bS jq 5) _ := (Z4 (i := 4) QQ.nd rfl (Or.inl rfl) (N := ["_law_word"]) (ix := [none]) ⟨rfl, rfl, rfl, rfl, trivial, rfl, trivial⟩ rfl (jv (yj jZ (pe_ix zV (pv 1) (pe_un un_neg qw) (fun _ _ => rfl)) (yw qw) jV)) (fun _ => (zq (i := 0) (show (["_law_word"] : List Str).Nodup by decide +kernel) rfl (Or.inl rfl))) (fun _ σ => v7 rfl σ) (fun _ => yV) (fun _ => (qW (vZ T) (hr.mono (by decide)) rfl T.m_law_figures T.F_law_figures.kp T.b_law_figures .nil pass0 (pa_c (pv 0) (pa_c qw qj)) (he := qq rfl _ _) (hpl := qy rfl))))
  have h6 : PS (wZ P w K mg base a cdv A outer s H E) (bS jq 6) _ := (ps_if (PW.pt (pw_or (qK op_isN (pv 2) vX (qY _)) (pw_or (qK (op_inNo (hu_of hr)) vX (pv 3) (by with_unfolding_all rfl)) (wX (qK (op_inNo (hu_of hr)) vX (pv 4) (by with_unfolding_all rfl))))))
        (qJ (zw vX))
        zv)
  have h7 : PS (wZ P w K mg base a cdv A outer s H E) (bS jq 7) _ := (zw (vq (pa_c (pv 2) (pa_c (pv 3) (pa_c (pv 4) qj)))))
  refine ⟨_, body8 (by rfl) h0 h1 h2 h3 h4 h5 h6 h7, ?_⟩
  clear h0 h1 h2 h3 h4 h5 h6 h7
  have isN : ∀ {i : Int}, ¬ (V.int i = V.non) := fun z => by cases z
  rcases h with ⟨x, rfl, asc, len, rows, q, qn⟩ | ⟨v, rfl, is, qn⟩
  case inr => exact ⟨_, rfl, v, rfl, .inr ⟨is, _, rfl, iteT qn⟩⟩
  refine ⟨_, rfl, _, rfl, .inl ⟨x, rfl, _, rfl, iteF ?_⟩⟩
  refine ⟨_, rfl, rfl, _, _, rfl, rfl, rfl, leB (by omega), fun l0 k0 => ?_⟩
  rw [line_is]
  have pasc : ∀ p ∈ Txt.split x yx, Asc p := x3 (c := 10) asc
  have cnt := PyProof.Rows.split_le x yx
  have ne : Txt.split x yx ≠ [] := by obtain ⟨w0, r, e⟩ := x9 x 10; rw [show Txt.split x yx = w0 :: r from e]; simp
  obtain ⟨rs, ers⟩ : ∃ rs, Txt.split x yx = rs := ⟨_, rfl⟩
  unfold RowsOk at rows
  rw [ers] at pasc cnt ne rows ⊢
  have f0 := qk k0 (.lst (rs.map V.str))
  have b0 := qz (H := H) (a := l0) (o := .lst (rs.map V.str))
  generalize upd H l0 (.lst (rs.map V.str)) = H1 at *
  have lrs : (rs.map V.str).length = rs.length := List.length_map ..
  refine ⟨l0, rfl, ⟨_, SqL.of b0⟩, yk (n := rs.length) (fun i ys H' => Same H1 H' ∧ WL H' ys ((rs.take i).map fun r => Txt.split r blank)) ⟨Same.refl _, .nil⟩ (kz (by omega)) ?_ ?_ ?_⟩
  case refine_2 =>
    rintro i ys H' hi ⟨g, _⟩
    exact ⟨_, _, SqL.of (g _ _ b0), List.getElem?_eq_getElem (by omega)⟩
  case refine_3 =>
    rintro i m' ys H' cc y Hk hi ⟨g, r⟩ ⟨rfl, y1⟩ nx _
    have ex := y1 _ (SqL.of (g _ _ b0))
    obtain ⟨x0, e0⟩ : ∃ x0, rs[i]? = some x0 := ⟨_, List.getElem?_eq_getElem hi⟩
    rw [List.getElem?_map, e0] at ex
    have ex : V.str x0 = y := Option.some.inj ex
    subst ex
    have rx := rows x0 (List.mem_of_getElem? e0)
    refine Or.inl ⟨rfl, _, rfl, rfl, _, _, rfl, rfl, rfl, leB (by omega), fun lw kw => nx _ _ ?_⟩
    rw [Yz]
    have f := qk kw (.lst ((Txt.split x0 blank).map V.str))
    refine ⟨g.trans f, ?_⟩
    rw [zZ e0, List.map_append]
    exact Paired.snoc (WL.mono r f) ⟨lw, rfl, qz⟩
  rintro wr H2 ⟨g2, rW⟩
  rw [List.take_of_length_le (Nat.le_refl _)] at rW
  refine ⟨⟨_, SqL.of (g2 _ _ b0), by omega⟩, fun lR kR => ?_⟩
  have f2 := qk kR (.lst wr)
  have bR := qz (H := H2) (a := lR) (o := .lst wr)
  have rW := WL.mono rW f2
  have gA := f0.trans (g2.trans f2)
  generalize upd H2 lR (.lst wr) = H3 at *
  have lwr := Paired.length rW
  rw [List.length_map] at lwr
  rcases rows_cut rs ne with ⟨f, rfl⟩ | ⟨f, mid, z, rfl⟩
  · have no := netO_one ers
    refine ⟨_, rfl, _, _, rfl, .inl (SqL.of bR), _, _, rfl, rfl, _, rfl, iteP (by rw [lwr]; show ((1 : Nat) : Int) < 2; decide) (qn no _ gA)⟩
  have no := netO_two ers
  have l2 : (f :: mid ++ [z]).length = mid.length + 2 := by rw [List.length_append, List.length_cons, List.length_singleton]
  obtain ⟨lf, wm, lz, rfl, ef, rM, ez⟩ : ∃ lf wm lz, wr = .ref lf :: wm ++ [.ref lz] ∧ H3 lf = some (.lst ((Txt.split f blank).map V.str)) ∧ WL H3 wm (mid.map fun r => Txt.split r blank) ∧ H3 lz = some (.lst ((Txt.split z blank).map V.str)) := by
    rw [List.map_append, List.map_cons] at rW
    obtain ⟨v1, v, v2, rfl, p1, ⟨lz, rfl, ez⟩, p3⟩ := Yy (l := (Txt.split f blank) :: mid.map fun r => Txt.split r blank) (r := []) rW
    cases p3
    cases p1 with
    | cons h t =>
      obtain ⟨lf, rfl, ef⟩ := h
      exact ⟨lf, _, lz, rfl, ef, t, ez⟩
  have mf : f ∈ f :: mid ++ [z] := List.mem_append_left _ List.mem_cons_self
  have mz : z ∈ f :: mid ++ [z] := List.mem_append_right _ (List.mem_singleton.mpr rfl)
  have rf := rows f mf
  have rz := rows z mz
  refine ⟨_, rfl, _, _, rfl, .inl (SqL.of bR), _, _, rfl, rfl, _, rfl, iteN (by omega) ?_⟩
  obtain ⟨w0, r0, ewf⟩ : ∃ w0 r0, Txt.split f blank = w0 :: r0 := x9 f 32
  obtain ⟨z0, zr, ewz⟩ : ∃ z0 zr, Txt.split z blank = z0 :: zr := x9 z 32
  have paf : ∀ p ∈ Txt.split f blank, Asc p ∧ p.length ≤ 100000 := fun p hp => ⟨x3 (c := 32) (pasc f mf) p hp, Nat.le_trans (PyProof.Rows.part_short hp) (by omega)⟩
  have paz : ∀ p ∈ Txt.split z blank, Asc p ∧ p.length ≤ 100000 := fun p hp => ⟨x3 (c := 32) (pasc z mz) p hp, Nat.le_trans (PyProof.Rows.part_short hp) (by omega)⟩
  rw [ewf] at ef rf paf no
  rw [ewz] at ez rz paz no
  have ef : H3 lf = some (.lst (.str w0 :: r0.map V.str)) := ef
  have ez : H3 lz = some (.lst (.str z0 :: zr.map V.str)) := ez
  refine ⟨_, rfl, _, _, _, _, rfl, rfl, SqL.of bR, at0, _, _, _, _, rfl, rfl, SqL.of ef, at0, rfl, _, rfl, ?_⟩
  by_cases c1 : w0 = insW
  case neg => exact iteNP (fun z => c1 (V.str.inj z)) (qn (by rw [no, places_no c1]; rfl) _ gA)
  subst c1
  refine iteNS rfl ⟨_, rfl, _, _, _, _, rfl, rfl, SqL.of bR, at0, _, _, rfl, .inl (SqL.of ef), rfl, _, rfl, ?_⟩
  by_cases c2 : r0.length = 1
  case neg =>
    refine iteNP (fun z => c2 (by have := V.int.inj z; rw [List.length_cons, List.length_map] at this; omega)) (qn ?_ _ gA)
    rw [no]
    refine comb_len fun ns e l1 => ?_
    have := placesO_len e
    rw [List.length_cons] at this
    omega
  obtain ⟨w1, rfl⟩ : ∃ w1, r0 = [w1] := by
    match r0, c2 with
    | [w1], _ => exact ⟨w1, rfl⟩
  have ef : H3 lf = some (.lst [.str insW, .str w1]) := ef
  refine iteNS rfl ⟨_, rfl, _, rfl, _, _, _, _, rfl, rfl, SqL.of bR, atLast, _, _, _, _, rfl, rfl, SqL.of ez, at0, rfl, _, rfl, ?_⟩
  by_cases c3 : z0 = outW
  case neg => exact iteNP (fun z => c3 (V.str.inj z)) (qn (by rw [no, places_no c3, comb_os]) _ gA)
  subst c3
  refine iteNS rfl ?_
  rw [places_yes, places_yes] at no
  have kw := paf w1 (by simp)
  refine ⟨_, rfl, _, _, _, _, rfl, rfl, SqL.of bR, at0, _, _, _, _, rfl, rfl, SqL.of ef, rfl, w1, rfl, kw.1, kw.2, fun n en H4 g4 => ?_, fun en H4 g4 => ?_⟩
  · obtain ⟨MV, eV⟩ : ∃ MV, MV = V.int (n : Int) := ⟨_, rfl⟩
    have hm : (MV = .non ∧ figO w1 = none) ∨ ∃ n : Nat, MV = .int (n : Int) ∧ figO w1 = some n := .inr ⟨n, eV, en⟩
    rw [← eV]
    clear eV en
    have bR := g4 _ _ bR
    have ez := g4 _ _ ez
    have rM := WL.mono rM g4
    have gA := gA.trans g4
    refine ⟨_, rfl, _, rfl, _, rfl, _, rfl, _, _, rfl, SqL.of bR, fun ls ks => ?_⟩
    rw [cutMid]
    have f5 := qk ks (.lst wm)
    have bs := qz (H := H4) (a := ls) (o := .lst wm)
    have bR := f5 _ _ bR
    have ez := f5 _ _ ez
    have rM := WL.mono rM f5
    have gA := gA.trans f5
    generalize upd H4 ls (.lst wm) = H5 at *
    have lwm := Paired.length rM
    rw [List.length_map] at lwm
    refine ⟨ls, rfl, ⟨_, SqL.of bs⟩, yk (n := mid.length) (fun i ys H' => Same H5 H' ∧ Paired (OpR' (UnAt false K H')) ys ((mid.take i).map fun r => unitO (Txt.split r blank))) ⟨Same.refl _, .nil⟩ (kz (by omega)) ?_ ?_ ?_⟩
    case refine_2 =>
      rintro i ys H' hi ⟨g, _⟩
      exact ⟨_, _, SqL.of (g _ _ bs), List.getElem?_eq_getElem (by omega)⟩
    case refine_3 =>
      rintro i m' ys H' cc y Hk hi ⟨g, r⟩ ⟨rfl, y1⟩ nx _
      obtain ⟨ws, ew, l9, rfl, k9⟩ := kQ rM (y1 _ (SqL.of (g _ _ bs)))
      obtain ⟨x0, e0⟩ : ∃ x0, mid[i]? = some x0 := ⟨_, List.getElem?_eq_getElem hi⟩
      rw [List.getElem?_map, e0] at ew
      have ew : Txt.split x0 blank = ws := Option.some.inj ew
      subst ew
      have mx : x0 ∈ f :: mid ++ [z] := List.mem_append_left _ (List.mem_cons_of_mem _ (List.mem_of_getElem? e0))
      have rx := rows x0 mx
      obtain ⟨q0, qr, eq0⟩ := x9 x0 32
      refine Or.inl ⟨rfl, _, rfl, l9, _, rfl, SqL.of (g _ _ k9), (by rw [show Txt.split x0 blank = q0 :: qr from eq0]; simp), fun p hp => ⟨x3 (c := 32) (pasc x0 mx) p hp, Nat.le_trans (PyProof.Rows.part_short hp) (by omega)⟩, by omega, fun u hu p3 H6 g6 e6 => nx _ _ ⟨g.trans g6, ?_⟩, fun en H6 g6 => nx _ _ ⟨g.trans g6, ?_⟩⟩
      · rw [zZ e0, List.map_append]
        refine Paired.snoc (wV (fun _ _ h => h.mono g6) r) ?_
        show OpR' _ _ (unitO (Txt.split x0 blank))
        rw [hu]
        exact e6
      · rw [zZ e0, List.map_append]
        refine Paired.snoc (wV (fun _ _ h => h.mono g6) r) ?_
        show OpR' _ _ (unitO (Txt.split x0 blank))
        rw [en]
        rfl
    rintro vu H6 ⟨g6, rU⟩
    rw [List.take_of_length_le (Nat.le_refl _)] at rU
    refine ⟨⟨_, SqL.of (g6 _ _ bs), by omega⟩, fun lU kU => ?_⟩
    have f6 := qk kU (.lst vu)
    have bU := qz (H := H6) (a := lU) (o := .lst vu)
    have rU := wV (fun _ _ (h : UnAt false K _ _ _) => h.mono f6) rU
    have gB := g6.trans f6
    have bR := gB _ _ bR
    have ez := gB _ _ ez
    have gA := gA.trans gB
    generalize upd H6 lU (.lst vu) = H7 at *
    refine ⟨_, rfl, _, rfl, _, _, _, _, rfl, rfl, SqL.of bR, atLast, _, rfl, _, _, rfl, SqL.of ez, fun l8 k8 => ?_⟩
    rw [show cutV (.str outW :: zr.map V.str) (some 1) none = zr.map V.str from cutLo (n := 1) (by rw [List.length_cons]; omega)]
    have f8 := qk k8 (.lst (zr.map V.str))
    have b8 := qz (H := H7) (a := l8) (o := .lst (zr.map V.str))
    have bU := f8 _ _ bU
    have rU := wV (fun _ _ (h : UnAt false K _ _ _) => h.mono f8) rU
    have gA := gA.trans f8
    generalize upd H7 l8 (.lst (zr.map V.str)) = H8 at *
    have lzr : (zr.map V.str).length = zr.length := List.length_map ..
    rw [List.length_cons] at rz
    refine ⟨l8, rfl, ⟨_, SqL.of b8⟩, yk (n := zr.length) (fun i ys H' => Same H8 H' ∧ Paired (OpR' fun v (n : Nat) => v = .int (n : Int)) ys ((zr.take i).map figO)) ⟨Same.refl _, .nil⟩ (kz (by omega)) ?_ ?_ ?_⟩
    case refine_2 =>
      rintro i ys H' hi ⟨g, _⟩
      exact ⟨_, _, SqL.of (g _ _ b8), List.getElem?_eq_getElem (by omega)⟩
    case refine_3 =>
      rintro i m' ys H' cc y Hk hi ⟨g, r⟩ ⟨rfl, y1⟩ nx _
      have ex := y1 _ (SqL.of (g _ _ b8))
      obtain ⟨x0, e0⟩ : ∃ x0, zr[i]? = some x0 := ⟨_, List.getElem?_eq_getElem hi⟩
      rw [List.getElem?_map, e0] at ex
      have ex : V.str x0 = y := Option.some.inj ex
      subst ex
      have kx := paz x0 (by simp [List.mem_of_getElem? e0])
      refine Or.inl ⟨rfl, _, rfl, x0, rfl, kx.1, kx.2, fun n en H9 g9 => nx _ _ ⟨g.trans g9, ?_⟩, fun en H9 g9 => nx _ _ ⟨g.trans g9, ?_⟩⟩
      · rw [zZ e0, List.map_append]
        refine Paired.snoc r ?_
        rw [en]
        rfl
      · rw [zZ e0, List.map_append]
        refine Paired.snoc r ?_
        rw [en]
        rfl
    rintro vo H9 ⟨g9, rO⟩
    rw [List.take_of_length_le (Nat.le_refl _)] at rO
    refine ⟨⟨_, SqL.of (g9 _ _ b8), by omega⟩, fun lO kO => ?_⟩
    have f9 := qk kO (.lst vo)
    have bO := qz (H := H9) (a := lO) (o := .lst vo)
    have gB := g9.trans f9
    have bU := gB _ _ bU
    have rU := wV (fun _ _ (h : UnAt false K _ _ _) => h.mono gB) rU
    have gA := gA.trans gB
    generalize upd H9 lO (.lst vo) = HA at *
    have nU : ∀ v ∈ vu, NoOr K HA v := opr_all (fun v u h => by
      cases u with
      | sum c ts => obtain ⟨t, _, _, _, rfl, h1, _⟩ := h; exact .inr (.inr ⟨t, _, rfl, h1⟩)
      | bend p => obtain ⟨t, rfl, h1⟩ := h; exact .inr (.inr ⟨t, _, rfl, h1⟩)) rU
    have nO : ∀ v ∈ vo, NoOr K HA v := opr_all (fun v n h => .inr (.inl ⟨_, h⟩)) rO
    have cU := opt_cut (fun u h => by cases u with | sum c ts => obtain ⟨_, _, _, _, z, _⟩ := h; cases z | bend p => obtain ⟨_, z, _⟩ := h; cases z) rU
    have cO := opt_cut (fun n h => by cases h) rO
    refine ⟨_, rfl, rfl, _, rfl, ?_⟩
    rcases hm with ⟨eM, em⟩ | ⟨n, eM, em⟩
    · refine iteP eM (qn ?_ _ gA)
      rw [no, show allO figO [w1] = none from xY List.mem_cons_self em]
      rfl
    refine iteN (fun z => isN (eM.symm.trans z)) ?_
    have e1 : allO figO [w1] = some [n] := by unfold allO; rw [em]; rfl
    rw [e1] at no
    refine ⟨_, rfl, lU, vu, rfl, rfl, SqL.of bU, nU, _, rfl, ?_⟩
    rcases cU with ⟨h1, h2⟩ | ⟨h1, us, h2, h3⟩
    · rw [decide_eq_true h1]
      exact iteT (qn (by rw [no, h2, comb_us]) _ gA)
    rw [decide_eq_false h1]
    rw [h2] at no
    refine iteF ⟨_, rfl, lO, vo, rfl, rfl, SqL.of bO, nO, _, rfl, ?_⟩
    rcases cO with ⟨h4, h5⟩ | ⟨h4, outs, h5, h6⟩
    · rw [decide_eq_true h4]
      exact iteT (qn (by rw [no, h5, comb_os]) _ gA)
    rw [decide_eq_false h4]
    rw [h5] at no
    refine iteF ⟨_, rfl, _, rfl, _, rfl, (show 3 ≤ sizeLine by decide), fun t kt => ?_⟩
    have ft := qk kt (.tup [MV, .ref lU, .ref lO])
    rw [ints_outs h6] at bO
    exact q n us outs no t lU lO vu _ (gA.trans ft) (by rw [← eM]; exact SqT.of qz) (SqL.of (ft _ _ bU)) (UL.mono h3 ft) (SqL.of (ft _ _ bO))
  · have hm : (V.non = V.non ∧ figO w1 = none) ∨ ∃ n : Nat, V.non = .int (n : Int) ∧ figO w1 = some n := .inl ⟨rfl, en⟩
    clear en
    have bR := g4 _ _ bR
    have ez := g4 _ _ ez
    have rM := WL.mono rM g4
    have gA := gA.trans g4
    refine ⟨_, rfl, _, rfl, _, rfl, _, rfl, _, _, rfl, SqL.of bR, fun ls ks => ?_⟩
    rw [cutMid]
    have f5 := qk ks (.lst wm)
    have bs := qz (H := H4) (a := ls) (o := .lst wm)
    have bR := f5 _ _ bR
    have ez := f5 _ _ ez
    have rM := WL.mono rM f5
    have gA := gA.trans f5
    generalize upd H4 ls (.lst wm) = H5 at *
    have lwm := Paired.length rM
    rw [List.length_map] at lwm
    refine ⟨ls, rfl, ⟨_, SqL.of bs⟩, yk (n := mid.length) (fun i ys H' => Same H5 H' ∧ Paired (OpR' (UnAt false K H')) ys ((mid.take i).map fun r => unitO (Txt.split r blank))) ⟨Same.refl _, .nil⟩ (kz (by omega)) ?_ ?_ ?_⟩
    case refine_2 =>
      rintro i ys H' hi ⟨g, _⟩
      exact ⟨_, _, SqL.of (g _ _ bs), List.getElem?_eq_getElem (by omega)⟩
    case refine_3 =>
      rintro i m' ys H' cc y Hk hi ⟨g, r⟩ ⟨rfl, y1⟩ nx _
      obtain ⟨ws, ew, l9, rfl, k9⟩ := kQ rM (y1 _ (SqL.of (g _ _ bs)))
      obtain ⟨x0, e0⟩ : ∃ x0, mid[i]? = some x0 := ⟨_, List.getElem?_eq_getElem hi⟩
      rw [List.getElem?_map, e0] at ew
      have ew : Txt.split x0 blank = ws := Option.some.inj ew
      subst ew
      have mx : x0 ∈ f :: mid ++ [z] := List.mem_append_left _ (List.mem_cons_of_mem _ (List.mem_of_getElem? e0))
      have rx := rows x0 mx
      obtain ⟨q0, qr, eq0⟩ := x9 x0 32
      refine Or.inl ⟨rfl, _, rfl, l9, _, rfl, SqL.of (g _ _ k9), (by rw [show Txt.split x0 blank = q0 :: qr from eq0]; simp), fun p hp => ⟨x3 (c := 32) (pasc x0 mx) p hp, Nat.le_trans (PyProof.Rows.part_short hp) (by omega)⟩, by omega, fun u hu p3 H6 g6 e6 => nx _ _ ⟨g.trans g6, ?_⟩, fun en H6 g6 => nx _ _ ⟨g.trans g6, ?_⟩⟩
      · rw [zZ e0, List.map_append]
        refine Paired.snoc (wV (fun _ _ h => h.mono g6) r) ?_
        show OpR' _ _ (unitO (Txt.split x0 blank))
        rw [hu]
        exact e6
      · rw [zZ e0, List.map_append]
        refine Paired.snoc (wV (fun _ _ h => h.mono g6) r) ?_
        show OpR' _ _ (unitO (Txt.split x0 blank))
        rw [en]
        rfl
    rintro vu H6 ⟨g6, rU⟩
    rw [List.take_of_length_le (Nat.le_refl _)] at rU
    refine ⟨⟨_, SqL.of (g6 _ _ bs), by omega⟩, fun lU kU => ?_⟩
    have f6 := qk kU (.lst vu)
    have bU := qz (H := H6) (a := lU) (o := .lst vu)
    have rU := wV (fun _ _ (h : UnAt false K _ _ _) => h.mono f6) rU
    have gB := g6.trans f6
    have bR := gB _ _ bR
    have ez := gB _ _ ez
    have gA := gA.trans gB
    generalize upd H6 lU (.lst vu) = H7 at *
    refine ⟨_, rfl, _, rfl, _, _, _, _, rfl, rfl, SqL.of bR, atLast, _, rfl, _, _, rfl, SqL.of ez, fun l8 k8 => ?_⟩
    rw [show cutV (.str outW :: zr.map V.str) (some 1) none = zr.map V.str from cutLo (n := 1) (by rw [List.length_cons]; omega)]
    have f8 := qk k8 (.lst (zr.map V.str))
    have b8 := qz (H := H7) (a := l8) (o := .lst (zr.map V.str))
    have bU := f8 _ _ bU
    have rU := wV (fun _ _ (h : UnAt false K _ _ _) => h.mono f8) rU
    have gA := gA.trans f8
    generalize upd H7 l8 (.lst (zr.map V.str)) = H8 at *
    have lzr : (zr.map V.str).length = zr.length := List.length_map ..
    rw [List.length_cons] at rz
    refine ⟨l8, rfl, ⟨_, SqL.of b8⟩, yk (n := zr.length) (fun i ys H' => Same H8 H' ∧ Paired (OpR' fun v (n : Nat) => v = .int (n : Int)) ys ((zr.take i).map figO)) ⟨Same.refl _, .nil⟩ (kz (by omega)) ?_ ?_ ?_⟩
    case refine_2 =>
      rintro i ys H' hi ⟨g, _⟩
      exact ⟨_, _, SqL.of (g _ _ b8), List.getElem?_eq_getElem (by omega)⟩
    case refine_3 =>
      rintro i m' ys H' cc y Hk hi ⟨g, r⟩ ⟨rfl, y1⟩ nx _
      have ex := y1 _ (SqL.of (g _ _ b8))
      obtain ⟨x0, e0⟩ : ∃ x0, zr[i]? = some x0 := ⟨_, List.getElem?_eq_getElem hi⟩
      rw [List.getElem?_map, e0] at ex
      have ex : V.str x0 = y := Option.some.inj ex
      subst ex
      have kx := paz x0 (by simp [List.mem_of_getElem? e0])
      refine Or.inl ⟨rfl, _, rfl, x0, rfl, kx.1, kx.2, fun n en H9 g9 => nx _ _ ⟨g.trans g9, ?_⟩, fun en H9 g9 => nx _ _ ⟨g.trans g9, ?_⟩⟩
      · rw [zZ e0, List.map_append]
        refine Paired.snoc r ?_
        rw [en]
        rfl
      · rw [zZ e0, List.map_append]
        refine Paired.snoc r ?_
        rw [en]
        rfl
    rintro vo H9 ⟨g9, rO⟩
    rw [List.take_of_length_le (Nat.le_refl _)] at rO
    refine ⟨⟨_, SqL.of (g9 _ _ b8), by omega⟩, fun lO kO => ?_⟩
    have f9 := qk kO (.lst vo)
    have bO := qz (H := H9) (a := lO) (o := .lst vo)
    have gB := g9.trans f9
    have bU := gB _ _ bU
    have rU := wV (fun _ _ (h : UnAt false K _ _ _) => h.mono gB) rU
    have gA := gA.trans gB
    generalize upd H9 lO (.lst vo) = HA at *
    have nU : ∀ v ∈ vu, NoOr K HA v := opr_all (fun v u h => by
      cases u with
      | sum c ts => obtain ⟨t, _, _, _, rfl, h1, _⟩ := h; exact .inr (.inr ⟨t, _, rfl, h1⟩)
      | bend p => obtain ⟨t, rfl, h1⟩ := h; exact .inr (.inr ⟨t, _, rfl, h1⟩)) rU
    have nO : ∀ v ∈ vo, NoOr K HA v := opr_all (fun v n h => .inr (.inl ⟨_, h⟩)) rO
    have cU := opt_cut (fun u h => by cases u with | sum c ts => obtain ⟨_, _, _, _, z, _⟩ := h; cases z | bend p => obtain ⟨_, z, _⟩ := h; cases z) rU
    have cO := opt_cut (fun n h => by cases h) rO
    refine ⟨_, rfl, rfl, _, rfl, ?_⟩
    rcases hm with ⟨eM, em⟩ | ⟨n, eM, em⟩
    · refine iteP eM (qn ?_ _ gA)
      rw [no, show allO figO [w1] = none from xY List.mem_cons_self em]
      rfl
    refine iteN (fun z => isN (eM.symm.trans z)) ?_
    have e1 : allO figO [w1] = some [n] := by unfold allO; rw [em]; rfl
    rw [e1] at no
    refine ⟨_, rfl, lU, vu, rfl, rfl, SqL.of bU, nU, _, rfl, ?_⟩
    rcases cU with ⟨h1, h2⟩ | ⟨h1, us, h2, h3⟩
    · rw [decide_eq_true h1]
      exact iteT (qn (by rw [no, h2, comb_us]) _ gA)
    rw [decide_eq_false h1]
    rw [h2] at no
    refine iteF ⟨_, rfl, lO, vo, rfl, rfl, SqL.of bO, nO, _, rfl, ?_⟩
    rcases cO with ⟨h4, h5⟩ | ⟨h4, outs, h5, h6⟩
    · rw [decide_eq_true h4]
      exact iteT (qn (by rw [no, h5, comb_os]) _ gA)
    rw [decide_eq_false h4]
    rw [h5] at no
    refine iteF ⟨_, rfl, _, rfl, _, rfl, (show 3 ≤ sizeLine by decide), fun t kt => ?_⟩
    have ft := qk kt (.tup [V.non, .ref lU, .ref lO])
    rw [ints_outs h6] at bO
    exact q n us outs no t lU lO vu _ (gA.trans ft) (by rw [← eM]; exact SqT.of qz) (SqL.of (ft _ _ bU)) (UL.mono h3 ft) (SqL.of (ft _ _ bO))
def yZ : Un → List Nat
  | .sum _ ts => ts.map (·.1)
  | .bend p => [p]
theorem wf_places {u : Un} {e : Nat} (s : ShortU u) : WfU e u ↔ (yZ u).Nodup ∧ ∀ p ∈ yZ u, p < e := by
  cases u with
  | sum c ts =>
    constructor
    · intro h
      refine ⟨h.2.1, fun p hp => ?_⟩
      obtain ⟨x, hx, rfl⟩ := List.mem_map.mp hp
      exact h.1 x hx
    · intro h
      exact ⟨fun x hx => h.2 _ (List.mem_map.mpr ⟨x, hx, rfl⟩), h.1, s⟩
  | bend p =>
    constructor
    · intro h
      exact ⟨by simp [yZ], fun q hq => by rw [List.mem_singleton.mp hq]; exact h⟩
    · intro h
      exact h.2 p (List.mem_singleton.mpr rfl)
theorem any_ge (ns : List Nat) (e : Nat) : (ns.map fun n : Nat => decide ((e : Int) ≤ (n : Int))).any id = false ↔ ∀ p ∈ ns, p < e := by
  rw [List.any_map, List.any_eq_false]
  constructor
  · intro h c hc
    have := h c hc
    simp only [Function.comp, id, decide_eq_true_eq] at this
    omega
  · intro h c hc
    have := h c hc
    simp only [Function.comp, id, decide_eq_true_eq]
    omega
def spIsNet (K : PySem.W.Frag) : Sp := fun vs H Q _ => ∃ (t l o : Addr) (m : Nat) (vu : List V) (us : List Un) (outs : List Nat), vs = [.ref t] ∧ SqT K H t [.int (m : Int), .ref l, .ref o] ∧ SqL K H l vu ∧ UL false K H vu us ∧ SqL K H o (outV outs) ∧ (∀ u ∈ us, ShortU u) ∧ us.length ≤ 200000 ∧ outs.length ≤ 200000 ∧ (NetOk m us outs → ∀ H', Same H H' → Q (.bl true) H') ∧ (¬ NetOk m us outs → ∀ H', Same H H' → Q (.bl false) H')
abbrev Qy (P w K mg base) (a : Adr) (cdv A outer s H E) := (cxOf CX0 P w K mg base ["_law_told", "_law_many", "_law_units", "_law_outs", "_law_k", "_law_unit_here", "_law_some"] "_law_is_net" (qQ jK) a.f_law_is_net cdv A outer s H E).nox
set_option maxHeartbeats 0 in
theorem ok_law_is_net (T : Txt K mg a) : FnOk P w K mg base CX0 1 a.f_law_is_net a.d_law_is_net ["_law_told"] (spIsNet K) := by
  refine T.F_law_is_net.ok vw (fun vs H Q E h => ?_) (fun cdv A outer s H vs Q E hr h => ?_)
  · obtain ⟨_, _, _, _, _, _, _, rfl, _⟩ := h
    rfl
  obtain ⟨t, l, o, m, vu, us, outs, rfl, ht, hl, ru, ho, sh, lus, louts, q, qn⟩ := h
  have h0 : PS (Qy P w K mg base a cdv A outer s H E) (bS jK 0) _ := (xx (pv 0) (wj rfl (zy (zq (i := 1) vw.nd rfl (Or.inr rfl)) (zy (zq (i := 2) vw.nd rfl (Or.inr rfl)) (zy (zq (i := 3) vw.nd rfl (Or.inl rfl)) v6)))))
  have h1 : PS (Qy P w K mg base a cdv A outer s H E) (bS jK 1) _ := (ps_if (PW.pt (pw_or (vx (pt_chain op_le op_le qw (pv 1) qw)) (pw_or (qK op_gt (qX (zx) rfl T.m_len boot_len (pa_c (pv 2) qj) (he := qq rfl _ _) (hpl := qy rfl)) qw (qY _)) (wX (qK op_gt (qX (zx) rfl T.m_len boot_len (pa_c (kj (N := ["_law_unit_here"]) (ix := [none]) ⟨rfl, rfl, rfl, rfl, trivial, rfl, trivial⟩ rfl (jv (pv 2)) (fun _ => (zq (i := 0) (show (["_law_unit_here"] : List Str).Nodup by decide +kernel) rfl (Or.inl rfl))) (fun _ σ => v7 rfl σ) (fun _ => (pif_one (qK op_eq (pe_ix yz (pv 0) qw (fun _ _ => rfl)) qV (qY _)))) (fun _ => (pv 0))) qj) (he := qq rfl _ _) (hpl := qy rfl)) qw (qY _))))))
        (qJ (zw pe_bl))
        zv)
  have h2 : PS (Qy P w K mg base a cdv A outer s H E) (bS jK 2) _ := (Yv PassesOwn.never rfl (pi_enum rfl T.m_enumerate (pa_c (pv 2) qj)) (wj rfl (zy (zq (i := 4) vw.nd rfl (Or.inr rfl)) (zy (zq (i := 5) vw.nd rfl (Or.inl rfl)) v6)))
        (qZ (zj (i := 6) vw.nd rfl (Or.inl rfl) (jj (pa_c (pe_ix yz (pv 5) qw (fun _ _ => rfl)) qj)))
      (qZ (ps_if (qK op_eq (pe_ix yz (pv 5) qw (fun _ _ => rfl)) qV (qY _))
        (qJ (Z4 (i := 6) vw.nd rfl (Or.inl rfl) (N := ["_law_place", "_law_share"]) (ix := [none, none]) ⟨rfl, rfl, rfl, rfl, trivial, rfl, trivial⟩ rfl (jv (pe_ix yz (pv 5) qw (fun _ _ => rfl))) (fun _ => (wj rfl (zy (zq (i := 0) (show (["_law_place", "_law_share"] : List Str).Nodup by decide +kernel) rfl (Or.inl rfl)) (zy (zq (i := 1) (show (["_law_place", "_law_share"] : List Str).Nodup by decide +kernel) rfl (Or.inl rfl)) v6)))) (fun _ σ => go_two rfl rfl (by decide) σ) (fun _ => yV) (fun _ => (pv 0))))
        zv)
      (qJ (ps_if (PW.pt (pw_or (qK op_ne (qX (call_len_setV) rfl T.m_len boot_len (pa_c (y8 (call_set_all rfl) rfl T.m_set boot_set (pa_c (pv 6) qj) (he := qq rfl _ _) (hpl := qy rfl)) qj) (he := qq rfl _ _) (hpl := qy rfl)) (qX (zx) rfl T.m_len boot_len (pa_c (pv 6) qj) (he := qq rfl _ _) (hpl := qy rfl)) (qY _)) (wX (jz (qX (call_any rfl) rfl T.m_any boot_any (pa_c (kj (N := ["_law_place", "_law_many", "_law_k"]) (ix := [none, some 1, some 4]) ⟨rfl, rfl, rfl, rfl, ⟨rfl, ⟨rfl, trivial⟩⟩, rfl, ⟨⟨rfl, Or.inr (Or.inl rfl), ne_loc rfl, rfl, Or.inl rfl⟩, ⟨⟨rfl, Or.inr (Or.inl rfl), ne_loc rfl, rfl, Or.inl rfl⟩, trivial⟩⟩⟩ rfl (jv (pv 6)) (fun _ => (zq (i := 0) (show (["_law_place", "_law_many", "_law_k"] : List Str).Nodup by decide +kernel) rfl (Or.inl rfl))) (fun _ σ => v7 rfl σ) (fun _ => yV) (fun _ => (kv op_ge (pv 0) (pe_op j8 (pv 1) (pv 2)) (qY _)))) qj) (he := qq rfl _ _) (hpl := qy rfl))))))
        (qJ (zw pe_bl))
        zv)))))
  have h3 : PS (Qy P w K mg base a cdv A outer s H E) (bS jK 3) _ := (zw (pe_and (pe_chain op_le op_le qw (qX (zx) rfl T.m_len boot_len (pa_c (pv 3) qj) (he := qq rfl _ _) (hpl := qy rfl)) qw) (pe_one (pe_not (qX (call_any rfl) rfl T.m_any boot_any (pa_c (kj (N := ["_law_place", "_law_many", "_law_units"]) (ix := [none, some 1, some 2]) ⟨rfl, rfl, rfl, rfl, ⟨rfl, ⟨rfl, trivial⟩⟩, rfl, ⟨⟨rfl, Or.inr (Or.inl rfl), ne_loc rfl, rfl, Or.inl rfl⟩, ⟨⟨rfl, Or.inr (Or.inl rfl), ne_loc rfl, rfl, Or.inl rfl⟩, trivial⟩⟩⟩ rfl (jv (pv 3)) (fun _ => (zq (i := 0) (show (["_law_place", "_law_many", "_law_units"] : List Str).Nodup by decide +kernel) rfl (Or.inl rfl))) (fun _ σ => v7 rfl σ) (fun _ => yV) (fun _ => (kv op_ge (pv 0) (pe_op j8 (pv 1) (qX (zx) rfl T.m_len boot_len (pa_c (pv 2) qj) (he := qq rfl _ _) (hpl := qy rfl))) (qY _)))) qj) (he := qq rfl _ _) (hpl := qy rfl))))))
  refine ⟨_, body4 (by rfl) h0 h1 h2 h3, ?_⟩
  clear h0 h1 h2 h3
  have lvu := ru.length
  have lo : (outV outs).length = outs.length := by unfold outV; rw [List.length_map]
  refine ⟨_, rfl, t, _, rfl, ht, rfl, _, _, rfl, _, _, rfl, _, _, rfl, rfl, ?_⟩
  refine ⟨_, rfl, _, _, rfl, rfl, _, rfl, ?_⟩
  by_cases m1 : 1 ≤ m
  case neg => exact iteN (by omega) ⟨_, rfl, iteT (qn (fun z => m1 z.2.2.2.1) _ (Same.refl _))⟩
  refine iteP (by omega) ⟨_, _, rfl, rfl, _, rfl, ?_⟩
  dsimp only
  by_cases m6 : m ≤ 6
  case neg =>
    rw [decide_eq_false (show ¬ (m : Int) ≤ 6 by omega)]
    exact iteT (qn (fun z => m6 z.2.2.2.2.1) _ (Same.refl _))
  rw [decide_eq_true (show (m : Int) ≤ 6 by omega)]
  refine iteF ⟨_, rfl, _, _, rfl, .inl hl, _, _, rfl, rfl, _, rfl, iteD (fun c => qn (fun z => by have := z.2.1; omega) _ (Same.refl _)) (fun c80 => ?_)⟩
  refine ⟨_, rfl, l, rfl, ⟨_, hl⟩, yk (n := us.length) (fun i ys H' => H' = H ∧ ys.length = ((us.take i).filter isB).length) ⟨rfl, rfl⟩ (kz (by omega)) ?_ ?_ ?_⟩
  case refine_2 =>
    rintro i ys H' hi ⟨rfl, _⟩
    exact ⟨_, _, hl, List.getElem?_eq_getElem (by omega)⟩
  case refine_3 =>
    rintro i m' ys H' cc x H3 hi ⟨rfl, ly⟩ ⟨rfl, y1⟩ nx sk
    obtain ⟨u0, eu, hu⟩ := UL.get ru (y1 _ hl)
    obtain ⟨t, zs, rfl, ht⟩ := kind_at hu
    refine ⟨_, rfl, _, _, _, _, rfl, rfl, ht, at0, rfl, _, rfl, ?_⟩
    have es : us.take (i + 1) = us.take i ++ [u0] := zZ eu
    cases hb : isB u0 with
    | true =>
      refine Or.inl ⟨by rfl, _, rfl, nx _ _ ⟨rfl, ?_⟩⟩
      rw [es, ZV, hb, List.length_append, List.length_append, ly]
      rfl
    | false =>
      refine Or.inr ⟨by rfl, sk _ ⟨rfl, ?_⟩⟩
      rw [es, ZV, hb, List.length_append, ly]
      rfl
  rintro ys H3 ⟨rfl, ly⟩
  rw [List.take_of_length_le (Nat.le_refl _)] at ly
  refine ⟨⟨_, hl, by omega⟩, fun lb hlb => ?_⟩
  have g3 := qk hlb (.lst ys)
  refine ⟨_, _, rfl, .inl (SqL.of qz), _, _, rfl, rfl, _, rfl, iteD (fun c => qn (fun z => by have := z.2.2.1; rw [ly] at c; omega) _ g3) (fun cb => ?_)⟩
  rw [ly] at cb
  have hl := g3.seq hl
  have ho := g3.seq ho
  have ru := ru.mono g3
  generalize upd H3 lb (.lst ys) = H1 at *
  refine ⟨_, rfl, l, rfl, ⟨_, hl⟩, Z6 (n := us.length) (fun i σ H' => Same H1 H' ∧ WfN m (us.take i) ∧ ∃ u4 u5 u6 : Option V, σ = [some (.ref t), some (.int (m : Int)), some (.ref l), some (.ref o), u4, u5, u6]) ⟨Same.refl _, fun k u e => nil_get (by rw [List.take_zero] at e; exact e), _, _, _, rfl⟩ ?_ ?_ ?_⟩
  case refine_2 =>
    rintro i σ H' hi ⟨g, _⟩
    exact ⟨_, _, g.seq hl, List.getElem?_eq_getElem (by omega)⟩
  case refine_3 =>
    rintro i σ H0 x Hk hi ⟨g, wf, u4, u5, u6, rfl⟩ ⟨p, x2, hp, rfl, rfl, y1⟩
    obtain ⟨u0, eu, hu⟩ := ru.get (y1 _ (g.seq hl))
    have mu : u0 ∈ us := List.mem_of_getElem? eu
    have su := sh u0 mu
    have f := qk hp (.tup [.int (i : Int), x2])
    have hu := hu.mono (g.trans f)
    have gk := g.trans f
    refine ⟨p, _, rfl, SqT.of qz, rfl, _, _, rfl, _, _, rfl, rfl, ?_⟩
    generalize upd H0 p (.tup [.int (i : Int), x2]) = G0 at *
    have bad : ¬ WfU (m + i) u0 → ¬ NetOk m us outs := fun n z => n (z.1 i u0 eu)
    have wp := wf_places (e := m + i) su
    have lp : (yZ u0).length ≤ 100 := by
      cases u0 with
      | sum c ts => show (ts.map (·.1)).length ≤ 100; rw [List.length_map]; exact su
      | bend p => show 1 ≤ 100; decide
    cases u0 with
    | sum c ts =>
      obtain ⟨tt, pc, pt, vt, rfl, h1, h2, h3, h4⟩ := hu
      have h3 : SqL K G0 pt vt := h3
      have l4 := h4.length
      have su : ts.length ≤ 100 := su
      refine ⟨_, rfl, _, _, _, _, rfl, rfl, h1, rfl, (show 1 ≤ sizeLine by decide), fun l1 k1 => ?_⟩
      have f1 := qk k1 (.lst [.ref pc])
      have h1 := f1.tup h1
      have h3 := f1.seq h3
      have h4 := h4.mono f1
      have gk := gk.trans f1
      generalize upd G0 l1 (.lst [.ref pc]) = G1 at *
      refine ⟨_, rfl, _, _, _, _, rfl, rfl, h1, rfl, rfl, _, rfl, iteP rfl ?_⟩
      refine ⟨_, rfl, _, _, _, _, rfl, rfl, h1, rfl, pt, rfl, ⟨_, h3⟩, yk (n := ts.length) (fun j ys H' => H' = G1 ∧ ys = outV ((ts.take j).map (·.1))) ⟨rfl, rfl⟩ (kz (by omega)) ?_ ?_ ?_⟩
      case refine_2 =>
        rintro j ys H' hj ⟨rfl, _⟩
        exact ⟨_, _, h3, List.getElem?_eq_getElem (by omega)⟩
      case refine_3 =>
        rintro j m' ys H' cc x Hk hj ⟨rfl, rfl⟩ ⟨rfl, y1⟩ nx _
        obtain ⟨x0, ex, tq, rr, rfl, q1, q2⟩ := h4.get (y1 _ h3)
        refine ⟨tq, _, rfl, q1, rfl, _, _, rfl, _, _, rfl, rfl, Or.inl ⟨rfl, _, rfl, nx _ _ ⟨rfl, ?_⟩⟩⟩
        rw [zZ ex, List.map_append]
        unfold outV
        rw [List.map_append]
        rfl
      rintro ys G2 ⟨rfl, rfl⟩
      rw [List.take_of_length_le (Nat.le_refl _)]
      refine ⟨⟨_, h3, by omega⟩, fun lm km => ?_⟩
      have f2 := qk km (.lst (outV (ts.map (·.1))))
      have em : upd G2 lm (.lst (outV (ts.map (·.1)))) lm = some (.lst (outV (yZ (.sum c ts)))) := qz
      have gk := gk.trans f2
      generalize upd G2 lm (.lst (outV (ts.map (·.1)))) = G3 at *
      generalize Un.sum c ts = u0 at *
      have eo : outV (yZ u0) = ((yZ u0).map fun n : Nat => (n : Int)).map V.int := by unfold outV; rw [List.map_map]; rfl
      have em2 := em
      rw [eo] at em2
      have lmp : ((yZ u0).map fun n : Nat => (n : Int)).length = (yZ u0).length := List.length_map ..
      have lop : (outV (yZ u0)).length = (yZ u0).length := by unfold outV; rw [List.length_map]
      refine ⟨_, rfl, lm, _, rfl, SqL.of em2, by omega, fun ls S n n100 nn hls => ?_⟩
      rw [lmp, YZ] at nn
      have f4 := qk hls (.set S n)
      have e4 := qz (H := G3) (a := ls) (o := .set S n)
      have em := f4 _ _ em
      have gk := gk.trans f4
      generalize upd G3 ls (.set S n) = G4 at *
      refine ⟨ls, _, _, rfl, e4, n100, _, rfl, _, _, rfl, .inl (SqL.of em), rfl, _, rfl, ?_⟩
      by_cases nd : (yZ u0).Nodup
      case neg => exact iteNP (fun z => nd (nn.mp (by have := V.int.inj z; omega))) (qn (bad fun z => nd (wp.mp z).1) _ (g3.trans gk))
      refine iteNS (congrArg V.int (by rw [lop, nn.mpr nd])) ?_
      refine ⟨_, rfl, lm, rfl, ⟨_, SqL.of em⟩, yk (n := (yZ u0).length) (fun j ys H' => H' = G4 ∧ ys = (((yZ u0).take j).map fun n : Nat => decide (((m + i : Nat) : Int) ≤ (n : Int))).map V.bl) ⟨rfl, rfl⟩ (kz (by omega)) ?_ ?_ ?_⟩
      case refine_2 =>
        rintro j ys H' hj ⟨rfl, _⟩
        exact ⟨_, _, SqL.of em, List.getElem?_eq_getElem (by omega)⟩
      case refine_3 =>
        rintro j m' ys H' cc x Hk hj ⟨rfl, rfl⟩ ⟨rfl, y1⟩ nx _
        obtain ⟨pl, ep, rfl⟩ := out_at (y1 _ (SqL.of em))
        refine Or.inl ⟨rfl, _, rfl, _, rfl, _, rfl, _, _, rfl, rfl, _, _, rfl, rfl, nx _ _ ⟨rfl, ?_⟩⟩
        rw [zZ ep, List.map_append, List.map_append]
        rfl
      rintro ys G5 ⟨rfl, rfl⟩
      rw [List.take_of_length_le (Nat.le_refl _)]
      refine ⟨⟨_, SqL.of em, by omega⟩, fun D hD => ⟨D, _, rfl, SqL.of qz, ?_⟩⟩
      have f5 := qk hD (.lst (((yZ u0).map fun n : Nat => decide (((m + i : Nat) : Int) ≤ (n : Int))).map V.bl))
      by_cases low : ∀ p ∈ yZ u0, p < m + i
      · rw [(any_ge _ _).mpr low]
        refine ⟨_, rfl, iteF ⟨gk.trans f5, ?_, _, _, _, rfl⟩⟩
        rw [zZ eu]
        exact wf.snoc (by rw [List.length_take, Nat.min_eq_left (Nat.le_of_lt hi)]; exact wp.mpr ⟨nd, low⟩)
      · rw [eq_true_of_ne_false fun z => low ((any_ge _ _).mp z)]
        exact ⟨_, rfl, iteT (qn (bad fun z => low (wp.mp z).2) _ (g3.trans (gk.trans f5)))⟩
    | bend pb =>
      obtain ⟨tt, rfl, h1⟩ := hu
      refine ⟨_, rfl, _, _, _, _, rfl, rfl, h1, rfl, (show 1 ≤ sizeLine by decide), fun lm km => ?_⟩
      have f1 := qk km (.lst [.int (pb : Int)])
      have em : upd G0 lm (.lst [.int (pb : Int)]) lm = some (.lst (outV (yZ (.bend pb)))) := qz
      have h1 := f1.tup h1
      have gk := gk.trans f1
      generalize upd G0 lm (.lst [.int (pb : Int)]) = G3 at *
      refine ⟨_, rfl, _, _, _, _, rfl, rfl, h1, rfl, rfl, _, rfl, iteN (by decide) ?_⟩
      generalize Un.bend pb = u0 at *
      have eo : outV (yZ u0) = ((yZ u0).map fun n : Nat => (n : Int)).map V.int := by unfold outV; rw [List.map_map]; rfl
      have em2 := em
      rw [eo] at em2
      have lmp : ((yZ u0).map fun n : Nat => (n : Int)).length = (yZ u0).length := List.length_map ..
      have lop : (outV (yZ u0)).length = (yZ u0).length := by unfold outV; rw [List.length_map]
      refine ⟨_, rfl, lm, _, rfl, SqL.of em2, by omega, fun ls S n n100 nn hls => ?_⟩
      rw [lmp, YZ] at nn
      have f4 := qk hls (.set S n)
      have e4 := qz (H := G3) (a := ls) (o := .set S n)
      have em := f4 _ _ em
      have gk := gk.trans f4
      generalize upd G3 ls (.set S n) = G4 at *
      refine ⟨ls, _, _, rfl, e4, n100, _, rfl, _, _, rfl, .inl (SqL.of em), rfl, _, rfl, ?_⟩
      by_cases nd : (yZ u0).Nodup
      case neg => exact iteNP (fun z => nd (nn.mp (by have := V.int.inj z; omega))) (qn (bad fun z => nd (wp.mp z).1) _ (g3.trans gk))
      refine iteNS (congrArg V.int (by rw [lop, nn.mpr nd])) ?_
      refine ⟨_, rfl, lm, rfl, ⟨_, SqL.of em⟩, yk (n := (yZ u0).length) (fun j ys H' => H' = G4 ∧ ys = (((yZ u0).take j).map fun n : Nat => decide (((m + i : Nat) : Int) ≤ (n : Int))).map V.bl) ⟨rfl, rfl⟩ (kz (by omega)) ?_ ?_ ?_⟩
      case refine_2 =>
        rintro j ys H' hj ⟨rfl, _⟩
        exact ⟨_, _, SqL.of em, List.getElem?_eq_getElem (by omega)⟩
      case refine_3 =>
        rintro j m' ys H' cc x Hk hj ⟨rfl, rfl⟩ ⟨rfl, y1⟩ nx _
        obtain ⟨pl, ep, rfl⟩ := out_at (y1 _ (SqL.of em))
        refine Or.inl ⟨rfl, _, rfl, _, rfl, _, rfl, _, _, rfl, rfl, _, _, rfl, rfl, nx _ _ ⟨rfl, ?_⟩⟩
        rw [zZ ep, List.map_append, List.map_append]
        rfl
      rintro ys G5 ⟨rfl, rfl⟩
      rw [List.take_of_length_le (Nat.le_refl _)]
      refine ⟨⟨_, SqL.of em, by omega⟩, fun D hD => ⟨D, _, rfl, SqL.of qz, ?_⟩⟩
      have f5 := qk hD (.lst (((yZ u0).map fun n : Nat => decide (((m + i : Nat) : Int) ≤ (n : Int))).map V.bl))
      by_cases low : ∀ p ∈ yZ u0, p < m + i
      · rw [(any_ge _ _).mpr low]
        refine ⟨_, rfl, iteF ⟨gk.trans f5, ?_, _, _, _, rfl⟩⟩
        rw [zZ eu]
        exact wf.snoc (by rw [List.length_take, Nat.min_eq_left (Nat.le_of_lt hi)]; exact wp.mpr ⟨nd, low⟩)
      · rw [eq_true_of_ne_false fun z => low ((any_ge _ _).mp z)]
        exact ⟨_, rfl, iteT (qn (bad fun z => low (wp.mp z).2) _ (g3.trans (gk.trans f5)))⟩
  rintro σ H2 ⟨g2, wf, u4, u5, u6, rfl⟩
  rw [List.take_of_length_le (Nat.le_refl _)] at wf
  refine ⟨⟨_, g2.seq hl, by omega⟩, ?_⟩
  have ho := g2.seq ho
  have hl := g2.seq hl
  have gA := g3.trans g2
  refine ⟨_, rfl, _, _, rfl, .inl ho, _, _, rfl, rfl, _, rfl, ?_⟩
  by_cases o1 : 1 ≤ outs.length
  case neg => exact iteN (by omega) ⟨_, rfl, iteF (qn (fun z => o1 z.2.2.2.2.2.1) _ gA)⟩
  refine iteP (by omega) ⟨_, _, rfl, rfl, _, rfl, ?_⟩
  by_cases o12 : outs.length ≤ 12
  case neg => exact iteN (by omega) (qn (fun z => o12 z.2.2.2.2.2.2.1) _ gA)
  refine iteP (by omega) ?_
  refine ⟨_, rfl, o, rfl, ⟨_, ho⟩, yk (n := outs.length) (fun j ys H' => H' = H2 ∧ ys = ((outs.take j).map fun n : Nat => decide (((m + us.length : Nat) : Int) ≤ (n : Int))).map V.bl) ⟨rfl, rfl⟩ (kz (by omega)) ?_ ?_ ?_⟩
  case refine_2 =>
    rintro j ys H' hj ⟨rfl, _⟩
    exact ⟨_, _, ho, List.getElem?_eq_getElem (by omega)⟩
  case refine_3 =>
    rintro j m' ys H' cc x Hk hj ⟨rfl, rfl⟩ ⟨rfl, y1⟩ nx _
    obtain ⟨pl, ep, rfl⟩ := out_at (y1 _ ho)
    refine Or.inl ⟨rfl, _, rfl, _, rfl, _, rfl, _, _, rfl, .inl hl, _, _, rfl, rfl, _, _, rfl, rfl, nx _ _ ⟨rfl, ?_⟩⟩
    rw [zZ ep, List.map_append, List.map_append, lvu]
    rfl
  rintro ys H4 ⟨rfl, rfl⟩
  rw [List.take_of_length_le (Nat.le_refl _)]
  refine ⟨⟨_, ho, by omega⟩, fun D hD => ⟨D, _, rfl, SqL.of qz, ?_⟩⟩
  have f5 := qk hD (.lst ((outs.map fun n : Nat => decide (((m + us.length : Nat) : Int) ≤ (n : Int))).map V.bl))
  by_cases low : ∀ p ∈ outs, p < m + us.length
  · rw [(any_ge _ _).mpr low]
    exact ⟨_, rfl, q ⟨wf, by omega, by omega, m1, m6, o1, o12, low⟩ _ (gA.trans f5)⟩
  · rw [eq_true_of_ne_false fun z => low ((any_ge _ _).mp z)]
    exact ⟨_, rfl, qn (fun z => low z.2.2.2.2.2.2.2) _ (gA.trans f5)⟩
theorem term_alike {K : PySem.W.Frag} {H : Hp} {n : Nat} {v w : V} {x : Nat × Rat} (h : Zz K H v x) (k : Zz K H w x) : DEq K H (n + 2) v w := by
  obtain ⟨t, r, rfl, h1, h2⟩ := h
  obtain ⟨t', r', rfl, k1, k2⟩ := k
  refine .tup h1 k1 rfl fun j a b e1 e2 => ?_
  match j, e1, e2 with
  | 0, e1, e2 => have e1 : V.int (x.1 : Int) = a := Option.some.inj e1; have e2 : V.int (x.1 : Int) = b := Option.some.inj e2; subst e1 e2; exact .flat rfl
  | 1, e1, e2 => have e1 : V.ref r = a := Option.some.inj e1; have e2 : V.ref r' = b := Option.some.inj e2; subst e1 e2; exact two_alike ⟨r, rfl, h2⟩ ⟨r', rfl, k2⟩
  | j + 2, e1, e2 => exact absurd e1 (by simp)
theorem unit_alike {K : PySem.W.Frag} {H : Hp} {n : Nat} {v w : V} {u : Un} (h : UnAt false K H v u) (k : UnAt false K H w u) : DEq K H (n + 4) v w := by
  cases u with
  | sum c ts =>
    obtain ⟨t, pc, pt, vs, rfl, h1, h2, h3, h4⟩ := h
    obtain ⟨t', pc', pt', vs', rfl, k1, k2, k3, k4⟩ := k
    refine .tup h1 k1 rfl fun j a b e1 e2 => ?_
    match j, e1, e2 with
    | 0, e1, e2 => have e1 : V.str "sum" = a := Option.some.inj e1; have e2 : V.str "sum" = b := Option.some.inj e2; subst e1 e2; exact .flat rfl
    | 1, e1, e2 => have e1 : V.ref pc = a := Option.some.inj e1; have e2 : V.ref pc' = b := Option.some.inj e2; subst e1 e2; exact two_alike ⟨pc, rfl, h2⟩ ⟨pc', rfl, k2⟩
    | 2, e1, e2 =>
      have e1 : V.ref pt = a := Option.some.inj e1
      have e2 : V.ref pt' = b := Option.some.inj e2
      subst e1 e2
      refine .lst h3 k3 (h4.length.trans k4.length.symm) fun j x y f1 f2 => ?_
      obtain ⟨x1, i1, j1⟩ := h4.get f1
      obtain ⟨x2, i2, j2⟩ := k4.get f2
      rw [i1] at i2
      have e := Option.some.inj i2
      subst e
      exact term_alike j1 j2
    | j + 3, e1, e2 => exact absurd e1 (by simp)
  | bend p =>
    obtain ⟨t, rfl, h1⟩ := h
    obtain ⟨t', rfl, k1⟩ := k
    refine .tup h1 k1 rfl fun j a b e1 e2 => ?_
    match j, e1, e2 with
    | 0, e1, e2 => have e1 : V.str "bend" = a := Option.some.inj e1; have e2 : V.str "bend" = b := Option.some.inj e2; subst e1 e2; exact .flat rfl
    | 1, e1, e2 => have e1 : V.int (p : Int) = a := Option.some.inj e1; have e2 : V.int (p : Int) = b := Option.some.inj e2; subst e1 e2; exact .flat rfl
    | j + 2, e1, e2 => exact absurd e1 (by simp)
theorem UL.deep {K : PySem.W.Frag} {H : Hp} {n : Nat} {l m : Addr} {vs ws : List V} {us : List Un} (hl : SqL K H l vs) (hm : SqL K H m ws) (h : UL false K H vs us) (k : UL false K H ws us) : DEq K H (n + 5) (.ref l) (.ref m) := by
  refine .lst hl hm (h.length.trans k.length.symm) fun j x y e1 e2 => ?_
  obtain ⟨q1, f1, g1⟩ := h.get e1
  obtain ⟨q2, f2, g2⟩ := k.get e2
  rw [f1] at f2
  have e := Option.some.inj f2
  subst e
  exact unit_alike g1 g2
theorem outs_deep {K : PySem.W.Frag} {H : Hp} {n : Nat} {l m : Addr} {outs : List Nat} (hl : SqL K H l (outV outs)) (hm : SqL K H m (outV outs)) : DEq K H (n + 1) (.ref l) (.ref m) := by
  refine .lst hl hm rfl fun j x y e1 e2 => ?_
  rw [e1] at e2
  have e := Option.some.inj e2
  subst e
  obtain ⟨o, _, rfl⟩ := out_at e1
  exact .flat rfl
theorem told_alike {K : PySem.W.Frag} {H : Hp} {many : Nat} {l2 o2 lu lo : Addr} {vs ws : List V} {us : List Un} {outs : List Nat} (hl : SqL K H l2 vs) (hm : SqL K H lu ws) (h : UL false K H vs us) (k : UL false K H ws us) (ho : SqL K H o2 (outV outs)) (hp : SqL K H lo (outV outs)) :
    Alike K H [.int (many : Int), .ref l2, .ref o2] [.int (many : Int), .ref lu, .ref lo] := by
  refine ⟨rfl, fun j a b e1 e2 => ?_⟩
  match j, e1, e2 with
  | 0, e1, e2 => have e1 : V.int (many : Int) = a := Option.some.inj e1; have e2 : V.int (many : Int) = b := Option.some.inj e2; subst e1 e2; exact .flat rfl
  | 1, e1, e2 => have e1 : V.ref l2 = a := Option.some.inj e1; have e2 : V.ref lu = b := Option.some.inj e2; subst e1 e2; exact UL.deep (n := 15) hl hm h k
  | 2, e1, e2 => have e1 : V.ref o2 = a := Option.some.inj e1; have e2 : V.ref lo = b := Option.some.inj e2; subst e1 e2; exact outs_deep (n := 19) ho hp
  | j + 3, e1, e2 => exact absurd e1 (by simp)
abbrev KT72 : List V := [.bl true, .bl false, .bl true]
abbrev KN72 : List V := [.bl false, .bl true, .bl true]
def TxOk (x : Str) : Prop := Asc x ∧ x.length ≤ 200000 ∧ RowsOk x
def spAsk (K : PySem.W.Frag) : Sp := fun vs H Q _ => ∃ v, vs = [v] ∧ ((∃ x, v = .str x ∧ TxOk x) ∨ IsS K H v) ∧ ∀ H', Same H H' → Q (.bl true) H'
theorem netO_facts {x : Str} {m : Nat} {us : List Un} {outs : List Nat} (ok : TxOk x) (h : netO x = some (m, us, outs)) : (∀ u ∈ us, ShortU u) ∧ us.length ≤ 200000 ∧ outs.length ≤ 200000 := by
  obtain ⟨asc, len, rows⟩ := ok
  have cnt := PyProof.Rows.split_le x yx
  unfold RowsOk at rows
  rcases rows_cut (Txt.split x yx) (by obtain ⟨w0, r, e⟩ := x9 x 10; rw [show Txt.split x yx = w0 :: r from e]; simp) with ⟨f, es⟩ | ⟨f, mid, z, es⟩
  · rw [netO_one es] at h
    cases h
  rw [netO_two es] at h
  rw [es] at rows cnt
  rw [List.length_append, List.length_cons, List.length_singleton] at cnt
  cases h1 : j3 insW (Txt.split f blank) with
  | none => rw [h1] at h; cases h
  | some ns =>
    cases h2 : allO (fun z => unitO (Txt.split z blank)) mid with
    | none => rw [h2, comb_us] at h; cases h
    | some vs =>
      cases h3 : j3 outW (Txt.split z blank) with
      | none => rw [h3, comb_os] at h; cases h
      | some os =>
        rw [h1, h2, h3] at h
        match ns, h with
        | [n], h =>
          have h : (n, vs, os) = (m, us, outs) := Option.some.inj h
          cases h
          refine ⟨allO_all h2 fun x0 h0 u hu => unitO_short hu (rows x0 (List.mem_append_left _ (List.mem_cons_of_mem _ h0))).2, ?_, ?_⟩
          · have := allO_len h2
            omega
          · have := placesO_len h3
            have := (rows z (List.mem_append_right _ (List.mem_singleton.mpr rfl))).2
            omega
abbrev x5 (P w K mg base) (a : Adr) (cdv A outer s H E) := (cxOf CX0 P w K mg base ["_law_text", "_law_told", "_law_found", "e"] "_law_asked" (qQ jk) a.f_law_asked cdv A outer s H E).nox
set_option maxHeartbeats 0 in
theorem QW (T : Txt K mg a) : FnOk P w K mg base CX0 10 a.f_law_asked a.d_law_asked ["_law_text"] (spAsk K) := by
  refine T.F_law_asked.ok Q3 (fun vs H Q E h => ?_) (fun cdv A outer s H vs Q E hr h => ?_)
  · obtain ⟨_, rfl, _⟩ := h
    rfl
  obtain ⟨v, rfl, hv, q⟩ := h
  have h0 : PS (x5 P w K mg base a cdv A outer s H E) (bS jk 0) _ := (zj (i := 1) Q3.nd rfl (Or.inl rfl) (qW (ok_law_read T) (hr.mono (by decide)) rfl T.m_law_read T.F_law_read.kp T.b_law_read .nil pass0 (pa_c (pv 0) qj) (he := qq rfl _ _) (hpl := qy rfl)))
  have h1 : PS (x5 P w K mg base a cdv A outer s H E) (bS jk 1) _ := (zj (i := 2) Q3.nd rfl (Or.inl rfl) vX)
  have h2 : PS (x5 P w K mg base a cdv A outer s H E) (bS jk 2) _ := (ps_tryTold (i := 3) (j := 2) rfl rfl rfl Q3.nd rfl rfl rfl rfl (ok_read_net T) (hr.mono (by decide)) rfl T.m_read_net T.F_read_net.kp T.b_read_net T.C_Net T.t_Net_told (ok_Net_told T) (hr.mono (by decide)) T.b_Net_told rfl T.m_BendError (pa_c (pv 0) qj) (fun ea => (qZ (zj (i := 2) Q3.nd rfl (Or.inl rfl) (jj (pa_c (qX (call_isiE) rfl T.m_isinstance boot_isinstance (pa_c (pv 3) (pa_c (xq (v := .ref a.c_NoText) rfl T.m_NoText rfl) qj)) (he := qq rfl _ _) (hpl := qy rfl)) (pa_c (qX (call_isiE) rfl T.m_isinstance boot_isinstance (pa_c (pv 3) (pa_c (xq (v := .ref a.c_NoNet) rfl T.m_NoNet rfl) qj)) (he := qq rfl _ _) (hpl := qy rfl)) (pa_c (qX (call_isiE) rfl T.m_isinstance boot_isinstance (pa_c (pv 3) (pa_c (x4 (v := .ty "ValueError") rfl T.m_ValueError boot_ValueError rfl) qj)) (he := qq rfl _ _) (hpl := qy rfl)) qj)))))
      (qJ (ps_if (jz (qX (call_isiN) rfl T.m_isinstance boot_isinstance (pa_c (pv 3) (pa_c (vq (pa_c (xq (v := .ref a.c_NoBox) rfl T.m_NoBox rfl) (pa_c (xq (v := .ref a.c_NoLine) rfl T.m_NoLine rfl) (pa_c (xq (v := .ref a.c_NoRatio) rfl T.m_NoRatio rfl) (pa_c (xq (v := .ref a.c_Unlike) rfl T.m_Unlike rfl) qj))))) qj)) (he := qq rfl _ _) (hpl := qy rfl)))
        (qJ (ZQ (pe_bm PySem.F.plainAttrs_list PySem.F.slot_list_append PySem.F.type_list_append xX (pv 2) (pa_c qV qj) (hs := qq rfl _ _) (hplain := qy rfl))))
        zv)))))
  have h3 : PS (x5 P w K mg base a cdv A outer s H E) (bS jk 3) _ := (ps_if (qK op_isN (pv 1) vX (qY _))
        (qJ (zw (kv (op_eqL (hu_of hr)) (pv 2) (jj (pa_c pe_bl (pa_c pe_bl (pa_c pe_bl qj)))) (qY _))))
        zv)
  have h4 : PS (x5 P w K mg base a cdv A outer s H E) (bS jk 4) _ := (ps_if (vx (jz (qW (ok_law_is_net T) (hr.mono (by decide)) rfl T.m_law_is_net T.F_law_is_net.kp T.b_law_is_net .nil pass0 (pa_c (pv 1) qj) (he := qq rfl _ _) (hpl := qy rfl))))
        (qJ (zw (kv (op_eqL (hu_of hr)) (pv 2) (jj (pa_c pe_bl (pa_c pe_bl (pa_c pe_bl qj)))) (qY _))))
        zv)
  have h5 : PS (x5 P w K mg base a cdv A outer s H E) (bS jk 5) _ := (zw (kv (op_eqD hr.units) (pv 2) (pv 1) (qY _)))
  refine ⟨_, body6 (by rfl) h0 h1 h2 h3 h4 h5, ?_⟩
  clear h0 h1 h2 h3 h4 h5
  have isR : ∀ {i : Addr}, ¬ (V.ref i = V.non) := fun z => by cases z
  rcases hv with ⟨x, rfl, ok⟩ | is
  case inr =>
    refine ⟨_, rfl, .inr ⟨v, rfl, is, ?_⟩⟩
    refine ⟨_, rfl, .inr ⟨v, rfl, is, fun H1 gA => ⟨_, rfl, ⟨T.x_BendError, T.u_NoText⟩, fun ea hea => ?_⟩⟩⟩
    have hx : upd H1 ea (.ext (ExcAt ea a.c_NoText)) ea = some (.ext (ExcAt ea a.c_NoText)) := qz
    have g3 := qk hea (.ext (ExcAt ea a.c_NoText))
    have gA := gA.trans g3
    generalize upd H1 ea (.ext (ExcAt ea a.c_NoText)) = H2 at *
    refine ⟨_, rfl, ea, _, _, _, _, rfl, rfl, hx, T.e_NoText, T.k_NoText, _, rfl, ea, _, _, _, _, rfl, rfl, hx, T.e_NoText, T.k_NoNet, _, rfl, ea, _, _, _, _, rfl, rfl, hx, T.e_NoText, T.k_ValueError, (show 3 ≤ sizeLine by decide), fun p7 h7 => ?_⟩
    have f7 := qk h7 (.lst KT72)
    have b7 := qz (H := H2) (a := p7) (o := .lst KT72)
    have hx := f7 _ _ hx
    have gA := gA.trans f7
    generalize upd H2 p7 (.lst KT72) = H3 at *
    refine ⟨_, rfl, (show 4 ≤ sizeLine by decide), fun tp kt => ?_⟩
    have f8 := qk kt (.tup [.ref a.c_NoBox, .ref a.c_NoLine, .ref a.c_NoRatio, .ref a.c_Unlike])
    have b7 := f8 _ _ b7
    have gA := gA.trans f8
    refine ⟨ea, _, tp, [a.c_NoBox, a.c_NoLine, a.c_NoRatio, a.c_Unlike], rfl, f8 _ _ hx, T.e_NoText, SqT.of qz, fun D hD => ?_, _, rfl, iteF ?_⟩
    · simp only [List.mem_cons, List.not_mem_nil, or_false] at hD
      rcases hD with rfl | rfl | rfl | rfl
      · exact T.k_NoBox
      · exact T.k_NoLine
      · exact T.k_NoRatio
      · exact T.k_Unlike
    generalize upd H3 tp (.tup [.ref a.c_NoBox, .ref a.c_NoLine, .ref a.c_NoRatio, .ref a.c_Unlike]) = H4 at *
    refine ⟨_, rfl, rfl, _, rfl, iteP rfl ⟨_, rfl, (show 3 ≤ sizeLine by decide), fun l8 k8 => ?_⟩⟩
    have f9 := qk k8 (.lst KT72)
    exact ⟨p7, l8, _, _, rfl, rfl, SqL.of (f9 _ _ b7), SqL.of qz, rfl, rfl, q _ (gA.trans f9)⟩
  obtain ⟨asc, len, rows⟩ := id ok
  refine ⟨_, rfl, .inl ⟨x, rfl, asc, len, rows, fun m us outs no t l o vu H0 gA ht hl ru ho => ?_, fun no H0 gA => ?_⟩⟩
  case refine_2 =>
    refine ⟨_, rfl, .inl ⟨x, rfl, asc, len, rows, fun m us outs e => (by rw [no] at e; cases e), fun m us outs e => (by rw [no] at e; cases e), fun _ H1 g1 => ⟨_, rfl, ⟨T.x_BendError, T.u_NoText⟩, fun ea hea => ?_⟩⟩⟩
    have gA := gA.trans g1
    have hx : upd H1 ea (.ext (ExcAt ea a.c_NoText)) ea = some (.ext (ExcAt ea a.c_NoText)) := qz
    have g3 := qk hea (.ext (ExcAt ea a.c_NoText))
    have gA := gA.trans g3
    generalize upd H1 ea (.ext (ExcAt ea a.c_NoText)) = H2 at *
    refine ⟨_, rfl, ea, _, _, _, _, rfl, rfl, hx, T.e_NoText, T.k_NoText, _, rfl, ea, _, _, _, _, rfl, rfl, hx, T.e_NoText, T.k_NoNet, _, rfl, ea, _, _, _, _, rfl, rfl, hx, T.e_NoText, T.k_ValueError, (show 3 ≤ sizeLine by decide), fun p7 h7 => ?_⟩
    have f7 := qk h7 (.lst KT72)
    have b7 := qz (H := H2) (a := p7) (o := .lst KT72)
    have hx := f7 _ _ hx
    have gA := gA.trans f7
    generalize upd H2 p7 (.lst KT72) = H3 at *
    refine ⟨_, rfl, (show 4 ≤ sizeLine by decide), fun tp kt => ?_⟩
    have f8 := qk kt (.tup [.ref a.c_NoBox, .ref a.c_NoLine, .ref a.c_NoRatio, .ref a.c_Unlike])
    have b7 := f8 _ _ b7
    have gA := gA.trans f8
    refine ⟨ea, _, tp, [a.c_NoBox, a.c_NoLine, a.c_NoRatio, a.c_Unlike], rfl, f8 _ _ hx, T.e_NoText, SqT.of qz, fun D hD => ?_, _, rfl, iteF ?_⟩
    · simp only [List.mem_cons, List.not_mem_nil, or_false] at hD
      rcases hD with rfl | rfl | rfl | rfl
      · exact T.k_NoBox
      · exact T.k_NoLine
      · exact T.k_NoRatio
      · exact T.k_Unlike
    generalize upd H3 tp (.tup [.ref a.c_NoBox, .ref a.c_NoLine, .ref a.c_NoRatio, .ref a.c_Unlike]) = H4 at *
    refine ⟨_, rfl, rfl, _, rfl, iteP rfl ⟨_, rfl, (show 3 ≤ sizeLine by decide), fun l8 k8 => ?_⟩⟩
    have f9 := qk k8 (.lst KT72)
    exact ⟨p7, l8, _, _, rfl, rfl, SqL.of (f9 _ _ b7), SqL.of qz, rfl, rfl, q _ (gA.trans f9)⟩
  obtain ⟨sh, lu, lo2⟩ := netO_facts ok no
  refine ⟨_, rfl, .inl ⟨x, rfl, asc, len, rows, fun m2 us2 outs2 e ok2 p H1 g1 hN => ?_, fun m2 us2 outs2 e bad H1 g1 => ⟨_, rfl, ⟨T.x_BendError, T.u_NoNet⟩, fun ea hea => ?_⟩, fun e => (by rw [no] at e; cases e)⟩⟩
  case refine_2 =>
    rw [no] at e
    have e := Option.some.inj e
    cases e
    have gA := gA.trans g1
    have gT := g1
    have hx : upd H1 ea (.ext (ExcAt ea a.c_NoNet)) ea = some (.ext (ExcAt ea a.c_NoNet)) := qz
    have g3 := qk hea (.ext (ExcAt ea a.c_NoNet))
    have gA := gA.trans g3
    have gT := gT.trans g3
    generalize upd H1 ea (.ext (ExcAt ea a.c_NoNet)) = H2 at *
    refine ⟨_, rfl, ea, _, _, _, _, rfl, rfl, hx, T.e_NoNet, T.k_NoNet_NoText, _, rfl, ea, _, _, _, _, rfl, rfl, hx, T.e_NoNet, T.k_NoNet_NoNet, _, rfl, ea, _, _, _, _, rfl, rfl, hx, T.e_NoNet, T.k_NoNet_ValueError, (show 3 ≤ sizeLine by decide), fun p7 h7 => ?_⟩
    have f7 := qk h7 (.lst KN72)
    have b7 := qz (H := H2) (a := p7) (o := .lst KN72)
    have hx := f7 _ _ hx
    have gA := gA.trans f7
    have gT := gT.trans f7
    generalize upd H2 p7 (.lst KN72) = H3 at *
    refine ⟨_, rfl, (show 4 ≤ sizeLine by decide), fun tp kt => ?_⟩
    have f8 := qk kt (.tup [.ref a.c_NoBox, .ref a.c_NoLine, .ref a.c_NoRatio, .ref a.c_Unlike])
    have b7 := f8 _ _ b7
    have gA := gA.trans f8
    have gT := gT.trans f8
    refine ⟨ea, _, tp, [a.c_NoBox, a.c_NoLine, a.c_NoRatio, a.c_Unlike], rfl, f8 _ _ hx, T.e_NoNet, SqT.of qz, fun D hD => ?_, _, rfl, iteF ?_⟩
    · simp only [List.mem_cons, List.not_mem_nil, or_false] at hD
      rcases hD with rfl | rfl | rfl | rfl
      · exact T.k_NoNet_NoBox
      · exact T.k_NoNet_NoLine
      · exact T.k_NoNet_NoRatio
      · exact T.k_NoNet_Unlike
    generalize upd H3 tp (.tup [.ref a.c_NoBox, .ref a.c_NoLine, .ref a.c_NoRatio, .ref a.c_Unlike]) = H4 at *
    refine ⟨_, rfl, rfl, _, rfl, iteN isR ?_⟩
    refine ⟨_, rfl, t, l, o, m, vu, us, outs, rfl, gT.tup ht, gT.seq hl, ru.mono gT, gT.seq ho, sh, lu, lo2, fun ok2 => absurd ok2 bad, fun _ H5 g5 => ⟨_, rfl, iteT ?_⟩⟩
    refine ⟨_, rfl, (show 3 ≤ sizeLine by decide), fun l8 k8 => ?_⟩
    have f9 := qk k8 (.lst KN72)
    exact ⟨p7, l8, _, _, rfl, rfl, SqL.of (f9 _ _ (g5 _ _ b7)), SqL.of qz, rfl, rfl, q _ (gA.trans (g5.trans f9))⟩
  rw [no] at e
  have e := Option.some.inj e
  cases e
  obtain ⟨ku, ko, vk, hNa, hku, rk, hko⟩ := id hN
  obtain ⟨dN, hn⟩ := id hNa
  refine ⟨p, dN, _, rfl, hn, rfl, p, ku, ko, m, vk, us, outs, rfl, hNa, hku, rk, ok2.2.1, hko, fun t2 l2 o2 v2 H2 g2 h2 _ e2 r2 _ e3 => ?_⟩
  have r2 := (r2 p _ hn).un
  have gB := g1.trans g2
  refine ⟨_, rfl, rfl, _, rfl, iteN isR ?_⟩
  refine ⟨_, rfl, t, l, o, m, vu, us, outs, rfl, gB.tup ht, gB.seq hl, ru.mono gB, gB.seq ho, sh, lu, lo2, fun _ H3 g3 => ⟨_, rfl, iteF ?_⟩, fun n => absurd ok2 n⟩
  have gC := gB.trans g3
  refine ⟨_, rfl, _, rfl, t2, t, _, _, rfl, rfl, .inr ⟨g3.tup h2, gC.tup ht⟩, told_alike (SqL.of (g3 _ _ e2)) (gC.seq hl) (r2.mono g3) (ru.mono gC) (SqL.of (g3 _ _ e3)) (gC.seq ho), q _ (gA.trans gC)⟩
def Wok (w : Str) : Prop := Asc w ∧ 32 ∉ w.cps.toList ∧ 10 ∉ w.cps.toList
theorem wok_of {w : Str} (h : w.cps.toList.all (fun c => decide (c < 128 ∧ c ≠ 32 ∧ c ≠ 10)) = true) : Wok w := by
  have k : ∀ c ∈ w.cps.toList, c < 128 ∧ c ≠ 32 ∧ c ≠ 10 := fun c hc => of_decide_eq_true (List.all_eq_true.mp h c hc)
  exact ⟨fun c hc => (k c hc).1, fun z => (k 32 z).2.1 rfl, fun z => (k 10 z).2.2 rfl⟩
def WV (L : List V) : Prop := ∀ v ∈ L, ∃ w, v = .str w ∧ Wok w ∧ w.length ≤ 61
def wvB : V → Bool
  | .str w => w.cps.toList.all (fun c => decide (c < 128 ∧ c ≠ 32 ∧ c ≠ 10)) && decide (w.length ≤ 61)
  | _ => false
theorem wv_all {L : List V} (h : L.all wvB = true) : WV L := fun v hv => by
  have k := List.all_eq_true.mp h v hv
  cases v with
  | str w =>
    have k : (w.cps.toList.all (fun c => decide (c < 128 ∧ c ≠ 32 ∧ c ≠ 10)) && decide (w.length ≤ 61)) = true := k
    rw [Bool.and_eq_true] at k
    exact ⟨w, rfl, wok_of k.1, of_decide_eq_true k.2⟩
  | _ => exact absurd k (by simp [wvB])
theorem at_mod {L : List V} (n : Int) (h : 0 < L.length) : ∃ v, atI L (n % (L.length : Int)) = some v ∧ v ∈ L := by
  have a := Int.emod_nonneg n (show (L.length : Int) ≠ 0 by omega)
  have b := Int.emod_lt_of_pos n (show (0 : Int) < (L.length : Int) by omega)
  obtain ⟨j, hj⟩ : ∃ j : Nat, n % (L.length : Int) = (j : Int) := ⟨(n % (L.length : Int)).toNat, by omega⟩
  rw [hj]
  have hl : j < L.length := by omega
  exact ⟨L[j], atN (List.getElem?_eq_getElem hl), List.getElem_mem hl⟩
def spOddW : Sp := fun vs H Q _ => ∃ n : Int, vs = [.int n] ∧ ∀ w, Wok w → w.length ≤ 61 → ∀ H', Same H H' → Q (.str w) H'
abbrev cb_law_odd (P w K mg base) (a : Adr) (cdv A outer s H E) := (cxOf CX0 P w K mg base ["_law_number", "_law_some"] "_law_odd" (qQ jx) a.f_law_odd cdv A outer s H E).nox
set_option maxHeartbeats 0 in
theorem ok_law_odd (T : Txt K mg a) : FnOk P w K mg base CX0 1 a.f_law_odd a.d_law_odd ["_law_number"] spOddW := by
  refine T.F_law_odd.ok sc_law_odd (fun vs H Q E h => ?_) (fun cdv A outer s H vs Q E hr h => ?_)
  · obtain ⟨_, rfl, _⟩ := h
    rfl
  obtain ⟨n, rfl, q⟩ := h
  obtain ⟨a0, b0, c0, d0, hst0, hv0⟩ : ∃ a b c d, (bS jx 0) = .Assign [.Name (Str.ofString "_law_some") a] (.List b d) c ∧ cVs b = some [.str (Str.ofString ""), .str (Str.ofString "0"), .str (Str.ofString "00"), .str (Str.ofString "-0"), .str (Str.ofString "1/1"), .str (Str.ofString "2/4"), .str (Str.ofString "-1/2"), .str (Str.ofString "1:2"), .str (Str.ofString "0:1"), .str (Str.ofString "ins"), .str (Str.ofString "outs"), .str (Str.ofString "sum"), .str (Str.ofString "bend"), .str (Str.ofString "7")] := ⟨_, _, _, _, rfl, by kernel_rfl⟩
  have h1 : PS (cb_law_odd P w K mg base a cdv A outer s H E) (bS jx 1) _ := (zj (i := 1) sc_law_odd.nd rfl (Or.inl rfl) (pe_op x8 (pv 1) (jj (pa_cut 3 (vs := [.str (Str.ofString "99"), .str (Str.ofString "-1"), .str (Str.ofString "+1")]) (by kernel_rfl) (pa_c (pe_op op_mul_str qV qw) (pa_c (pe_op op_mul_str qV qw) (pa_c qV (pa_c qV (pa_c qV (pa_c qV (pa_c qV (pa_c qV (pa_c qV (pa_c qV qj))))))))))))))
  have h2 : PS (cb_law_odd P w K mg base a cdv A outer s H E) (bS jx 2) _ := (zw (pe_ix zV (pv 1) (pe_op vv (pv 0) (qX (zx) rfl T.m_len boot_len (pa_c (pv 1) qj) (he := qq rfl _ _) (hpl := qy rfl))) (fun _ _ => rfl)))
  have hb : zz jx = [(bS jx 0), (bS jx 1), (bS jx 2)] := by rfl
  generalize (bS jx 0) = S0 at *
  generalize (bS jx 1) = S1 at *
  generalize (bS jx 2) = S2 at *
  rw [hb]
  subst hst0
  refine ⟨_, (qZ (zj (i := 1) sc_law_odd.nd rfl (Or.inl rfl) (jj (pa_all hv0))) (qZ h1 (qJ h2))), ?_⟩
  refine ⟨(show 14 ≤ sizeLine by decide), fun l1 k1 => ?_⟩
  have w1 : WV [V.str (Str.ofString ""), V.str (Str.ofString "0"), V.str (Str.ofString "00"), V.str (Str.ofString "-0"), V.str (Str.ofString "1/1"), V.str (Str.ofString "2/4"), V.str (Str.ofString "-1/2"), V.str (Str.ofString "1:2"), V.str (Str.ofString "0:1"), V.str (Str.ofString "ins"), V.str (Str.ofString "outs"), V.str (Str.ofString "sum"), V.str (Str.ofString "bend"), V.str (Str.ofString "7")] := wv_all (by decide +kernel)
  have y1 : [V.str (Str.ofString ""), V.str (Str.ofString "0"), V.str (Str.ofString "00"), V.str (Str.ofString "-0"), V.str (Str.ofString "1/1"), V.str (Str.ofString "2/4"), V.str (Str.ofString "-1/2"), V.str (Str.ofString "1:2"), V.str (Str.ofString "0:1"), V.str (Str.ofString "ins"), V.str (Str.ofString "outs"), V.str (Str.ofString "sum"), V.str (Str.ofString "bend"), V.str (Str.ofString "7")].length = 14 := rfl
  generalize [V.str (Str.ofString ""), V.str (Str.ofString "0"), V.str (Str.ofString "00"), V.str (Str.ofString "-0"), V.str (Str.ofString "1/1"), V.str (Str.ofString "2/4"), V.str (Str.ofString "-1/2"), V.str (Str.ofString "1:2"), V.str (Str.ofString "0:1"), V.str (Str.ofString "ins"), V.str (Str.ofString "outs"), V.str (Str.ofString "sum"), V.str (Str.ofString "bend"), V.str (Str.ofString "7")] = L1 at *
  have f1 := qk k1 (.lst L1)
  have b1 := qz (H := H) (a := l1) (o := .lst L1)
  generalize upd H l1 (.lst L1) = H1 at *
  refine ⟨_, rfl, _, _, rfl, rfl, ⟨by decide, fun _ _ => by decide, fun _ _ => by decide⟩, _, _, rfl, rfl, ⟨by decide, fun _ _ => by decide, fun _ _ => by decide⟩, (show 13 ≤ sizeLine by decide), fun l2 k2 => ?_⟩
  have w2 : WV ([V.str (Str.ofString "99"), V.str (Str.ofString "-1"), V.str (Str.ofString "+1")] ++ [V.str (Txt.mul (Str.ofString "1") 61), V.str (Txt.mul (Str.ofString "1") 60), V.str (Str.ofString "x"), V.str (Str.ofString ":"), V.str (Str.ofString "0:"), V.str (Str.ofString ":1"), V.str (Str.ofString "0:1:1"), V.str (Str.ofString "3/0"), V.str (Str.ofString "1/-2"), V.str (Str.ofString "0:1/3")]) := wv_all (by decide +kernel)
  have y2 : ([V.str (Str.ofString "99"), V.str (Str.ofString "-1"), V.str (Str.ofString "+1")] ++ [V.str (Txt.mul (Str.ofString "1") 61), V.str (Txt.mul (Str.ofString "1") 60), V.str (Str.ofString "x"), V.str (Str.ofString ":"), V.str (Str.ofString "0:"), V.str (Str.ofString ":1"), V.str (Str.ofString "0:1:1"), V.str (Str.ofString "3/0"), V.str (Str.ofString "1/-2"), V.str (Str.ofString "0:1/3")]).length = 13 := rfl
  generalize ([V.str (Str.ofString "99"), V.str (Str.ofString "-1"), V.str (Str.ofString "+1")] ++ [V.str (Txt.mul (Str.ofString "1") 61), V.str (Txt.mul (Str.ofString "1") 60), V.str (Str.ofString "x"), V.str (Str.ofString ":"), V.str (Str.ofString "0:"), V.str (Str.ofString ":1"), V.str (Str.ofString "0:1:1"), V.str (Str.ofString "3/0"), V.str (Str.ofString "1/-2"), V.str (Str.ofString "0:1/3")]) = L2 at *
  have f2 := qk k2 (.lst L2)
  have b2 := qz (H := H1) (a := l2) (o := .lst L2)
  have b1 := f2 _ _ b1
  generalize upd H1 l2 (.lst L2) = H2 at *
  refine ⟨_, _, _, _, rfl, rfl, b1, b2, Nat.le_of_lt (zW (by omega)), fun l3 k3 => ?_⟩
  have f3 := qk k3 (.lst (L1 ++ L2))
  have b3 := qz (H := H2) (a := l3) (o := .lst (L1 ++ L2))
  generalize upd H2 l3 (.lst (L1 ++ L2)) = H3 at *
  have l27 : (L1 ++ L2).length = 27 := by rw [List.length_append]; omega
  obtain ⟨v, hat, hv⟩ := at_mod (L := L1 ++ L2) n (by omega)
  obtain ⟨wd, rfl, hw, hl⟩ : ∃ w, v = .str w ∧ Wok w ∧ w.length ≤ 61 := (List.mem_append.mp hv).elim (w1 v) (w2 v)
  exact ⟨_, rfl, _, rfl, _, rfl, _, _, rfl, .inl (SqL.of b3), _, _, rfl, rfl, (by omega), _, _, _, _, rfl, rfl, SqL.of b3, hat, q wd hw hl _ (f1.trans (f2.trans f3))⟩
def wt (ws : List Str) : Nat := (ws.map (·.length)).sum + ws.length
def RowB (M W : Nat) (r : Str) : Prop := ∃ ws, r = Str.join blank ws ∧ ws ≠ [] ∧ (∀ w ∈ ws, Wok w) ∧ wt ws ≤ M ∧ ws.length ≤ W
theorem RowB.split {M W : Nat} {r : Str} (h : RowB M W r) : (∀ w ∈ Txt.split r blank, Wok w) ∧ wt (Txt.split r blank) ≤ M ∧ (Txt.split r blank).length ≤ W ∧ Txt.split r blank ≠ [] := by
  obtain ⟨ws, rfl, n, k, h1, h2⟩ := h
  have e : Txt.split (Str.join blank ws) blank = ws := Q7 n fun p hp => (k p hp).2.1
  rw [e]
  exact ⟨k, h1, h2, n⟩
theorem RowB.len {M W : Nat} {r : Str} (h : RowB M W r) : r.length ≤ M := by
  obtain ⟨ws, rfl, n, k, h1, h2⟩ := h
  have j : (Str.join blank ws).length ≤ _ := ZJ (c := 32) ws
  unfold wt at h1
  omega
theorem RowB.free {M W : Nat} {r : Str} (h : RowB M W r) : 10 ∉ r.cps.toList := by
  obtain ⟨ws, rfl, n, k, h1, h2⟩ := h
  exact Z1 (by decide) fun p hp => (k p hp).2.2
theorem asc_join {c : Nat} (hc : c < 128) : ∀ {ps : List Str}, (∀ p ∈ ps, Asc p) → Asc (Str.join ⟨#[c]⟩ ps)
  | [], _ => fun d hd => by cases hd
  | [p], h => h p (List.mem_singleton.mpr rfl)
  | p :: q :: ps, h => fun d hd => by
    have hd : d ∈ (p ++ ⟨#[c]⟩ ++ Str.join ⟨#[c]⟩ (q :: ps)).cps.toList := hd
    rw [zX, zX] at hd
    rcases List.mem_append.mp hd with z | z
    · rcases List.mem_append.mp z with z | z
      · exact h p List.mem_cons_self d z
      · rw [List.mem_singleton.mp z]; exact hc
    · exact asc_join hc (fun x hx => h x (List.mem_cons_of_mem _ hx)) d z
theorem RowB.asc {M W : Nat} {r : Str} (h : RowB M W r) : Asc r := by
  obtain ⟨ws, rfl, n, k, h1, h2⟩ := h
  exact asc_join (by decide) fun p hp => (k p hp).1
def TxB (R M W : Nat) (x : Str) : Prop := ∃ rs, x = Str.join yx rs ∧ rs ≠ [] ∧ rs.length ≤ R ∧ ∀ r ∈ rs, RowB M W r
theorem TxB.split {R M W : Nat} {x : Str} (h : TxB R M W x) : Txt.split x yx ≠ [] ∧ (Txt.split x yx).length ≤ R ∧ ∀ r ∈ Txt.split x yx, RowB M W r := by
  obtain ⟨rs, rfl, n, l, k⟩ := h
  have e : Txt.split (Str.join yx rs) yx = rs := Q7 n fun p hp => (k p hp).free
  rw [e]
  exact ⟨n, l, k⟩
theorem TxB.ok {R M W : Nat} {x : Str} (h : TxB R M W x) (hr : R ≤ 30) (hm : M ≤ 6000) (hw : W ≤ 100) : TxOk x := by
  obtain ⟨n, l, k⟩ := h.split
  obtain ⟨rs, e, _, l2, k2⟩ := h
  refine ⟨?_, ?_, fun r hr => ⟨by have := (k r hr).len; omega, by have := (k r hr).split.2.2.1; omega⟩⟩
  · rw [e]
    exact asc_join (by decide) fun r hr => (k2 r hr).asc
  · have s := sum_le (B := 6000) (ys := rs) fun r hr => by have := (k2 r hr).len; omega
    have j : (Str.join yx rs).length ≤ _ := ZJ (c := 10) rs
    rw [e]
    have : rs.length * 6000 ≤ 30 * 6000 := Nat.mul_le_mul_right _ (by omega)
    omega
theorem wk (u v : List Str) : wt (u ++ v) = wt u + wt v := by
  unfold wt
  rw [List.map_append, List.sum_append, List.length_append]
  omega
theorem QJ (w : Str) : wt [w] = w.length + 1 := by
  unfold wt
  simp
theorem wt_take (u : List Str) (n : Nat) : wt (u.take n) + wt (u.drop n) = wt u := by
  rw [← wk, List.take_append_drop]
theorem wt_drop_le (u : List Str) {i j : Nat} (h : i ≤ j) : wt (u.drop j) ≤ wt (u.drop i) := by
  have e : u.drop j = (u.drop i).drop (j - i) := by rw [List.drop_drop]; congr 1; omega
  have := wt_take (u.drop i) (j - i)
  rw [e]
  omega
theorem Zy {M W : Nat} {ws : List Str} (k : ∀ w ∈ ws, Wok w) (h1 : wt ws ≤ M) (h2 : ws.length ≤ W) (m : 1 ≤ M) (v : 1 ≤ W) : RowB M W (Str.join blank ws) := by
  by_cases n : ws = []
  · refine ⟨[Str.empty], by rw [n]; rfl, by simp, fun w hw => ?_, by rw [QJ]; exact m, v⟩
    rw [List.mem_singleton.mp hw]
    exact wok_of (by decide)
  · exact ⟨ws, rfl, n, k, h1, h2⟩
theorem join_two {c : Nat} {x y : Str} : ∀ (u v : List Str), Str.join ⟨#[c]⟩ (u ++ (x ++ ⟨#[c]⟩ ++ y) :: v) = Str.join ⟨#[c]⟩ (u ++ x :: y :: v)
  | [], v => StrLaws.join_shift _ _ _ v
  | [p], v => by
    show p ++ ⟨#[c]⟩ ++ Str.join ⟨#[c]⟩ ((x ++ ⟨#[c]⟩ ++ y) :: v) = p ++ ⟨#[c]⟩ ++ Str.join ⟨#[c]⟩ (x :: y :: v)
    rw [StrLaws.join_shift]
    rfl
  | p :: q :: u, v => by
    show p ++ ⟨#[c]⟩ ++ Str.join ⟨#[c]⟩ (q :: u ++ (x ++ ⟨#[c]⟩ ++ y) :: v) = p ++ ⟨#[c]⟩ ++ Str.join ⟨#[c]⟩ (q :: u ++ x :: y :: v)
    rw [join_two (q :: u) v]
def WN (lR : Addr) (H : Hp) (vs : List V) (ws : List (List Str)) : Prop := Paired (fun v w => ∃ l, v = .ref l ∧ l ≠ lR ∧ H l = some (.lst (w.map V.str))) vs ws
theorem WN.mono {lR : Addr} {H H' : Hp} {vs : List V} {ws : List (List Str)} (h : WN lR H vs ws) (g : Same H H') : WN lR H' vs ws := Paired.mapP h fun _ _ ⟨l, e, n, k⟩ => ⟨l, e, n, g _ _ k⟩
theorem WN.put {lR : Addr} {H : Hp} {o : HO} {vs : List V} {ws : List (List Str)} (h : WN lR H vs ws) : WN lR (upd H lR o) vs ws := Paired.mapP h fun _ _ ⟨l, e, n, k⟩ => ⟨l, e, n, by rw [zK n]; exact k⟩
theorem wn_app {lR : Addr} {H : Hp} : ∀ {vs ws : List V} {us zs : List (List Str)}, WN lR H vs us → WN lR H ws zs → WN lR H (vs ++ ws) (us ++ zs)
  | _, _, _, _, .nil, h => h
  | _, _, _, _, .cons h t, k => .cons h (wn_app t k)
theorem wn_take {lR : Addr} {H : Hp} {vs : List V} {ws : List (List Str)} (n : Nat) (h : WN lR H vs ws) : WN lR H (vs.take n) (ws.take n) := paired_take n h
theorem wn_drop {lR : Addr} {H : Hp} : ∀ {vs : List V} {ws : List (List Str)} (n : Nat), WN lR H vs ws → WN lR H (vs.drop n) (ws.drop n)
  | _, _, 0, h => h
  | _, _, _ + 1, .nil => .nil
  | _, _, n + 1, .cons _ t => wn_drop n t
theorem paired_set {α β : Type} {F : α → β → Prop} {v : α} {w : β} : ∀ {vs : List α} {ws : List β}, Paired F vs ws → F v w → ∀ i : Nat, Paired F (vs.set i v) (ws.set i w)
  | _, _, .nil, _, _ => .nil
  | _, _, .cons _ t, k, 0 => .cons k t
  | _, _, .cons h t, k, i + 1 => .cons h (paired_set t k i)
theorem paired_mem {α β : Type} {F : α → β → Prop} {v : α} : ∀ {vs : List α} {ws : List β}, Paired F vs ws → v ∈ vs → ∃ w, w ∈ ws ∧ F v w
  | _, _, .cons h t, hv => by
    rcases List.mem_cons.mp hv with rfl | hv
    · exact ⟨_, List.mem_cons_self, h⟩
    · obtain ⟨w, hw, k⟩ := paired_mem t hv
      exact ⟨w, List.mem_cons_of_mem _ hw, k⟩
theorem sign_at (n : Int) : ∃ c : Nat, atI (Str.ofString "0123456789 -/:;").cps.toList (n % 15) = some c ∧ c < 128 ∧ c ≠ 10 := by
  have a := Int.emod_nonneg n (show (15 : Int) ≠ 0 by decide)
  have b := Int.emod_lt_of_pos n (show (0 : Int) < 15 by decide)
  have e : (Str.ofString "0123456789 -/:;").cps.toList = [48, 49, 50, 51, 52, 53, 54, 55, 56, 57, 32, 45, 47, 58, 59] := by decide
  rw [e]
  obtain ⟨j, hj, lj⟩ : ∃ j : Nat, n % 15 = (j : Int) ∧ j < 15 := ⟨(n % 15).toNat, by omega, by omega⟩
  rw [hj]
  unfold atI ixN
  rw [if_pos (by omega), if_pos (show (j : Int) < (([48, 49, 50, 51, 52, 53, 54, 55, 56, 57, 32, 45, 47, 58, 59] : List Nat).length : Int) by show (j : Int) < 15; omega)]
  show ∃ c, ([48, 49, 50, 51, 52, 53, 54, 55, 56, 57, 32, 45, 47, 58, 59] : List Nat)[j]? = some c ∧ _
  refine ⟨_, List.getElem?_eq_getElem (show j < ([48, 49, 50, 51, 52, 53, 54, 55, 56, 57, 32, 45, 47, 58, 59] : List Nat).length from lj), ?_⟩
  have all : ∀ c ∈ ([48, 49, 50, 51, 52, 53, 54, 55, 56, 57, 32, 45, 47, 58, 59] : List Nat), c < 128 ∧ c ≠ 10 := by decide
  exact all _ (List.getElem_mem _)
theorem txB_of {R M W : Nat} {rs : List Str} (k : ∀ r ∈ rs, RowB M W r) (l : rs.length ≤ R) (m : 1 ≤ M) (v : 1 ≤ W ∧ 1 ≤ R) : TxB R M W (Str.join yx rs) := by
  by_cases n : rs = []
  · refine ⟨[Str.empty], by rw [n]; rfl, by simp, v.2, fun r hr => ?_⟩
    rw [List.mem_singleton.mp hr]
    exact Zy (ws := []) (fun w hw => (by cases hw)) (Nat.zero_le _) (Nat.zero_le _) m v.1
  · exact ⟨rs, rfl, n, l, k⟩
def spSpo : Sp := fun vs H Q _ => ∃ (x : Str) (n : Int) (R M W : Nat), vs = [.str x, .int n] ∧ TxB R M W x ∧ R ≤ 29 ∧ M ≤ 5900 ∧ W ≤ 99 ∧ 1 ≤ R ∧ ∀ x', TxB (R + 1) (M + 62) (W + 1) x' → ∀ H', Same H H' → Q (.str x') H'
abbrev jQ (P w K mg base) (a : Adr) (cdv A outer s H E) := (cxOf CX0 P w K mg base ["_law_text", "_law_number", "_law_way", "_law_rows_here", "_law_at", "_law_k", "_law_word", "_law_here", "_law_sign", "_law_other"] "_law_spoilt" (qQ y9) a.f_law_spoilt cdv A outer s H E).nox
set_option maxHeartbeats 0 in
theorem ok_law_spoilt (T : Txt K mg a) : FnOk P w K mg base CX0 2 a.f_law_spoilt a.d_law_spoilt ["_law_text", "_law_number"] spSpo := by
  refine T.F_law_spoilt.ok zY (fun vs H Q E h => ?_) (fun cdv A outer s H vs Q E hr h => ?_)
  · obtain ⟨_, _, _, _, _, rfl, _⟩ := h
    rfl
  obtain ⟨x, n, R, M, W, rfl, tx, r19, m89, w99, r1, q⟩ := h
  have h0 : PS (jQ P w K mg base a cdv A outer s H E) (bS y9 0) _ := (zj (i := 2) zY.nd rfl (Or.inl rfl) (pe_op vv (pv 1) qw))
  have h1 : PS (jQ P w K mg base a cdv A outer s H E) (bS y9 1) _ := (Z4 (i := 3) zY.nd rfl (Or.inl rfl) (N := ["_law_line"]) (ix := [none]) ⟨rfl, rfl, rfl, rfl, trivial, rfl, trivial⟩ rfl (jv (pe_bm PySem.F.plainAttrs_str PySem.F.slot_str_split PySem.F.type_str_split QZ (pv 0) (pa_c qV qj) (hs := qq rfl _ _) (hplain := qy rfl))) (fun _ => (zq (i := 0) (show (["_law_line"] : List Str).Nodup by decide +kernel) rfl (Or.inl rfl))) (fun _ σ => v7 rfl σ) (fun _ => yV) (fun _ => (pe_bm PySem.F.plainAttrs_str PySem.F.slot_str_split PySem.F.type_str_split QZ (pv 0) (pa_c qV qj) (hs := qq rfl _ _) (hplain := qy rfl))))
  have h2 : PS (jQ P w K mg base a cdv A outer s H E) (bS y9 2) _ := (zj (i := 4) zY.nd rfl (Or.inl rfl) (pe_op vv (pe_op vz (pv 1) qw) (qX (zx) rfl T.m_len boot_len (pa_c (pv 3) qj) (he := qq rfl _ _) (hpl := qy rfl))))
  have h3 : PS (jQ P w K mg base a cdv A outer s H E) (bS y9 3) _ := (zj (i := 5) zY.nd rfl (Or.inl rfl) (pe_op vv (pe_op vz (pv 1) qw) (qX (zx) rfl T.m_len boot_len (pa_c (pe_ix zV (pv 3) (pv 4) (fun _ _ => rfl)) qj) (he := qq rfl _ _) (hpl := qy rfl))))
  have h4 : PS (jQ P w K mg base a cdv A outer s H E) (bS y9 4) _ := (zj (i := 6) zY.nd rfl (Or.inl rfl) (qW (ok_law_odd T) (hr.mono (by decide)) rfl T.m_law_odd T.F_law_odd.kp T.b_law_odd .nil pass0 (pa_c (pe_op vz (pv 1) qw) qj) (he := qq rfl _ _) (hpl := qy rfl)))
  have h5 : PS (jQ P w K mg base a cdv A outer s H E) (bS y9 5) _ := (zj (i := 7) zY.nd rfl (Or.inl rfl) (pe_ix zV (pv 3) (pv 4) (fun _ _ => rfl)))
  have h6 : PS (jQ P w K mg base a cdv A outer s H E) (bS y9 6) _ := (ps_if (qK op_eq (pv 2) qw (qY _))
        (qJ (zj (i := 7) zY.nd rfl (Or.inl rfl) (pe_op x8 (yj jZ (pv 7) jV (yw (pv 5))) (yj jZ (pv 7) (yw (pe_op j8 (pv 5) qw)) jV))))
        (qJ (ps_if (qK op_eq (pv 2) qw (qY _))
        (qJ (zj (i := 7) zY.nd rfl (Or.inl rfl) (pe_op x8 (pe_op x8 (yj jZ (pv 7) jV (yw (pe_op j8 (pv 5) qw))) (jj (pa_c (pv 6) qj))) (yj jZ (pv 7) (yw (pe_op j8 (pv 5) qw)) jV))))
        (qJ (ps_if (qK op_eq (pv 2) qw (qY _))
        (qJ (zj (i := 7) zY.nd rfl (Or.inl rfl) (pe_op x8 (pe_op x8 (yj jZ (pv 7) jV (yw (pv 5))) (jj (pa_c (pv 6) qj))) (yj jZ (pv 7) (yw (pe_op j8 (pv 5) qw)) jV))))
        (qJ (ps_if (qK op_eq (pv 2) qw (qY _))
        (qZ (zj (i := 8) zY.nd rfl (Or.inl rfl) (pe_ix ix_str qV (pe_op vv (pe_op vz (pv 1) qw) qw) (fun _ _ => rfl)))
      (qJ (zj (i := 7) zY.nd rfl (Or.inl rfl) (pe_op x8 (pe_op x8 (yj jZ (pv 7) jV (yw (pv 5))) (jj (pa_c (pe_op kZ (pe_ix zV (pv 7) (pv 5) (fun _ _ => rfl)) (pv 8)) qj))) (yj jZ (pv 7) (yw (pe_op j8 (pv 5) qw)) jV)))))
        zv)))))))
  have h7 : PS (jQ P w K mg base a cdv A outer s H E) (bS y9 7) _ := (xx (pv 7) (pg_sub (pv 3) (pv 4) set_list))
  have h8 : PS (jQ P w K mg base a cdv A outer s H E) (bS y9 8) _ := (ps_if (qK op_eq (pv 2) qw (qY _))
        (qJ (zj (i := 3) zY.nd rfl (Or.inl rfl) (pe_op x8 (yj jZ (pv 3) jV (yw (pv 4))) (yj jZ (pv 3) (yw (pe_op j8 (pv 4) qw)) jV))))
        (qJ (ps_if (qK op_eq (pv 2) qw (qY _))
        (qJ (zj (i := 3) zY.nd rfl (Or.inl rfl) (pe_op x8 (yj jZ (pv 3) jV (yw (pe_op j8 (pv 4) qw))) (yj jZ (pv 3) (yw (pv 4)) jV))))
        (qJ (ps_if (qK op_eq (pv 2) qw (qY _))
        (qZ (zj (i := 9) zY.nd rfl (Or.inl rfl) (pe_ix zV (pv 3) (pe_op vv (pv 5) (qX (zx) rfl T.m_len boot_len (pa_c (pv 3) qj) (he := qq rfl _ _) (hpl := qy rfl))) (fun _ _ => rfl)))
      (qJ (zj (i := 3) zY.nd rfl (Or.inl rfl) (pe_op x8 (pe_op x8 (yj jZ (pv 3) jV (yw (pv 4))) (jj (pa_c (pv 9) qj))) (yj jZ (pv 3) (yw (pv 4)) jV)))))
        zv)))))
  have h9 : PS (jQ P w K mg base a cdv A outer s H E) (bS y9 9) _ := (zw (pe_bm PySem.F.plainAttrs_str PySem.F.slot_str_join PySem.F.type_str_join mt_join qV (pa_c (kj (N := ["_law_words_here"]) (ix := [none]) ⟨rfl, rfl, rfl, rfl, trivial, rfl, trivial⟩ rfl (jv (pv 3)) (fun _ => (zq (i := 0) (show (["_law_words_here"] : List Str).Nodup by decide +kernel) rfl (Or.inl rfl))) (fun _ σ => v7 rfl σ) (fun _ => yV) (fun _ => (pe_bm PySem.F.plainAttrs_str PySem.F.slot_str_join PySem.F.type_str_join mt_join qV (pa_c (pv 0) qj) (hs := qq rfl _ _) (hplain := qy rfl)))) qj) (hs := qq rfl _ _) (hplain := qy rfl)))
  refine ⟨_, body10 (by rfl) h0 h1 h2 h3 h4 h5 h6 h7 h8 h9, ?_⟩
  clear h0 h1 h2 h3 h4 h5 h6 h7 h8 h9
  obtain ⟨ne, lrs, pr⟩ := tx.split
  have ok := tx.ok (by omega) (by omega) (by omega)
  refine ⟨_, rfl, _, _, rfl, rfl, (by show (0 : Int) < 10; decide), ?_⟩
  dsimp only
  generalize n % 10 = way
  refine ⟨_, rfl, rfl, _, _, rfl, rfl, rfl, leB (by have := ok.2.1; omega), fun l0 k0 => ?_⟩
  rw [line_is]
  obtain ⟨rs, ers⟩ : ∃ rs, Txt.split x yx = rs := ⟨_, rfl⟩
  rw [ers] at ne lrs pr ⊢
  have f0 := qk k0 (.lst (rs.map V.str))
  have b0 := qz (H := H) (a := l0) (o := .lst (rs.map V.str))
  generalize upd H l0 (.lst (rs.map V.str)) = H1 at *
  have lrm : (rs.map V.str).length = rs.length := List.length_map ..
  refine ⟨l0, rfl, ⟨_, SqL.of b0⟩, yk (n := rs.length) (fun i ys H' => Same H1 H' ∧ WL H' ys ((rs.take i).map fun r => Txt.split r blank)) ⟨Same.refl _, .nil⟩ (kz (by omega)) ?_ ?_ ?_⟩
  case refine_2 =>
    rintro i ys H' hi ⟨g, _⟩
    exact ⟨_, _, SqL.of (g _ _ b0), List.getElem?_eq_getElem (by omega)⟩
  case refine_3 =>
    rintro i m' ys H' cc y Hk hi ⟨g, r⟩ ⟨rfl, y1⟩ nx _
    have ex := y1 _ (SqL.of (g _ _ b0))
    obtain ⟨x0, e0⟩ : ∃ x0, rs[i]? = some x0 := ⟨_, List.getElem?_eq_getElem hi⟩
    rw [List.getElem?_map, e0] at ex
    have ex : V.str x0 = y := Option.some.inj ex
    subst ex
    have rx := (pr x0 (List.mem_of_getElem? e0)).len
    refine Or.inl ⟨rfl, _, rfl, rfl, _, _, rfl, rfl, rfl, leB (by omega), fun lw kw => nx _ _ ?_⟩
    rw [Yz]
    have f := qk kw (.lst ((Txt.split x0 blank).map V.str))
    refine ⟨g.trans f, ?_⟩
    rw [zZ e0, List.map_append]
    exact Paired.snoc (WL.mono r f) ⟨lw, rfl, qz⟩
  rintro wr H2 ⟨g2, rW⟩
  rw [List.take_of_length_le (Nat.le_refl _)] at rW
  refine ⟨⟨_, SqL.of (g2 _ _ b0), by omega⟩, fun lR kR => ?_⟩
  have nlR : H lR = none := wQ (f0.trans g2) kR
  have rW : WN lR H2 wr (rs.map fun r => Txt.split r blank) := Paired.mapP rW fun _ _ ⟨l, e, k⟩ => ⟨l, e, zk k kR, k⟩
  have f2 := qk kR (.lst wr)
  have bR := qz (H := H2) (a := lR) (o := .lst wr)
  have rW := WN.mono rW f2
  have gA := f0.trans (g2.trans f2)
  generalize upd H2 lR (.lst wr) = H3 at *
  have pm0 : ∀ z ∈ rs.map (fun r => Txt.split r blank), (∀ w ∈ z, Wok w) ∧ wt z ≤ M ∧ z.length ≤ W ∧ z ≠ [] := fun z hz => by
    obtain ⟨r, hr, rfl⟩ := List.mem_map.mp hz
    exact (pr r hr).split
  have lwm := Paired.length rW
  have lwr : (rs.map fun r => Txt.split r blank).length ≤ R := by rw [List.length_map]; exact lrs
  have l1 : 1 ≤ (rs.map fun r => Txt.split r blank).length := by
    rw [List.length_map]
    cases rs with
    | nil => exact absurd rfl ne
    | cons _ _ => exact Nat.le_add_left _ _
  generalize rs.map (fun r => Txt.split r blank) = Wm at *
  clear b0 f0 g2 f2 k0 kR ers pr
  refine ⟨_, rfl, _, _, rfl, rfl, cdivB (n := 10) (by decide) (by unfold Sm; decide), _, rfl, _, _, rfl, .inl (SqL.of bR), _, _, rfl, rfl, (by show (0 : Int) < (wr.length : Int); omega), ?_⟩
  obtain ⟨i, hi, il⟩ : ∃ i : Nat, n.fdiv 10 % (wr.length : Int) = (i : Int) ∧ i < wr.length := by
    have a := Int.emod_nonneg (n.fdiv 10) (show (wr.length : Int) ≠ 0 by omega)
    have b := Int.emod_lt_of_pos (n.fdiv 10) (show (0 : Int) < (wr.length : Int) by omega)
    exact ⟨(n.fdiv 10 % (wr.length : Int)).toNat, by omega, by omega⟩
  dsimp only
  rw [hi]
  clear hi
  have ew := List.getElem?_eq_getElem il
  obtain ⟨ws, ews, lh0, elh0, nh0, eh⟩ := kQ rW ew
  have hws := pm0 ws (List.mem_of_getElem? ews)
  rw [elh0] at ew
  refine ⟨_, rfl, _, _, rfl, rfl, cdivB (n := 10) (by decide) (by unfold Sm; decide), _, rfl, _, rfl, _, _, _, _, rfl, rfl, SqL.of bR, atN ew, _, _, rfl, .inl (SqL.of eh), _, _, rfl, rfl, (by rw [List.length_map]; have := List.length_pos_iff.mpr hws.2.2.2; omega), ?_⟩
  obtain ⟨j, hj, jl⟩ : ∃ j : Nat, n.fdiv 200 % ((ws.map V.str).length : Int) = (j : Int) ∧ j < ws.length := by
    rw [List.length_map]
    have p := List.length_pos_iff.mpr hws.2.2.2
    have a := Int.emod_nonneg (n.fdiv 200) (show (ws.length : Int) ≠ 0 by omega)
    have b := Int.emod_lt_of_pos (n.fdiv 200) (show (0 : Int) < (ws.length : Int) by omega)
    exact ⟨(n.fdiv 200 % (ws.length : Int)).toNat, by omega, by omega⟩
  dsimp only
  rw [hj]
  clear hj
  refine ⟨_, rfl, _, _, rfl, rfl, cdivB (n := 20) (by decide) (by unfold Sm; decide), _, rfl, fun wd hwd lwd H5 g5 => ?_⟩
  have bR := g5 _ _ bR
  have eh := g5 _ _ eh
  have rW := WN.mono rW g5
  have gA := gA.trans g5
  refine ⟨_, rfl, _, rfl, _, _, _, _, rfl, rfl, SqL.of bR, atN ew, ?_⟩
  have pm : ∀ z ∈ Wm, RowB (M + 62) (W + 1) (Str.join blank z) ∧ wt z ≤ 10000 := fun z hz => by
    obtain ⟨k1, k2, k3, _⟩ := pm0 z hz
    exact ⟨Zy k1 (by omega) (by omega) (by omega) (by omega), by omega⟩
  have wsO : ∀ w ∈ ws, Wok w := hws.1
  have wsM := hws.2.1
  have wsW := hws.2.2.1
  have wT : ∀ n, ∀ w ∈ ws.take n, Wok w := fun n w hw => wsO w (List.mem_of_mem_take hw)
  have wD : ∀ n, ∀ w ∈ ws.drop n, Wok w := fun n w hw => wsO w (List.mem_of_mem_drop hw)
  have w0 := wt_take ws j
  have w1 := wt_take ws (j + 1)
  have w2 := wt_drop_le ws (show j ≤ j + 1 by omega)
  delta gName
  dsimp only
  change tSeq _ _ _ [some (.str x), some (.int n), some (.int way), some (.ref lR), some (.int (i : Int)), some (.int (j : Int)), some (.str wd), some (.ref lh0), none, none] H5
  refine seq_cut fun N hN => ?_
  have tail : ∀ (lh : Addr) (GT : Hp) (hs : List Str) (sg : Option V), GT lR = some (.lst wr) → WN lR GT wr Wm → Same H GT → lh ≠ lR → GT lh = some (.lst (hs.map V.str)) → RowB (M + 62) (W + 1) (Str.join blank hs) → wt hs ≤ 10000 → N [some (.str x), some (.int n), some (.int way), some (.ref lR), some (.int (i : Int)), some (.int (j : Int)), some (.str wd), some (.ref lh), sg, none] GT := by
    subst hN
    clear bR rW gA eh
    intro lh GT hs sg bR rW gA nH eH rb wh
    have li : ixN wr.length (i : Int) = some i := by unfold ixN; rw [if_pos (by omega), if_pos (by omega)]; rfl
    refine ⟨_, rfl, _, rfl, _, rfl, lR, wr, _, i, rfl, rfl, bR, li, ?_⟩
    have rW := WN.put (o := .lst (wr.set i (.ref lh))) rW
    have eH : upd GT lR (.lst (wr.set i (.ref lh))) lh = some (.lst (hs.map V.str)) := by rw [zK nH]; exact eH
    have gA := gA.laid nlR (.lst (wr.set i (.ref lh)))
    have bR := qz (H := GT) (a := lR) (o := .lst (wr.set i (.ref lh)))
    generalize upd GT lR (.lst (wr.set i (.ref lh))) = GS at *
    have rW : WN lR GS (wr.set i (.ref lh)) (Wm.set i hs) := paired_set rW ⟨lh, rfl, nH, eH⟩ i
    have pW : ∀ z ∈ Wm.set i hs, RowB (M + 62) (W + 1) (Str.join blank z) ∧ wt z ≤ 10000 := fun z hz => by
      rcases List.mem_or_eq_of_mem_set hz with y | y
      · exact pm z y
      · rw [y]; exact ⟨rb, wh⟩
    have lW : (Wm.set i hs).length = Wm.length := List.length_set ..
    have lw2 : (wr.set i (.ref lh)).length = wr.length := List.length_set ..
    have lWr : wr.length = Wm.length := lwm
    generalize wr.set i (.ref lh) = wx at *
    generalize Wm.set i hs = Wx at *
    clear rb wh eH nH li
    dsimp only
    change tSeq _ _ _ [some (.str x), some (.int n), some (.int way), some (.ref lR), some (.int (i : Int)), some (.int (j : Int)), some (.str wd), some (.ref lh), sg, none] GS
    refine seq_cut fun N2 hN2 => ?_
    have fin : ∀ (lX : Addr) (GX : Hp) (wx : List V) (Wx : List (List Str)) (ot : Option V), GX lX = some (.lst wx) → WN lR GX wx Wx → Same H GX → (∀ z ∈ Wx, RowB (M + 62) (W + 1) (Str.join blank z) ∧ wt z ≤ 10000) → Wx.length ≤ R + 1 → N2 [some (.str x), some (.int n), some (.int way), some (.ref lX), some (.int (i : Int)), some (.int (j : Int)), some (.str wd), some (.ref lh), sg, ot] GX := by
      subst hN2
      clear bR rW gA lW lw2 pW
      intro lX GX wx Wx ot bX rX gX pX lX2
      have lxx := Paired.length rX
      refine ⟨rfl, _, rfl, lX, rfl, ⟨_, SqL.of bX⟩, ?_⟩
      dsimp only
      refine yk (n := Wx.length) (g := fun _ v σ H Q => Q (σ.set 0 (some v)) H) (tt := fun _ => tNoIf) (fun i ys H' => H' = GX ∧ ys = ((Wx.take i).map (Str.join blank)).map V.str) ⟨rfl, rfl⟩ (kz (by omega)) ?_ ?_ ?_
      case refine_2 =>
        rintro i ys H' hi ⟨rfl, _⟩
        exact ⟨_, _, SqL.of bX, List.getElem?_eq_getElem (by omega)⟩
      case refine_3 =>
        rintro i m' ys H' cc y Hk hi ⟨rfl, rfl⟩ ⟨rfl, y1⟩ nx _
        obtain ⟨wq, ewq, l9, rfl, _, k9⟩ := kQ rX (y1 _ (SqL.of bX))
        have pw := pX wq (List.mem_of_getElem? ewq)
        have pw2 := pw.2
        unfold wt at pw2
        refine Or.inl ⟨rfl, rfl, _, rfl, _, l9, wq, rfl, rfl, SqL.of k9, (by decide), by omega, nx _ _ ⟨rfl, ?_⟩⟩
        rw [zZ ewq, List.map_append, List.map_append, Yz]
        rfl
      rintro ys HX ⟨rfl, rfl⟩
      rw [List.take_of_length_le (Nat.le_refl _)]
      refine ⟨⟨_, SqL.of bX, by omega⟩, fun lJ kJ => ?_⟩
      have fJ := qk kJ (.lst ((Wx.map (Str.join blank)).map V.str))
      have pJ : ∀ r ∈ Wx.map (Str.join blank), RowB (M + 62) (W + 1) r := fun r hr => by
        obtain ⟨z, hz, rfl⟩ := List.mem_map.mp hr
        exact (pX z hz).1
      have lJ2 : (Wx.map (Str.join blank)).length = Wx.length := List.length_map ..
      have sJ := sum_le (B := 9000) (ys := Wx.map (Str.join blank)) fun r hr => by have := (pJ r hr).len; omega
      have mJ : (Wx.map (Str.join blank)).length * 9000 ≤ 30 * 9000 := Nat.mul_le_mul_right _ (by omega)
      refine ⟨_, lJ, _, rfl, rfl, SqL.of qz, (by decide), by omega, ?_⟩
      exact q _ (txB_of pJ (by omega) (by omega) (by omega)) _ (gX.trans fJ)
    clear hN2
    refine ⟨_, rfl, rfl, _, rfl, iteD (fun _ => ?_) (fun _ => ⟨_, rfl, rfl, _, rfl, iteD (fun _ => ?_) (fun _ => ⟨_, rfl, rfl, _, rfl, iteD (fun _ => ?_) (fun _ => ?_)⟩)⟩)⟩
    ·
      refine ⟨_, rfl, _, rfl, _, rfl, _, _, rfl, SqL.of bR, fun d1 kk => ?_⟩
      rw [cutHiN (by omega)]
      have f := qk kk (.lst (wx.take i))
      have bd1 := qz (H := GS) (a := d1) (o := .lst (wx.take i))
      have bR := f _ _ bR
      have rW := WN.mono rW f
      have gA := gA.trans f
      generalize upd GS d1 (.lst (wx.take i)) = GS1 at *
      refine ⟨_, rfl, _, rfl, _, _, rfl, rfl, _, rfl, _, _, rfl, SqL.of bR, fun d2 kk2 => ?_⟩
      dsimp only at kk2 ⊢
      rw [show (i : Int) + 1 = ((i + 1 : Nat) : Int) by omega, cutLo (by omega)]
      have f := qk kk2 (.lst (wx.drop (i + 1)))
      have bd2 := qz (H := GS1) (a := d2) (o := .lst (wx.drop (i + 1)))
      have bd1 := f _ _ bd1
      have rW := WN.mono rW f
      have gA := gA.trans f
      generalize upd GS1 d2 (.lst (wx.drop (i + 1))) = GS2 at *
      refine ⟨_, _, _, _, rfl, rfl, bd1, bd2, leB (by rw [List.length_take, List.length_drop]; omega), fun lX kk3 => ?_⟩
      have f := qk kk3 (.lst (wx.take i ++ wx.drop (i + 1)))
      have bX := qz (H := GS2) (a := lX) (o := .lst (wx.take i ++ wx.drop (i + 1)))
      have rX := wn_app (wn_take i (WN.mono rW f)) (wn_drop (i + 1) (WN.mono rW f))
      have gX := gA.trans f
      generalize upd GS2 lX (.lst (wx.take i ++ wx.drop (i + 1))) = GX at *
      have pX : ∀ z ∈ Wx.take i ++ Wx.drop (i + 1), RowB (M + 62) (W + 1) (Str.join blank z) ∧ wt z ≤ 10000 := fun z hz => pW z ((List.mem_append.mp hz).elim List.mem_of_mem_take List.mem_of_mem_drop)
      have lX2 : (Wx.take i ++ Wx.drop (i + 1)).length ≤ R + 1 := by rw [List.length_append, List.length_take, List.length_drop]; omega
      exact fin lX GX _ _ _ bX rX gX pX lX2
    ·
      refine ⟨_, rfl, _, rfl, _, _, rfl, rfl, _, rfl, _, _, rfl, SqL.of bR, fun d1 kk => ?_⟩
      dsimp only at kk ⊢
      rw [show (i : Int) + 1 = ((i + 1 : Nat) : Int) by omega, cutHiN (by omega)]
      have f := qk kk (.lst (wx.take (i + 1)))
      have bd1 := qz (H := GS) (a := d1) (o := .lst (wx.take (i + 1)))
      have bR := f _ _ bR
      have rW := WN.mono rW f
      have gA := gA.trans f
      generalize upd GS d1 (.lst (wx.take (i + 1))) = GS1 at *
      refine ⟨_, rfl, _, rfl, _, rfl, _, _, rfl, SqL.of bR, fun d2 kk2 => ?_⟩
      rw [cutLo (by omega)]
      have f := qk kk2 (.lst (wx.drop i))
      have bd2 := qz (H := GS1) (a := d2) (o := .lst (wx.drop i))
      have bd1 := f _ _ bd1
      have rW := WN.mono rW f
      have gA := gA.trans f
      generalize upd GS1 d2 (.lst (wx.drop i)) = GS2 at *
      refine ⟨_, _, _, _, rfl, rfl, bd1, bd2, leB (by rw [List.length_take, List.length_drop]; omega), fun lX kk3 => ?_⟩
      have f := qk kk3 (.lst (wx.take (i + 1) ++ wx.drop i))
      have bX := qz (H := GS2) (a := lX) (o := .lst (wx.take (i + 1) ++ wx.drop i))
      have rX := wn_app (wn_take (i + 1) (WN.mono rW f)) (wn_drop i (WN.mono rW f))
      have gX := gA.trans f
      generalize upd GS2 lX (.lst (wx.take (i + 1) ++ wx.drop i)) = GX at *
      have pX : ∀ z ∈ Wx.take (i + 1) ++ Wx.drop i, RowB (M + 62) (W + 1) (Str.join blank z) ∧ wt z ≤ 10000 := fun z hz => pW z ((List.mem_append.mp hz).elim List.mem_of_mem_take List.mem_of_mem_drop)
      have lX2 : (Wx.take (i + 1) ++ Wx.drop i).length ≤ R + 1 := by rw [List.length_append, List.length_take, List.length_drop]; omega
      exact fin lX GX _ _ _ bX rX gX pX lX2
    ·
      obtain ⟨v, hat2, hv2⟩ := at_mod (L := wx) (j : Int) (by omega)
      refine ⟨_, rfl, _, rfl, _, rfl, _, _, rfl, .inl (SqL.of bR), _, _, rfl, rfl, (by omega), _, _, _, _, rfl, rfl, SqL.of bR, hat2, ?_⟩
      refine ⟨_, rfl, _, rfl, _, rfl, _, _, rfl, SqL.of bR, fun d1 kk => ?_⟩
      rw [cutHiN (by omega)]
      have f := qk kk (.lst (wx.take i))
      have bd1 := qz (H := GS) (a := d1) (o := .lst (wx.take i))
      have bR := f _ _ bR
      have rW := WN.mono rW f
      have gA := gA.trans f
      generalize upd GS d1 (.lst (wx.take i)) = GS1 at *
      refine ⟨_, rfl, (show 1 ≤ sizeLine by decide), fun d3 kk4 => ?_⟩
      have f := qk kk4 (.lst [v])
      have bd3 := qz (H := GS1) (a := d3) (o := .lst [v])
      have bR := f _ _ bR
      have bd1 := f _ _ bd1
      have rW := WN.mono rW f
      have gA := gA.trans f
      generalize upd GS1 d3 (.lst [v]) = GS3 at *
      refine ⟨_, _, _, _, rfl, rfl, bd1, bd3, leB (by rw [List.length_take, List.length_singleton]; omega), fun d4 kk5 => ?_⟩
      have f := qk kk5 (.lst (wx.take i ++ [v]))
      have bd4 := qz (H := GS3) (a := d4) (o := .lst (wx.take i ++ [v]))
      have bR := f _ _ bR
      have rW := WN.mono rW f
      have gA := gA.trans f
      generalize upd GS3 d4 (.lst (wx.take i ++ [v])) = GS4 at *
      refine ⟨_, rfl, _, rfl, _, rfl, _, _, rfl, SqL.of bR, fun d2 kk2 => ?_⟩
      rw [cutLo (by omega)]
      have f := qk kk2 (.lst (wx.drop i))
      have bd2 := qz (H := GS4) (a := d2) (o := .lst (wx.drop i))
      have bd4 := f _ _ bd4
      have rW := WN.mono rW f
      have gA := gA.trans f
      generalize upd GS4 d2 (.lst (wx.drop i)) = GS2 at *
      refine ⟨_, _, _, _, rfl, rfl, bd4, bd2, leB (by rw [List.length_append, List.length_take, List.length_drop, List.length_singleton]; omega), fun lX kk3 => ?_⟩
      have f := qk kk3 (.lst (wx.take i ++ [v] ++ wx.drop i))
      have bX := qz (H := GS2) (a := lX) (o := .lst (wx.take i ++ [v] ++ wx.drop i))
      have rV := WN.mono rW f
      obtain ⟨wv, mv, hvv⟩ := paired_mem rV hv2
      have rX : WN lR (upd GS2 lX (.lst (wx.take i ++ [v] ++ wx.drop i))) (wx.take i ++ [v] ++ wx.drop i) (Wx.take i ++ [wv] ++ Wx.drop i) := wn_app (wn_app (wn_take i rV) (.cons hvv .nil)) (wn_drop i rV)
      have gX := gA.trans f
      generalize upd GS2 lX (.lst (wx.take i ++ [v] ++ wx.drop i)) = GX at *
      have pX : ∀ z ∈ Wx.take i ++ [wv] ++ Wx.drop i, RowB (M + 62) (W + 1) (Str.join blank z) ∧ wt z ≤ 10000 := fun z hz => pW z ((List.mem_append.mp hz).elim (fun y => (List.mem_append.mp y).elim List.mem_of_mem_take fun x => by rw [List.mem_singleton.mp x]; exact mv) List.mem_of_mem_drop)
      have lX2 : (Wx.take i ++ [wv] ++ Wx.drop i).length ≤ R + 1 := by rw [List.length_append, List.length_append, List.length_singleton, List.length_take, List.length_drop]; omega
      exact fin lX GX _ _ _ bX rX gX pX lX2
    ·
      exact fin lR GS wx Wx _ bR rW gA pW (by omega)
  clear hN
  refine ⟨_, rfl, rfl, _, rfl, iteD (fun _ => ?way0) (fun _ => ⟨_, rfl, rfl, _, rfl, iteD (fun _ => ?way1) (fun _ => ⟨_, rfl, rfl, _, rfl, iteD (fun _ => ?way2) (fun _ => ⟨_, rfl, rfl, _, rfl, iteD (fun _ => ?way3) (fun _ => ?wayE)⟩)⟩)⟩)⟩
  case way0 =>
    refine ⟨_, rfl, _, rfl, _, rfl, _, _, rfl, SqL.of eh, fun c1 kk => ?_⟩
    rw [cutHiN (by rw [List.length_map]; omega), ← List.map_take]
    have f := qk kk (.lst ((ws.take j).map V.str))
    have bc1 := qz (H := H5) (a := c1) (o := .lst ((ws.take j).map V.str))
    have nc1 : c1 ≠ lR := Ne.symm (zk bR kk)
    have bR := f _ _ bR
    have eh := f _ _ eh
    have rW := WN.mono rW f
    have gA := gA.trans f
    generalize upd H5 c1 (.lst ((ws.take j).map V.str)) = G1 at *
    clear f kk
    refine ⟨_, rfl, _, rfl, _, _, rfl, rfl, _, rfl, _, _, rfl, SqL.of eh, fun c2 kk => ?_⟩
    dsimp only at kk ⊢
    rw [show (j : Int) + 1 = ((j + 1 : Nat) : Int) by omega, cutLo (by rw [List.length_map]; omega), ← List.map_drop]
    have f := qk kk (.lst ((ws.drop (j + 1)).map V.str))
    have bc2 := qz (H := G1) (a := c2) (o := .lst ((ws.drop (j + 1)).map V.str))
    have nc2 : c2 ≠ lR := Ne.symm (zk bR kk)
    have bR := f _ _ bR
    have eh := f _ _ eh
    have bc1 := f _ _ bc1
    have rW := WN.mono rW f
    have gA := gA.trans f
    generalize upd G1 c2 (.lst ((ws.drop (j + 1)).map V.str)) = G2 at *
    clear f kk
    refine ⟨_, _, _, _, rfl, rfl, bc1, bc2, leB (by simp only [List.length_map, List.length_append, List.length_take, List.length_drop, List.length_cons, List.length_nil]; omega), fun c3 kk => ?_⟩
    rw [← List.map_append]
    have f := qk kk (.lst ((ws.take j ++ ws.drop (j + 1)).map V.str))
    have bc3 := qz (H := G2) (a := c3) (o := .lst ((ws.take j ++ ws.drop (j + 1)).map V.str))
    have nc3 : c3 ≠ lR := Ne.symm (zk bR kk)
    have bR := f _ _ bR
    have eh := f _ _ eh
    have rW := WN.mono rW f
    have gA := gA.trans f
    generalize upd G2 c3 (.lst ((ws.take j ++ ws.drop (j + 1)).map V.str)) = G3 at *
    clear f kk
    have rb : RowB (M + 62) (W + 1) (Str.join blank (ws.take j ++ ws.drop (j + 1))) := Zy (fun w hw => (List.mem_append.mp hw).elim (wT _ w) (wD _ w)) (by rw [wk]; omega) (by rw [List.length_append, List.length_take, List.length_drop]; omega) (by omega) (by omega)
    have wh : wt (ws.take j ++ ws.drop (j + 1)) ≤ 10000 := by rw [wk]; omega
    exact tail c3 _ (ws.take j ++ ws.drop (j + 1)) _ bR rW gA nc3 bc3 rb wh
  case way1 =>
    refine ⟨_, rfl, _, rfl, _, _, rfl, rfl, _, rfl, _, _, rfl, SqL.of eh, fun c1 kk => ?_⟩
    dsimp only at kk ⊢
    rw [show (j : Int) + 1 = ((j + 1 : Nat) : Int) by omega]
    rw [cutHiN (by rw [List.length_map]; omega), ← List.map_take]
    have f := qk kk (.lst ((ws.take (j + 1)).map V.str))
    have bc1 := qz (H := H5) (a := c1) (o := .lst ((ws.take (j + 1)).map V.str))
    have nc1 : c1 ≠ lR := Ne.symm (zk bR kk)
    have bR := f _ _ bR
    have eh := f _ _ eh
    have rW := WN.mono rW f
    have gA := gA.trans f
    generalize upd H5 c1 (.lst ((ws.take (j + 1)).map V.str)) = G4 at *
    clear f kk
    refine ⟨_, rfl, (show 1 ≤ sizeLine by decide), fun c2 kk => ?_⟩
    have f := qk kk (.lst [.str wd])
    have bc2 := qz (H := G4) (a := c2) (o := .lst [.str wd])
    have nc2 : c2 ≠ lR := Ne.symm (zk bR kk)
    have bR := f _ _ bR
    have eh := f _ _ eh
    have bc1 := f _ _ bc1
    have rW := WN.mono rW f
    have gA := gA.trans f
    generalize upd G4 c2 (.lst [.str wd]) = G5 at *
    clear f kk
    have bc2 : G5 c2 = some (.lst ([wd].map V.str)) := bc2
    refine ⟨_, _, _, _, rfl, rfl, bc1, bc2, leB (by simp only [List.length_map, List.length_append, List.length_take, List.length_drop, List.length_cons, List.length_nil]; omega), fun c3 kk => ?_⟩
    rw [← List.map_append]
    have f := qk kk (.lst ((ws.take (j + 1) ++ [wd]).map V.str))
    have bc3 := qz (H := G5) (a := c3) (o := .lst ((ws.take (j + 1) ++ [wd]).map V.str))
    have nc3 : c3 ≠ lR := Ne.symm (zk bR kk)
    have bR := f _ _ bR
    have eh := f _ _ eh
    have rW := WN.mono rW f
    have gA := gA.trans f
    generalize upd G5 c3 (.lst ((ws.take (j + 1) ++ [wd]).map V.str)) = G6 at *
    clear f kk
    refine ⟨_, rfl, _, rfl, _, _, rfl, rfl, _, rfl, _, _, rfl, SqL.of eh, fun c4 kk => ?_⟩
    dsimp only at kk ⊢
    rw [show (j : Int) + 1 = ((j + 1 : Nat) : Int) by omega, cutLo (by rw [List.length_map]; omega), ← List.map_drop]
    have f := qk kk (.lst ((ws.drop (j + 1)).map V.str))
    have bc4 := qz (H := G6) (a := c4) (o := .lst ((ws.drop (j + 1)).map V.str))
    have nc4 : c4 ≠ lR := Ne.symm (zk bR kk)
    have bR := f _ _ bR
    have eh := f _ _ eh
    have bc3 := f _ _ bc3
    have rW := WN.mono rW f
    have gA := gA.trans f
    generalize upd G6 c4 (.lst ((ws.drop (j + 1)).map V.str)) = G7 at *
    clear f kk
    refine ⟨_, _, _, _, rfl, rfl, bc3, bc4, leB (by simp only [List.length_map, List.length_append, List.length_take, List.length_drop, List.length_cons, List.length_nil]; omega), fun c5 kk => ?_⟩
    rw [← List.map_append]
    have f := qk kk (.lst ((ws.take (j + 1) ++ [wd] ++ ws.drop (j + 1)).map V.str))
    have bc5 := qz (H := G7) (a := c5) (o := .lst ((ws.take (j + 1) ++ [wd] ++ ws.drop (j + 1)).map V.str))
    have nc5 : c5 ≠ lR := Ne.symm (zk bR kk)
    have bR := f _ _ bR
    have eh := f _ _ eh
    have rW := WN.mono rW f
    have gA := gA.trans f
    generalize upd G7 c5 (.lst ((ws.take (j + 1) ++ [wd] ++ ws.drop (j + 1)).map V.str)) = G8 at *
    clear f kk
    have rb : RowB (M + 62) (W + 1) (Str.join blank (ws.take (j + 1) ++ [wd] ++ ws.drop (j + 1))) := Zy (fun w hw => (List.mem_append.mp hw).elim (fun z => (List.mem_append.mp z).elim (wT _ w) fun y => by rw [List.mem_singleton.mp y]; exact hwd) (wD _ w)) (by rw [wk, wk, QJ]; omega) (by rw [List.length_append, List.length_append, List.length_singleton, List.length_take, List.length_drop]; omega) (by omega) (by omega)
    have wh : wt (ws.take (j + 1) ++ [wd] ++ ws.drop (j + 1)) ≤ 10000 := by rw [wk, wk, QJ]; omega
    exact tail c5 _ (ws.take (j + 1) ++ [wd] ++ ws.drop (j + 1)) _ bR rW gA nc5 bc5 rb wh
  case way2 =>
    refine ⟨_, rfl, _, rfl, _, rfl, _, _, rfl, SqL.of eh, fun c1 kk => ?_⟩
    rw [cutHiN (by rw [List.length_map]; omega), ← List.map_take]
    have f := qk kk (.lst ((ws.take j).map V.str))
    have bc1 := qz (H := H5) (a := c1) (o := .lst ((ws.take j).map V.str))
    have nc1 : c1 ≠ lR := Ne.symm (zk bR kk)
    have bR := f _ _ bR
    have eh := f _ _ eh
    have rW := WN.mono rW f
    have gA := gA.trans f
    generalize upd H5 c1 (.lst ((ws.take j).map V.str)) = G9 at *
    clear f kk
    refine ⟨_, rfl, (show 1 ≤ sizeLine by decide), fun c2 kk => ?_⟩
    have f := qk kk (.lst [.str wd])
    have bc2 := qz (H := G9) (a := c2) (o := .lst [.str wd])
    have nc2 : c2 ≠ lR := Ne.symm (zk bR kk)
    have bR := f _ _ bR
    have eh := f _ _ eh
    have bc1 := f _ _ bc1
    have rW := WN.mono rW f
    have gA := gA.trans f
    generalize upd G9 c2 (.lst [.str wd]) = G10 at *
    clear f kk
    have bc2 : G10 c2 = some (.lst ([wd].map V.str)) := bc2
    refine ⟨_, _, _, _, rfl, rfl, bc1, bc2, leB (by simp only [List.length_map, List.length_append, List.length_take, List.length_drop, List.length_cons, List.length_nil]; omega), fun c3 kk => ?_⟩
    rw [← List.map_append]
    have f := qk kk (.lst ((ws.take j ++ [wd]).map V.str))
    have bc3 := qz (H := G10) (a := c3) (o := .lst ((ws.take j ++ [wd]).map V.str))
    have nc3 : c3 ≠ lR := Ne.symm (zk bR kk)
    have bR := f _ _ bR
    have eh := f _ _ eh
    have rW := WN.mono rW f
    have gA := gA.trans f
    generalize upd G10 c3 (.lst ((ws.take j ++ [wd]).map V.str)) = G11 at *
    clear f kk
    refine ⟨_, rfl, _, rfl, _, _, rfl, rfl, _, rfl, _, _, rfl, SqL.of eh, fun c4 kk => ?_⟩
    dsimp only at kk ⊢
    rw [show (j : Int) + 1 = ((j + 1 : Nat) : Int) by omega, cutLo (by rw [List.length_map]; omega), ← List.map_drop]
    have f := qk kk (.lst ((ws.drop (j + 1)).map V.str))
    have bc4 := qz (H := G11) (a := c4) (o := .lst ((ws.drop (j + 1)).map V.str))
    have nc4 : c4 ≠ lR := Ne.symm (zk bR kk)
    have bR := f _ _ bR
    have eh := f _ _ eh
    have bc3 := f _ _ bc3
    have rW := WN.mono rW f
    have gA := gA.trans f
    generalize upd G11 c4 (.lst ((ws.drop (j + 1)).map V.str)) = G12 at *
    clear f kk
    refine ⟨_, _, _, _, rfl, rfl, bc3, bc4, leB (by simp only [List.length_map, List.length_append, List.length_take, List.length_drop, List.length_cons, List.length_nil]; omega), fun c5 kk => ?_⟩
    rw [← List.map_append]
    have f := qk kk (.lst ((ws.take j ++ [wd] ++ ws.drop (j + 1)).map V.str))
    have bc5 := qz (H := G12) (a := c5) (o := .lst ((ws.take j ++ [wd] ++ ws.drop (j + 1)).map V.str))
    have nc5 : c5 ≠ lR := Ne.symm (zk bR kk)
    have bR := f _ _ bR
    have eh := f _ _ eh
    have rW := WN.mono rW f
    have gA := gA.trans f
    generalize upd G12 c5 (.lst ((ws.take j ++ [wd] ++ ws.drop (j + 1)).map V.str)) = G13 at *
    clear f kk
    have rb : RowB (M + 62) (W + 1) (Str.join blank (ws.take j ++ [wd] ++ ws.drop (j + 1))) := Zy (fun w hw => (List.mem_append.mp hw).elim (fun z => (List.mem_append.mp z).elim (wT _ w) fun y => by rw [List.mem_singleton.mp y]; exact hwd) (wD _ w)) (by rw [wk, wk, QJ]; omega) (by rw [List.length_append, List.length_append, List.length_singleton, List.length_take, List.length_drop]; omega) (by omega) (by omega)
    have wh : wt (ws.take j ++ [wd] ++ ws.drop (j + 1)) ≤ 10000 := by rw [wk, wk, QJ]; omega
    exact tail c5 _ (ws.take j ++ [wd] ++ ws.drop (j + 1)) _ bR rW gA nc5 bc5 rb wh
  case way3 =>
    obtain ⟨c, hc, c128, c10⟩ := sign_at (n.fdiv 3000)
    refine ⟨_, rfl, _, _, rfl, rfl, cdivB (n := 20) (by decide) (by unfold Sm; decide), _, _, rfl, rfl, (by show (0 : Int) < 15; decide), _, _, c, rfl, rfl, (by decide), hc, ?_⟩
    refine ⟨_, rfl, _, rfl, _, rfl, _, _, rfl, SqL.of eh, fun c1 kk => ?_⟩
    rw [cutHiN (by rw [List.length_map]; omega), ← List.map_take]
    have f := qk kk (.lst ((ws.take j).map V.str))
    have bc1 := qz (H := H5) (a := c1) (o := .lst ((ws.take j).map V.str))
    have nc1 : c1 ≠ lR := Ne.symm (zk bR kk)
    have bR := f _ _ bR
    have eh := f _ _ eh
    have rW := WN.mono rW f
    have gA := gA.trans f
    generalize upd H5 c1 (.lst ((ws.take j).map V.str)) = G14 at *
    clear f kk
    obtain ⟨w3, ew3⟩ : ∃ w3, ws[j]? = some w3 := ⟨_, List.getElem?_eq_getElem (by omega)⟩
    have mw : w3 ∈ ws := List.mem_of_getElem? ew3
    have ow := wsO w3 mw
    have lw3 : w3.length + 1 + wt (ws.drop (j + 1)) = wt (ws.drop j) := by
      have e : ws.drop j = w3 :: ws.drop (j + 1) := by
        have hj := (List.getElem?_eq_some_iff.mp ew3).1
        rw [List.drop_eq_getElem_cons hj, (List.getElem?_eq_some_iff.mp ew3).2]
      rw [e]
      show _ = wt ([w3] ++ ws.drop (j + 1))
      rw [wk, QJ]
    refine ⟨_, rfl, _, rfl, _, _, _, _, rfl, rfl, SqL.of eh, atN (by rw [List.getElem?_map, ew3]; rfl), _, rfl, _, _, rfl, rfl, leB (by show w3.length + 1 ≤ _; omega), (show 1 ≤ sizeLine by decide), fun c2 kk => ?_⟩
    have f := qk kk (.lst [.str (w3 ++ ⟨#[c]⟩)])
    have bc2 := qz (H := G14) (a := c2) (o := .lst [.str (w3 ++ ⟨#[c]⟩)])
    have nc2 : c2 ≠ lR := Ne.symm (zk bR kk)
    have bR := f _ _ bR
    have eh := f _ _ eh
    have bc1 := f _ _ bc1
    have rW := WN.mono rW f
    have gA := gA.trans f
    generalize upd G14 c2 (.lst [.str (w3 ++ ⟨#[c]⟩)]) = G15 at *
    clear f kk
    have bc2 : G15 c2 = some (.lst ([w3 ++ ⟨#[c]⟩].map V.str)) := bc2
    refine ⟨_, _, _, _, rfl, rfl, bc1, bc2, leB (by simp only [List.length_map, List.length_append, List.length_take, List.length_drop, List.length_cons, List.length_nil]; omega), fun c3 kk => ?_⟩
    rw [← List.map_append]
    have f := qk kk (.lst ((ws.take j ++ [w3 ++ ⟨#[c]⟩]).map V.str))
    have bc3 := qz (H := G15) (a := c3) (o := .lst ((ws.take j ++ [w3 ++ ⟨#[c]⟩]).map V.str))
    have nc3 : c3 ≠ lR := Ne.symm (zk bR kk)
    have bR := f _ _ bR
    have eh := f _ _ eh
    have rW := WN.mono rW f
    have gA := gA.trans f
    generalize upd G15 c3 (.lst ((ws.take j ++ [w3 ++ ⟨#[c]⟩]).map V.str)) = G16 at *
    clear f kk
    refine ⟨_, rfl, _, rfl, _, _, rfl, rfl, _, rfl, _, _, rfl, SqL.of eh, fun c4 kk => ?_⟩
    dsimp only at kk ⊢
    rw [show (j : Int) + 1 = ((j + 1 : Nat) : Int) by omega, cutLo (by rw [List.length_map]; omega), ← List.map_drop]
    have f := qk kk (.lst ((ws.drop (j + 1)).map V.str))
    have bc4 := qz (H := G16) (a := c4) (o := .lst ((ws.drop (j + 1)).map V.str))
    have nc4 : c4 ≠ lR := Ne.symm (zk bR kk)
    have bR := f _ _ bR
    have eh := f _ _ eh
    have bc3 := f _ _ bc3
    have rW := WN.mono rW f
    have gA := gA.trans f
    generalize upd G16 c4 (.lst ((ws.drop (j + 1)).map V.str)) = G17 at *
    clear f kk
    refine ⟨_, _, _, _, rfl, rfl, bc3, bc4, leB (by simp only [List.length_map, List.length_append, List.length_take, List.length_drop, List.length_cons, List.length_nil]; omega), fun c5 kk => ?_⟩
    rw [← List.map_append]
    have f := qk kk (.lst ((ws.take j ++ [w3 ++ ⟨#[c]⟩] ++ ws.drop (j + 1)).map V.str))
    have bc5 := qz (H := G17) (a := c5) (o := .lst ((ws.take j ++ [w3 ++ ⟨#[c]⟩] ++ ws.drop (j + 1)).map V.str))
    have nc5 : c5 ≠ lR := Ne.symm (zk bR kk)
    have bR := f _ _ bR
    have eh := f _ _ eh
    have rW := WN.mono rW f
    have gA := gA.trans f
    generalize upd G17 c5 (.lst ((ws.take j ++ [w3 ++ ⟨#[c]⟩] ++ ws.drop (j + 1)).map V.str)) = G18 at *
    clear f kk
    have l3 : (w3 ++ ⟨#[c]⟩ : Str).length = w3.length + 1 := by rw [zJ]; rfl
    have wh : wt (ws.take j ++ [w3 ++ ⟨#[c]⟩] ++ ws.drop (j + 1)) ≤ 10000 := by rw [wk, wk, QJ, l3]; omega
    have rb : RowB (M + 62) (W + 1) (Str.join blank (ws.take j ++ [w3 ++ ⟨#[c]⟩] ++ ws.drop (j + 1))) := by
      by_cases c32 : c = 32
      · have e : (w3 ++ ⟨#[c]⟩ : Str) = w3 ++ blank ++ Str.empty := vJ (by rw [c32, zX, zX, zX]; show _ = _ ++ []; rw [List.append_nil])
        have e2 : Str.join blank (ws.take j ++ [w3 ++ ⟨#[c]⟩] ++ ws.drop (j + 1)) = Str.join blank (ws.take j ++ w3 :: Str.empty :: ws.drop (j + 1)) := by
          rw [List.append_assoc, e]
          exact join_two _ _
        rw [e2]
        have e3 : ws.take j ++ w3 :: Str.empty :: ws.drop (j + 1) = ws.take j ++ ([w3] ++ ([Str.empty] ++ ws.drop (j + 1))) := rfl
        rw [e3]
        refine Zy (fun w hw => ?_) (by rw [wk, wk, wk, QJ, QJ]; show _ + (_ + (0 + 1 + _)) ≤ _; omega) (by rw [List.length_append, List.length_append, List.length_append, List.length_take, List.length_drop, List.length_singleton, List.length_singleton]; omega) (by omega) (by omega)
        rcases List.mem_append.mp hw with z | z
        · exact wT _ w z
        rcases List.mem_append.mp z with z | z
        · rw [List.mem_singleton.mp z]; exact ow
        rcases List.mem_append.mp z with z | z
        · rw [List.mem_singleton.mp z]; exact wok_of (by decide)
        · exact wD _ w z
      · refine Zy (fun w hw => ?_) (by rw [wk, wk, QJ, l3]; omega) (by rw [List.length_append, List.length_append, List.length_singleton, List.length_take, List.length_drop]; omega) (by omega) (by omega)
        rcases List.mem_append.mp hw with z | z
        · rcases List.mem_append.mp z with z | z
          · exact wT _ w z
          · rw [List.mem_singleton.mp z]
            refine ⟨fun d hd => ?_, fun hd => ?_, fun hd => ?_⟩
            all_goals
              rw [zX] at hd
              rcases List.mem_append.mp hd with y | y
            · exact ow.1 d y
            · rw [List.mem_singleton.mp y]; exact c128
            · exact ow.2.1 y
            · exact c32 (List.mem_singleton.mp y).symm
            · exact ow.2.2 y
            · exact c10 (List.mem_singleton.mp y).symm
        · exact wD _ w z
    exact tail c5 _ (ws.take j ++ [w3 ++ ⟨#[c]⟩] ++ ws.drop (j + 1)) _ bR rW gA nc5 bc5 rb wh
  case wayE =>
    have rb : RowB (M + 62) (W + 1) (Str.join blank ws) := Zy wsO (by omega) (by omega) (by omega) (by omega)
    have wh : wt ws ≤ 10000 := by omega
    exact tail lh0 _ ws _ bR rW gA nh0 eh rb wh
def asgList : Stmt → List Expr
  | .Assign _ (.List b _) _ => b
  | _ => []
def spLaw (K : PySem.W.Frag) : Sp := fun vs H Q _ => ∃ (a : Addr) (ns : List Int), vs = [.ref a] ∧ SqL K H a (ns.map V.int) ∧ ns.length ≤ 63 ∧ ∀ H', Q (.bl true) H'
theorem figs_asc (n : Nat) : Asc (figs n) := fun c hc => by
  rw [xK] at hc
  have := figL_all n c hc
  omega
theorem txt_asc {t b : Int} : Asc (txt t b) := by
  have hd : Asc (headS t) := fun c hc => by
    rw [Z5] at hc
    rcases List.mem_append.mp hc with z | z
    · split at z
      · have := List.mem_singleton.mp z
        omega
      · cases z
    · have := figL_all t.natAbs c z
      omega
  unfold txt
  split
  · exact hd
  · intro c hc
    rw [zX, zX, Y1] at hc
    rcases List.mem_append.mp hc with z | z
    · rcases List.mem_append.mp z with z | z
      · exact hd c z
      · have := List.mem_singleton.mp z
        omega
    · exact figs_asc _ c z
theorem word_asc {u : Un} : ∀ p ∈ unitW u, Asc p := fun p hp => by
  cases u with
  | bend n =>
    rcases List.mem_cons.mp hp with rfl | hp
    · exact (wok_of (by decide)).1
    · rw [List.mem_singleton.mp hp]; exact figs_asc _
  | sum q ts =>
    rcases List.mem_cons.mp hp with rfl | hp
    · exact (wok_of (by decide)).1
    · rcases List.mem_cons.mp hp with rfl | hp
      · exact txt_asc
      · obtain ⟨x, _, rfl⟩ := List.mem_map.mp hp
        intro c hc
        unfold termS at hc
        rw [zX, zX, colon] at hc
        rcases List.mem_append.mp hc with z | z
        · rcases List.mem_append.mp z with z | z
          · exact figs_asc _ c z
          · have := List.mem_singleton.mp z
            omega
        · exact txt_asc c z
theorem wok_unit {u : Un} : ∀ p ∈ unitW u, Wok p := fun p hp => ⟨word_asc p hp, word_free (.inl rfl) p hp, word_free (.inr rfl) p hp⟩
theorem net_txB {many : Nat} {us : List Un} {outs : List Nat} (ok : NetOk many us outs) (l12 : us.length ≤ 12) (sz : ∀ u ∈ us, SzU u) (sh : ∀ u ∈ us, wt (unitW u) ≤ 3000 ∧ (unitW u).length ≤ 20) : TxB 14 3000 20 (netS many us outs) := by
  obtain ⟨wf, l80, b20, m1, m6, o1, o12, ol⟩ := ok
  refine ⟨netR many us outs, rfl, by simp [netR], ?_, fun r hr => ?_⟩
  · unfold netR
    rw [List.length_append, List.length_cons, List.length_map, List.length_singleton]
    omega
  · unfold netR at hr
    rcases List.mem_append.mp hr with hr | hr
    · rcases List.mem_cons.mp hr with rfl | hr
      · refine ⟨_, rfl, by simp, fun p hp => ⟨?_, ins_free (.inl rfl) p hp, ins_free (.inr rfl) p hp⟩, ?_, by show 2 ≤ 20; decide⟩
        · rcases List.mem_cons.mp hp with rfl | hp
          · exact (wok_of (by decide)).1
          · rw [List.mem_singleton.mp hp]; exact figs_asc _
        · have := (w5 (low86 (show many < 100 by omega))).2
          show wt ([Str.ofString "ins"] ++ [figs many]) ≤ 3000
          rw [wk, QJ, QJ]
          show 3 + 1 + _ ≤ _
          omega
      · obtain ⟨u, hu, rfl⟩ := List.mem_map.mp hr
        exact ⟨_, rfl, by cases u <;> simp [unitW], wok_unit, (sh u hu).1, (sh u hu).2⟩
    · rw [List.mem_singleton.mp hr]
      refine ⟨_, rfl, by simp [outsW], fun p hp => ⟨?_, outs_free (.inl rfl) p hp, outs_free (.inr rfl) p hp⟩, ?_, by unfold outsW; rw [List.length_cons, List.length_map]; omega⟩
      · rcases List.mem_cons.mp hp with rfl | hp
        · exact (wok_of (by decide)).1
        · obtain ⟨x, _, rfl⟩ := List.mem_map.mp hp
          exact figs_asc _
      · have k := Q6 (ws := outsW outs) (n := 13) (B := 60) (by unfold outsW; rw [List.length_cons, List.length_map]; omega) fun p hp => by
          rcases List.mem_cons.mp hp with rfl | hp
          · decide
          · obtain ⟨x, hx, rfl⟩ := List.mem_map.mp hp
            exact (w5 (low86 (by have := ol x hx; omega))).2
        show _ + _ ≤ _
        omega
theorem txB_lit {x : Str} (rs : List (List Str)) (e : x = Str.join yx (rs.map (Str.join blank))) (n : rs ≠ []) (l : rs.length ≤ 14) (k : ∀ ws ∈ rs, ws ≠ [] ∧ (∀ w ∈ ws, Wok w) ∧ wt ws ≤ 3000 ∧ ws.length ≤ 20) : TxB 14 3000 20 x := by
  refine ⟨_, e, by simp [n], by rw [List.length_map]; exact l, fun r hr => ?_⟩
  obtain ⟨ws, hw, rfl⟩ := List.mem_map.mp hr
  obtain ⟨k1, k2, k3, k4⟩ := k ws hw
  exact ⟨ws, rfl, k1, k2, k3, k4⟩
def litB (rs : List (List Str)) : Bool := rs.all fun ws => !ws.isEmpty && ws.all (fun w => w.cps.toList.all (fun c => decide (c < 128 ∧ c ≠ 32 ∧ c ≠ 10))) && decide (wt ws ≤ 3000) && decide (ws.length ≤ 20)
theorem lit_ok {rs : List (List Str)} (h : litB rs = true) : ∀ ws ∈ rs, ws ≠ [] ∧ (∀ w ∈ ws, Wok w) ∧ wt ws ≤ 3000 ∧ ws.length ≤ 20 := fun ws hw => by
  have k := List.all_eq_true.mp h ws hw
  simp only [Bool.and_eq_true, decide_eq_true_eq, Bool.not_eq_true', List.isEmpty_eq_false_iff] at k
  obtain ⟨⟨⟨k1, k2⟩, k3⟩, k4⟩ := k
  exact ⟨k1, fun w hw => wok_of (List.all_eq_true.mp k2 w hw), k3, k4⟩
abbrev cb_law (P w K mg base) (a : Adr) (cdv A outer s H E) := (cxOf CX0 P w K mg base ["_law_script", "_law_told", "_law_text", "_law_k", "_law_cell", "_law_number", "_law_other", "_law_odd_here", "_law_lead", "_law_some"] "law" (qQ s_law) a.f_law cdv A outer s H E).nox
set_option maxHeartbeats 0 in
theorem ok_law (T : Txt K mg a) : FnOk P w K mg base CX0 11 a.f_law a.d_law ["_law_script"] (spLaw K) := by
  refine T.F_law.ok Z3 (fun vs H Q E h => ?_) (fun cdv A outer s H vs Q E hr h => ?_)
  · obtain ⟨_, _, rfl, _⟩ := h
    rfl
  obtain ⟨sa, ns, rfl, hS, h63, q⟩ := h
  have h0 : PS (cb_law P w K mg base a cdv A outer s H E) (bS s_law 0) _ := (zj (i := 1) Z3.nd rfl (Or.inl rfl) (qW (ok_law_net T) (hr.mono (by decide)) rfl T.m_law_net T.F_law_net.kp T.b_law_net .nil pass0 (pa_c (pv 0) (pa_c qw (pa_c qw qj))) (he := qq rfl _ _) (hpl := qy rfl)))
  have h1 : PS (cb_law P w K mg base a cdv A outer s H E) (bS s_law 1) _ := (zj (i := 2) Z3.nd rfl (Or.inl rfl) (pe_bm PySem.F.plainAttrs_str PySem.F.slot_str_join PySem.F.type_str_join mt_join qV (pa_c (kj (N := ["_law_words_here"]) (ix := [none]) ⟨rfl, rfl, rfl, rfl, trivial, rfl, trivial⟩ rfl (jv (qW (ok_law_rows T) (hr.mono (by decide)) rfl T.m_law_rows T.F_law_rows.kp T.b_law_rows .nil pass0 (pa_c (pv 1) qj) (he := qq rfl _ _) (hpl := qy rfl))) (fun _ => (zq (i := 0) (show (["_law_words_here"] : List Str).Nodup by decide +kernel) rfl (Or.inl rfl))) (fun _ σ => v7 rfl σ) (fun _ => yV) (fun _ => (pe_bm PySem.F.plainAttrs_str PySem.F.slot_str_join PySem.F.type_str_join mt_join qV (pa_c (pv 0) qj) (hs := qq rfl _ _) (hplain := qy rfl)))) qj) (hs := qq rfl _ _) (hplain := qy rfl)))
  have h2 : PS (cb_law P w K mg base a cdv A outer s H E) (bS s_law 2) _ := (ps_if (vx (jz (qW (QW T) (hr.mono (by decide)) rfl T.m_law_asked T.F_law_asked.kp T.b_law_asked .nil pass0 (pa_c (pv 2) qj) (he := qq rfl _ _) (hpl := qy rfl))))
        (qJ (zw pe_bl))
        zv)
  have h3 : PS (cb_law P w K mg base a cdv A outer s H E) (bS s_law 3) _ := (Yv PassesOwn.never rfl (pi_enum rfl T.m_enumerate (pa_c (yj jZ (pv 0) (yw qw) (yw qw)) qj)) (wj rfl (zy (zq (i := 3) Z3.nd rfl (Or.inl rfl)) (zy (zq (i := 4) Z3.nd rfl (Or.inl rfl)) v6)))
        (qZ (zj (i := 5) Z3.nd rfl (Or.inl rfl) (qW (QV T) (hr.mono (by decide)) rfl T.m_law_mixed T.F_law_mixed.kp T.b_law_mixed .nil pass0 (pa_c (pv 4) (pa_c (pe_op j8 qw (pv 3)) qj)) (he := qq rfl _ _) (hpl := qy rfl)))
      (qZ (zj (i := 2) Z3.nd rfl (Or.inl rfl) (qW (ok_law_spoilt T) (hr.mono (by decide)) rfl T.m_law_spoilt T.F_law_spoilt.kp T.b_law_spoilt .nil pass0 (pa_c (pv 2) (pa_c (pv 5) qj)) (he := qq rfl _ _) (hpl := qy rfl)))
      (qZ (zj (i := 6) Z3.nd rfl (Or.inl rfl) (qW (ok_law_spoilt T) (hr.mono (by decide)) rfl T.m_law_spoilt T.F_law_spoilt.kp T.b_law_spoilt .nil pass0 (pa_c qV (pa_c (pe_op vz (pv 5) qw) qj)) (he := qq rfl _ _) (hpl := qy rfl)))
      (qJ (ps_if (PW.pt (pw_or (vx (jz (qW (QW T) (hr.mono (by decide)) rfl T.m_law_asked T.F_law_asked.kp T.b_law_asked .nil pass0 (pa_c (pv 2) qj) (he := qq rfl _ _) (hpl := qy rfl)))) (wX (vx (jz (qW (QW T) (hr.mono (by decide)) rfl T.m_law_asked T.F_law_asked.kp T.b_law_asked .nil pass0 (pa_c (pv 6) qj) (he := qq rfl _ _) (hpl := qy rfl)))))))
        (qJ (zw pe_bl))
        zv))))))
  have hr4 : PA (cb_law P w K mg base a cdv A outer s H E) ((asgList (bS s_law 4)).drop 3) _ := (pa_c (jj qj) (pa_c (jj (pa_c qV (pa_c qV qj))) (pa_c (vq (pa_c qV qj)) (pa_c pe_dict0 (pa_c qV (pa_c qV (pa_c qV (pa_c qV qj))))))))
  have hv4 : cVs ((asgList (bS s_law 4)).take 3) = some [.non, .int 7, .bl true] := by kernel_rfl
  obtain ⟨a4, d4, c4, hst4⟩ : ∃ a d c, (bS s_law 4) = .Assign [.Name (Str.ofString "_law_odd_here") a] (.List (asgList (bS s_law 4)) d) c := ⟨_, _, _, rfl⟩
  have h5 : PS (cb_law P w K mg base a cdv A outer s H E) (bS s_law 5) _ := (zj (i := 8) Z3.nd rfl (Or.inl rfl) (qW (QV T) (hr.mono (by decide)) rfl T.m_law_mixed T.F_law_mixed.kp T.b_law_mixed .nil pass0 (pa_c (qW (ok_law_cell_at T) (hr.mono (by decide)) rfl T.m_law_cell_at T.F_law_cell_at.kp T.b_law_cell_at .nil pass0 (pa_c (pv 0) (pa_c qw qj)) (he := qq rfl _ _) (hpl := qy rfl)) (pa_c qw qj)) (he := qq rfl _ _) (hpl := qy rfl)))
  have h6 : PS (cb_law P w K mg base a cdv A outer s H E) (bS s_law 6) _ := (zj (i := 9) Z3.nd rfl (Or.inl rfl) (jj (pa_c (pe_ix zV (pv 7) (pe_op vv (pv 8) qw) (fun _ _ => rfl)) (pa_c (pe_ix zV (pv 7) (pe_op vv (pe_op vz (pv 8) qw) qw) (fun _ _ => rfl)) (pa_c qV (pa_c qV qj))))))
  have h7 : PS (cb_law P w K mg base a cdv A outer s H E) (bS s_law 7) _ := (zw (qX (call_all rfl) rfl T.m_all boot_all (pa_c (kj (N := ["_law_thing"]) (ix := [none]) ⟨rfl, rfl, rfl, rfl, trivial, rfl, trivial⟩ rfl (jv (pv 9)) (fun _ => (zq (i := 0) (show (["_law_thing"] : List Str).Nodup by decide +kernel) rfl (Or.inl rfl))) (fun _ σ => v7 rfl σ) (fun _ => yV) (fun _ => (qW (QW T) (hr.mono (by decide)) rfl T.m_law_asked T.F_law_asked.kp T.b_law_asked .nil pass0 (pa_c (pv 0) qj) (he := qq rfl _ _) (hpl := qy rfl)))) qj) (he := qq rfl _ _) (hpl := qy rfl)))
  have hb : zz s_law = [(bS s_law 0), (bS s_law 1), (bS s_law 2), (bS s_law 3), (bS s_law 4), (bS s_law 5), (bS s_law 6), (bS s_law 7)] := by rfl
  generalize asgList (bS s_law 4) = AL4 at *
  generalize (bS s_law 0) = S0 at *
  generalize (bS s_law 1) = S1 at *
  generalize (bS s_law 2) = S2 at *
  generalize (bS s_law 3) = S3 at *
  generalize (bS s_law 4) = S4 at *
  generalize (bS s_law 5) = S5 at *
  generalize (bS s_law 6) = S6 at *
  generalize (bS s_law 7) = S7 at *
  rw [hb]
  subst hst4
  refine ⟨_, (qZ h0 (qZ h1 (qZ h2 (qZ h3 (qZ (zj (i := 7) Z3.nd rfl (Or.inl rfl) (jj (pa_cut 3 hv4 hr4))) (qZ h5 (qZ h6 (qJ h7)))))))), ?_⟩
  refine ⟨_, rfl, sa, ns, 1, 20, rfl, hS, fun many us outs t lu lo vu H1 ok lo9 m6 l12 shr g1 ht _ eu ru _ eo => ?_⟩
  have lvu := ru.length
  obtain ⟨wf, l80, b20, m1, _, o1, o12, ol⟩ := id ok
  have szs : ∀ u ∈ us, SzU u ∧ wt (unitW u) ≤ 3000 ∧ (unitW u).length ≤ 20 := fun u hu => by
    obtain ⟨i, hi⟩ := List.getElem?_of_mem hu
    have hi2 := (List.getElem?_eq_some_iff.mp hi).1
    have s := (unit_sz (shr u hu) (wf i u hi) (by omega)).1
    refine ⟨s, ?_⟩
    have l10 : (unitW u).length ≤ 10 := by
      cases u with
      | sum c ts => show (ts.map termS).length + 1 + 1 ≤ 10; rw [List.length_map]; have := (shr _ hu).2.2; omega
      | bend p => show 2 ≤ 10; decide
    have k := Q6 l10 (unitW_len s).2
    exact ⟨by show _ + _ ≤ _; omega, by omega⟩
  have sz := fun u hu => (szs u hu).1
  have tx : TxB 14 3000 20 (netS many us outs) := net_txB ok l12 sz fun u hu => (szs u hu).2
  have hS := g1.seq hS
  refine ⟨rfl, _, rfl, t, lu, lo, many, vu, us, outs, rfl, ht, SqL.of eu, ru, SqL.of eo, ok, sz, fun lw H4 ws g4 ew rW => ?_⟩
  have hS := g4.seq hS
  have lws := Paired.length rW
  have lnw := netW_len ok
  refine ⟨lw, rfl, ⟨_, SqL.of ew⟩, yk (n := (netW many us outs).length) (fun i ys H' => H' = H4 ∧ ys = (((netW many us outs).take i).map (Str.join blank)).map V.str) ⟨rfl, rfl⟩ (zW (by omega)) ?_ ?_ ?_⟩
  case refine_2 =>
    rintro i ys H' hi ⟨rfl, _⟩
    exact ⟨_, _, SqL.of ew, List.getElem?_eq_getElem (by omega)⟩
  case refine_3 =>
    rintro i m' ys H' cc y Hk hi ⟨rfl, rfl⟩ ⟨rfl, y1⟩ nx _
    obtain ⟨wd, ewd, l9, rfl, k9⟩ := kQ rW (y1 _ (SqL.of ew))
    refine Or.inl ⟨rfl, rfl, _, rfl, _, l9, wd, rfl, rfl, SqL.of k9, (by decide), netW_words ok sz wd (List.mem_of_getElem? ewd), nx _ _ ⟨rfl, ?_⟩⟩
    rw [zZ ewd, List.map_append, List.map_append, Yz]
    rfl
  rintro ys H5 ⟨rfl, rfl⟩
  rw [List.take_of_length_le (Nat.le_refl _), netW_rows]
  refine ⟨⟨_, SqL.of ew, by omega⟩, fun lr kr => ?_⟩
  have f := qk kr (.lst ((netR many us outs).map V.str))
  have br := qz (H := H5) (a := lr) (o := .lst ((netR many us outs).map V.str))
  have hS := f.seq hS
  generalize upd H5 lr (.lst ((netR many us outs).map V.str)) = H6 at *
  have es : Txt.split (netS many us outs) yx = netR many us outs := Q7 (by simp [netR]) rows_free
  have fit2 : ((netR many us outs).map (·.length)).sum + (netR many us outs).length ≤ 1048576 := by
    obtain ⟨_, l14, k14⟩ := tx.split
    rw [es] at l14 k14
    have k := Q6 l14 fun p hp => (k14 p hp).len
    omega
  clear es
  refine ⟨_, lr, netR many us outs, rfl, rfl, SqL.of br, (by decide), fit2, ?_⟩
  rw [line_is]
  have et : Str.join yx (netR many us outs) = netS many us outs := rfl
  rw [et]
  generalize netS many us outs = tx0 at *
  refine ⟨_, rfl, _, rfl, .inl ⟨_, rfl, tx.ok (by decide) (by decide) (by decide)⟩, fun H7 g7 => ⟨_, rfl, iteF ?_⟩⟩
  have hS := g7.seq hS
  clear fit2 br rW ew lws lnw et f kr
  refine ⟨_, rfl, _, rfl, _, rfl, _, _, rfl, hS, fun c2 k2 => ?_⟩
  obtain ⟨ks, ek, hk⟩ : ∃ ks : List Int, cutV (ns.map V.int) (some 1) (some 9) = ks.map V.int ∧ ks.length ≤ 8 := by
    unfold cutV
    rw [← List.map_drop, ← List.map_take]
    refine ⟨_, rfl, ?_⟩
    rw [List.length_take, List.length_drop]
    have e1 : HT.sIx (ns.map V.int).length 0 (some ((1 : Nat) : Int)) = min 1 (ns.map V.int).length := HT.sIx_nat ..
    have e1 : HT.sIx (ns.map V.int).length 0 (some 1) = min 1 (ns.map V.int).length := e1
    have e2 : HT.sIx (ns.map V.int).length (ns.map V.int).length (some ((9 : Nat) : Int)) = min 9 (ns.map V.int).length := HT.sIx_nat ..
    have e2 : HT.sIx (ns.map V.int).length (ns.map V.int).length (some 9) = min 9 (ns.map V.int).length := e2
    rw [e1, e2, List.length_map]
    omega
  rw [ek]
  have f := qk k2 (.lst (ks.map V.int))
  have e2 := qz (H := H7) (a := c2) (o := .lst (ks.map V.int))
  have hS := f.seq hS
  generalize upd H7 c2 (.lst (ks.map V.int)) = H8 at *
  have lkm : (ks.map V.int).length = ks.length := List.length_map ..
  have lit : TxB 14 3000 20 (Str.ofString "ins 1\nbend 0\nouts 1") := txB_lit [[Str.ofString "ins", Str.ofString "1"], [Str.ofString "bend", Str.ofString "0"], [Str.ofString "outs", Str.ofString "1"]] (by decide) (by simp) (by decide) (lit_ok (by decide))
  refine ⟨c2, rfl, ⟨_, SqL.of e2⟩, Z6 (n := ks.length) (fun i σ H' => SqL K H' sa (ns.map V.int) ∧ H' c2 = some (.lst (ks.map V.int)) ∧ ∃ (x : Str) (u3 u4 u5 u6 : Option V), σ = [some (.ref sa), some (.ref t), some (.str x), u3, u4, u5, u6, none, none, none] ∧ TxB (14 + i) (3000 + 62 * i) (20 + i) x) ⟨hS, e2, tx0, _, _, _, _, rfl, tx⟩ ?_ ?_ ?_⟩
  case refine_2 =>
    rintro i σ H' hi ⟨_, k2, _⟩
    exact ⟨_, _, SqL.of k2, List.getElem?_eq_getElem (by omega)⟩
  case refine_3 =>
    rintro i σ H0 x Hk hi ⟨hS, k2, y, u3, u4, u5, u6, rfl, ty⟩ ⟨p, x2, hp, rfl, rfl, y1⟩
    obtain ⟨z, ez, rfl⟩ := int_at (y1 _ (SqL.of k2))
    have f := qk hp (.tup [.int (i : Int), .int z])
    refine ⟨p, _, rfl, SqT.of qz, rfl, _, _, rfl, _, _, rfl, rfl, ?_⟩
    have hS := f.seq hS
    have k2 := f _ _ k2
    generalize upd H0 p (.tup [.int (i : Int), .int z]) = G0 at *
    refine ⟨_, rfl, _, rfl, _, _, rfl, rfl, z, _, rfl, fun nu n0 n1 => ?_⟩
    refine ⟨_, rfl, _, rfl, y, nu, 14 + i, 3000 + 62 * i, 20 + i, rfl, ty, by omega, by omega, by omega, by omega, fun y2 ty2 G1 g1 => ?_⟩
    refine ⟨_, rfl, _, _, rfl, rfl, cdivB (n := 10) (by decide) (by unfold Sm; decide), _, _, 14, 3000, 20, rfl, lit, by decide, by decide, by decide, by decide, fun y3 ty3 G2 g2 => ?_⟩
    refine ⟨_, rfl, _, rfl, .inl ⟨_, rfl, ty2.ok (by omega) (by omega) (by omega)⟩, fun G3 g3 => ⟨_, rfl, iteF ⟨_, rfl, _, rfl, .inl ⟨_, rfl, ty3.ok (by decide) (by decide) (by decide)⟩, fun G4 g4 => ⟨_, rfl, iteF ?_⟩⟩⟩⟩
    have gg := g1.trans (g2.trans (g3.trans g4))
    exact ⟨gg.seq hS, gg _ _ k2, y2, _, _, _, _, rfl, by rw [show 14 + (i + 1) = 14 + i + 1 by omega, show 3000 + 62 * (i + 1) = 3000 + 62 * i + 62 by omega, show 20 + (i + 1) = 20 + i + 1 by omega]; exact ty2⟩
  rintro σ H9 ⟨hS, k2, y, u3, u4, u5, u6, rfl, ty⟩
  refine ⟨⟨_, SqL.of k2, by omega⟩, ?_⟩
  clear k2 ty tx lit e2 ek hk f ru eu eo ht
  refine ⟨(show 0 ≤ sizeLine by decide), fun a1 k1 => ?_⟩
  have f := qk k1 (.lst [])
  have b1 := qz (H := H9) (a := a1) (o := .lst [])
  have hS := f.seq hS
  generalize upd H9 a1 (.lst []) = J1 at *
  refine ⟨j0, fun a2 k2 => ?_⟩
  have f := qk k2 (.lst [.str (Str.ofString "ins 1"), .str (Str.ofString "outs 0")])
  have b2 := qz (H := J1) (a := a2) (o := .lst [.str (Str.ofString "ins 1"), .str (Str.ofString "outs 0")])
  have hS := f.seq hS
  have b1 := f _ _ b1
  generalize upd J1 a2 (.lst [.str (Str.ofString "ins 1"), .str (Str.ofString "outs 0")]) = J2 at *
  refine ⟨(show 1 ≤ sizeLine by decide), fun a3 k3 => ?_⟩
  have f := qk k3 (.tup [.str (Str.ofString "ins 1")])
  have b3 := qz (H := J2) (a := a3) (o := .tup [.str (Str.ofString "ins 1")])
  have hS := f.seq hS
  have b1 := f _ _ b1
  have b2 := f _ _ b2
  generalize upd J2 a3 (.tup [.str (Str.ofString "ins 1")]) = J3 at *
  refine fun a4 k4 => ?_
  have f := qk k4 (.dK [])
  have b4 := qz (H := J3) (a := a4) (o := .dK [])
  have hS := f.seq hS
  have b1 := f _ _ b1
  have b2 := f _ _ b2
  have b3 := f _ _ b3
  generalize upd J3 a4 (.dK []) = J4 at *
  refine ⟨(show 11 ≤ sizeLine by decide), fun lO kO => ?_⟩
  have lt : ∀ {x : Str} (rs : List (List Str)), x = Str.join yx (rs.map (Str.join blank)) → rs ≠ [] → rs.length ≤ 14 → litB rs = true → TxOk x := fun rs e n l h => (txB_lit rs e n l (lit_ok h)).ok (by decide) (by decide) (by decide)
  have all : ∀ v ∈ ([V.non, V.int 7, V.bl true] ++ [.ref a1, .ref a2, .ref a3, .ref a4, .str (Str.ofString ""), .str (Str.ofString "ins 1"), .str (Str.ofString "outs 0"), .str (Str.ofString "ins 1\nouts 0\n")] : List V), (∃ x, v = .str x ∧ TxOk x) ∨ IsS K J4 v := by
    intro v hv
    simp only [List.cons_append, List.nil_append, List.mem_cons, List.not_mem_nil, or_false] at hv
    rcases hv with rfl | rfl | rfl | rfl | rfl | rfl | rfl | rfl | rfl | rfl | rfl
    · exact .inr .non
    · exact .inr (.int 7)
    · exact .inr (.bl true)
    · exact .inr (.lst (SqL.of b1))
    · exact .inr (.lst (SqL.of b2))
    · exact .inr (.tup (SqT.of b3))
    · exact .inr (.dict b4)
    · exact .inl ⟨_, rfl, lt [[Str.empty]] (by decide) (by simp) (by decide) (by decide)⟩
    · exact .inl ⟨_, rfl, lt [[Str.ofString "ins", Str.ofString "1"]] (by decide) (by simp) (by decide) (by decide)⟩
    · exact .inl ⟨_, rfl, lt [[Str.ofString "outs", Str.ofString "0"]] (by decide) (by simp) (by decide) (by decide)⟩
    · exact .inl ⟨_, rfl, lt [[Str.ofString "ins", Str.ofString "1"], [Str.ofString "outs", Str.ofString "0"], [Str.empty]] (by decide) (by simp) (by decide) (by decide)⟩
  have l11 : (([V.non, V.int 7, V.bl true] ++ [.ref a1, .ref a2, .ref a3, .ref a4, .str (Str.ofString ""), .str (Str.ofString "ins 1"), .str (Str.ofString "outs 0"), .str (Str.ofString "ins 1\nouts 0\n")] : List V).length : Int) = 11 := rfl
  generalize ([V.non, V.int 7, V.bl true] ++ [.ref a1, .ref a2, .ref a3, .ref a4, .str (Str.ofString ""), .str (Str.ofString "ins 1"), .str (Str.ofString "outs 0"), .str (Str.ofString "ins 1\nouts 0\n")] : List V) = LO at *
  have f := qk kO (.lst LO)
  have bO := qz (H := J4) (a := lO) (o := .lst LO)
  have hS := f.seq hS
  have mo : ∀ {H H' : Hp} {v : V}, Same H H' → ((∃ x, v = .str x ∧ TxOk x) ∨ IsS K H v) → (∃ x, v = .str x ∧ TxOk x) ∨ IsS K H' v := fun g h => h.imp id fun z => z.mono g
  have all := fun v hv => mo f (all v hv)
  generalize upd J4 lO (.lst LO) = J5 at *
  refine ⟨_, rfl, sa, ns, 0, rfl, hS, fun c => ⟨_, _, rfl, fun lead l0 l1 => ?_⟩⟩
  obtain ⟨v1, hat1, hv1⟩ := at_mod (L := LO) lead (by omega)
  obtain ⟨v2, hat2, hv2⟩ := at_mod (L := LO) (lead.fdiv 11) (by omega)
  rw [l11] at hat1 hat2
  refine ⟨_, rfl, _, rfl, _, _, rfl, rfl, (by show (0 : Int) < 11; decide), _, _, _, _, rfl, rfl, SqL.of bO, hat1, _, rfl, _, rfl, _, _, rfl, rfl, cdivB (n := 10) (by decide) (by unfold Sm; decide), _, _, rfl, rfl, (by show (0 : Int) < 11; decide), _, _, _, _, rfl, rfl, SqL.of bO, hat2, (show 4 ≤ sizeLine by decide), fun lS kS => ?_⟩
  have f := qk kS (.lst [v1, v2, .str (Str.ofString "ins 6\nouts"), .str (Str.ofString "ins 0\nouts 0")])
  have bS := qz (H := J5) (a := lS) (o := .lst [v1, v2, .str (Str.ofString "ins 6\nouts"), .str (Str.ofString "ins 0\nouts 0")])
  have a1 := mo f (all v1 hv1)
  have a2 := mo f (all v2 hv2)
  generalize upd J5 lS (.lst [v1, v2, .str (Str.ofString "ins 6\nouts"), .str (Str.ofString "ins 0\nouts 0")]) = J6 at *
  have ask : ∀ v ∈ [v1, v2, .str (Str.ofString "ins 6\nouts"), .str (Str.ofString "ins 0\nouts 0")], (∃ x, v = .str x ∧ TxOk x) ∨ IsS K J6 v := by
    intro v hv
    simp only [List.mem_cons, List.not_mem_nil, or_false] at hv
    rcases hv with rfl | rfl | rfl | rfl
    · exact a1
    · exact a2
    · exact .inl ⟨_, rfl, lt [[Str.ofString "ins", Str.ofString "6"], [Str.ofString "outs"]] (by decide) (by simp) (by decide) (by decide)⟩
    · exact .inl ⟨_, rfl, lt [[Str.ofString "ins", Str.ofString "0"], [Str.ofString "outs", Str.ofString "0"]] (by decide) (by simp) (by decide) (by decide)⟩
  refine ⟨_, rfl, lS, rfl, ⟨_, SqL.of bS⟩, yk (n := 4) (fun i ys H' => Same J6 H' ∧ ys = (List.replicate i true).map V.bl) ⟨Same.refl _, rfl⟩ (zW (by decide)) ?_ ?_ ?_⟩
  case refine_2 =>
    rintro i ys H' hi ⟨g, _⟩
    exact ⟨_, _, SqL.of (g _ _ bS), List.getElem?_eq_getElem hi⟩
  case refine_3 =>
    rintro i m' ys H' cc y Hk hi ⟨g, rfl⟩ ⟨rfl, y1⟩ nx _
    have my := List.mem_of_getElem? (y1 _ (SqL.of (g _ _ bS)))
    refine Or.inl ⟨rfl, _, rfl, y, rfl, mo g (ask y my), fun H3 g3 => nx _ _ ⟨g.trans g3, ?_⟩⟩
    rw [List.replicate_succ', List.map_append]
    rfl
  rintro ys J7 ⟨g7, rfl⟩
  exact ⟨⟨_, SqL.of (g7 _ _ bS), Nat.le_refl _⟩, fun D hD => ⟨D, _, rfl, SqL.of qz, q _⟩⟩
end
theorem all_mk {l : PySem.W.OpenLaw} {w : World} {K : PySem.W.Frag} {h : Heap} {mg : Str → Option Value} {fa : Addr} (X : K.In h) (G : h.Ns mainGlobals mg) (hfa : mg "law" = some (.ref fa)) (pins : Pins K) :
    ∃ fd : FuncData, (∀ (s : Shared) (v : Value), BindsTo s fd ⟨[v], []⟩ [("_law_script", v)]) ∧ ∀ base : Heap, K.In base → base.Ns mainGlobals mg → FnOk l.prog w K mg base CX0 11 fa fd ["_law_script"] (spLaw K) := by
  refine pins _ ?_
  intro CC_Net f0 od0 an0 sl0 oc0 kV0 dc0 pm0 cd0 ct0 f1 od1 an1 sl1 oc1 kV1 dc1 pm1 cd1 ct1 f2 od2 an2 sl2 oc2 kV2 dc2 pm2 cd2 ct2 f3 od3 an3 sl3 oc3 kV3 dc3 pm3 cd3 ct3 f4 od4 an4 sl4 oc4 kV4 dc4 pm4 cd4 ct4 f5 od5 an5 sl5 oc5 kV5 dc5 pm5 cd5 ct5 f6 od6 an6 sl6 oc6 kV6 dc6 pm6 cd6 ct6 f7 od7 an7 sl7 oc7 kV7 dc7 pm7 cd7 ct7 f8 od8 an8 sl8 oc8 kV8 dc8 pm8 cd8 ct8 f9 od9 an9 sl9 oc9 kV9 dc9 pm9 cd9 ct9 f10 od10 an10 sl10 oc10 kV10 dc10 pm10 cd10 ct10 f11 od11 an11 sl11 oc11 kV11 dc11 pm11 cd11 ct11 f12 od12 an12 sl12 oc12 kV12 dc12 pm12 cd12 ct12 f13 od13 an13 sl13 oc13 kV13 dc13 pm13 cd13 ct13 f14 od14 an14 sl14 oc14 kV14 dc14 pm14 cd14 ct14 f15 od15 an15 sl15 oc15 kV15 dc15 pm15 cd15 ct15 f16 od16 an16 sl16 oc16 kV16 dc16 pm16 cd16 ct16 f17 od17 an17 sl17 oc17 kV17 dc17 pm17 cd17 ct17 f18 od18 an18 sl18 oc18 kV18 dc18 pm18 cd18 ct18 f19 od19 an19 sl19 oc19 kV19 dc19 pm19 cd19 ct19 f20 od20 an20 sl20 oc20 kV20 dc20 pm20 cd20 ct20 f21 od21 an21 sl21 oc21 kV21 dc21 pm21 cd21 ct21 f22 od22 an22 sl22 oc22 kV22 dc22 pm22 cd22 ct22 f23 od23 an23 sl23 oc23 kV23 dc23 pm23 cd23 ct23 f24 od24 an24 sl24 oc24 kV24 dc24 pm24 cd24 ct24 f25 od25 an25 sl25 oc25 kV25 dc25 pm25 cd25 ct25 f26 od26 an26 sl26 oc26 kV26 dc26 pm26 cd26 ct26 f27 od27 an27 sl27 oc27 kV27 dc27 pm27 cd27 ct27 f28 od28 an28 sl28 oc28 kV28 dc28 pm28 cd28 ct28 f29 od29 an29 sl29 oc29 kV29 dc29 pm29 cd29 ct29 f30 od30 an30 sl30 oc30 kV30 dc30 pm30 cd30 ct30 f31 od31 an31 sl31 oc31 kV31 dc31 pm31 cd31 ct31 f32 od32 an32 sl32 oc32 kV32 dc32 pm32 cd32 ct32 f33 od33 an33 sl33 oc33 kV33 dc33 pm33 cd33 ct33 f34 od34 an34 sl34 oc34 kV34 dc34 pm34 cd34 ct34 f35 od35 an35 sl35 oc35 kV35 dc35 pm35 cd35 ct35 f36 od36 an36 sl36 oc36 kV36 dc36 pm36 cd36 ct36 f37 od37 an37 sl37 oc37 kV37 dc37 pm37 cd37 ct37 f38 od38 an38 sl38 oc38 kV38 dc38 pm38 cd38 ct38 f39 od39 an39 sl39 oc39 kV39 dc39 pm39 cd39 ct39 f40 od40 an40 sl40 oc40 kV40 dc40 pm40 cd40 ct40 f41 od41 an41 sl41 oc41 kV41 dc41 pm41 cd41 ct41 f42 od42 an42 sl42 oc42 kV42 dc42 pm42 cd42 ct42 f43 od43 an43 sl43 oc43 kV43 dc43 pm43 cd43 ct43 C0 C1 C2 C3 C4 C5 C6 tk_MOST_FIGURES tk_FIGURES tk_MOST_BENDS tk_MOST_UNITS tk_MOST_OUTS tk_MOST_INS a0 l0 c0 k0 a1 l1 c1 k1 a2 l2 c2 k2 a3 l3 c3 k3 a4 l4 c4 k4 a5 l5 c5 k5 a6 l6 c6 k6 a7 l7 c7 k7 a8 l8 c8 k8 a9 l9 c9 k9 a10 l10 c10 k10 a11 l11 c11 k11 a12 l12 c12 k12 a13 l13 c13 k13 a14 i14 l14 c14 k14 a15 l15 c15 k15 a16 l16 c16 k16 a17 l17 c17 k17 a18 l18 c18 k18 a19 l19 c19 k19 a20 l20 c20 k20 a21 l21 c21 k21 a22 l22 c22 k22 a23 l23 c23 k23 a24 l24 c24 k24 a25 l25 c25 k25 a26 l26 c26 k26 a27 l27 c27 k27 a28 i28 l28 c28 k28 a29 l29 c29 k29 a30 l30 c30 k30 a31 l31 c31 k31 a32 l32 c32 k32 a33 l33 c33 k33 a34 l34 c34 k34 a35 l35 c35 k35 a36 l36 c36 k36 a37 l37 c37 k37 a38 l38 c38 k38 a39 l39 c39 k39 a40 l40 c40 k40 a41 l41 c41 k41 a42 l42 c42 k42 a43 l43 c43 k43 z0 z1 z2 z3 z4 z5 z6 z7 z8 z9 z10 z11 z12 z13 z14 z15 z16 mC0 mC1 mC2 mC3 mC4 mC5 mC6 x0 x1 x2 y1 y2 y3 y4 y5 y6 y7 w0 wC1 wC2 wC3 wC4 wC5 wC6 x1r1 x2r1 y1r1 y2r1 y3r1 y4r1 y5r1 y6r1 y7r1 w0r1 wC1r1 wC2r1 wC3r1 wC4r1 wC5r1 wC6r1 gNet pgNet hdNet poNet saNet mkNet kcNet naNet_many naNet_units naNet_outs qMOST_FIGURES qFIGURES qMOST_BENDS qMOST_UNITS qMOST_OUTS qMOST_INS
  have e := hfa.symm.trans (PySem.W.mg_of X G a43)
  cases e
  have F0 := yq (st := wW) l0 c0 k0
  have b0 := F0.binds (ps := ["_law_script", "_law_k"]) fun _ _ _ _ _ _ us hl => match us, hl with | [_, _], _ => rfl
  have F1 := yq (st := xZ) l1 c1 k1
  have b1 := F1.binds (ps := ["_law_cell", "_law_k"]) fun _ _ _ _ _ _ us hl => match us, hl with | [_, _], _ => rfl
  have F2 := yq (st := Q9) l2 c2 k2
  have b2 := F2.binds (ps := ["_law_number", "_law_k"]) fun _ _ _ _ _ _ us hl => match us, hl with | [_, _], _ => rfl
  have F3 := yq (st := j6) l3 c3 k3
  have b3 := F3.binds (ps := ["_law_script", "_law_start", "_law_many"]) fun _ _ _ _ _ _ us hl => match us, hl with | [_, _, _], _ => rfl
  have F4 := yq (st := Qq) l4 c4 k4
  have b4 := F4.binds (ps := ["_law_top", "_law_bottom"]) fun _ _ _ _ _ _ us hl => match us, hl with | [_, _], _ => rfl
  have F5 := yq (st := v9) l5 c5 k5
  have b5 := F5.binds (ps := ["_law_number", "_law_great"]) fun _ _ _ _ _ _ us hl => match us, hl with | [_, _], _ => rfl
  have F6 := yq (st := xy) l6 c6 k6
  have b6 := F6.binds (ps := ["_law_number", "_law_great"]) fun _ _ _ _ _ _ us hl => match us, hl with | [_, _], _ => rfl
  have F7 := yq (st := jX) l7 c7 k7
  have b7 := F7.binds (ps := ["_law_number", "_law_places", "_law_bent", "_law_great"]) fun _ _ _ _ _ _ us hl => match us, hl with | [_, _, _, _], _ => rfl
  have F8 := yq (st := yQ) l8 c8 k8
  have b8 := F8.binds (ps := ["_law_script", "_law_start", "_law_most_bends"]) fun _ _ _ _ _ _ us hl => match us, hl with | [_, _, _], _ => rfl
  have F9 := yq (st := jy) l9 c9 k9
  have b9 := F9.binds (ps := ["_law_word", "_law_most"]) fun _ _ _ _ _ _ us hl => match us, hl with | [_, _], _ => rfl
  have F10 := yq (st := yX) l10 c10 k10
  have b10 := F10.binds (ps := ["_law_word"]) fun _ _ _ _ _ _ us hl => match us, hl with | [_], _ => rfl
  have F11 := yq (st := yW) l11 c11 k11
  have b11 := F11.binds (ps := ["_law_words_here"]) fun _ _ _ _ _ _ us hl => match us, hl with | [_], _ => rfl
  have F12 := yq (st := jq) l12 c12 k12
  have b12 := F12.binds (ps := ["_law_text"]) fun _ _ _ _ _ _ us hl => match us, hl with | [_], _ => rfl
  have F13 := yq (st := xk) l13 c13 k13
  have b13 := F13.binds (ps := ["unit"]) fun _ _ _ _ _ _ us hl => match us, hl with | [_], _ => rfl
  have F14 := yq (st := Qx) l14 c14 k14
  have b14 := F14.binds (ps := ["self"]) fun _ _ _ _ _ _ us hl => match us, hl with | [_], _ => rfl
  have F15 := yq (st := jK) l15 c15 k15
  have b15 := F15.binds (ps := ["_law_told"]) fun _ _ _ _ _ _ us hl => match us, hl with | [_], _ => rfl
  have F16 := yq (st := jJ) l16 c16 k16
  have b16 := F16.binds (ps := ["text"]) fun _ _ _ _ _ _ us hl => match us, hl with | [_], _ => rfl
  have F17 := yq (st := jw) l17 c17 k17
  have b17 := F17.binds (ps := ["row", "head"]) fun _ _ _ _ _ _ us hl => match us, hl with | [_, _], _ => rfl
  have F18 := yq (st := Y7) l18 c18 k18
  have b18 := F18.binds (ps := ["one", "other"]) fun _ _ _ _ _ _ us hl => match us, hl with | [_, _], _ => rfl
  have F19 := yq (st := Qz) l19 c19 k19
  have b19 := F19.binds (ps := ["thing"]) fun _ _ _ _ _ _ us hl => match us, hl with | [_], _ => rfl
  have F20 := yq (st := Qj) l20 c20 k20
  have b20 := F20.binds (ps := ["thing"]) fun _ _ _ _ _ _ us hl => match us, hl with | [_], _ => rfl
  have F21 := yq (st := vV) l21 c21 k21
  have b21 := F21.binds (ps := ["place", "end"]) fun _ _ _ _ _ _ us hl => match us, hl with | [_, _], _ => rfl
  have F22 := yq (st := s_plain) l22 c22 k22
  have b22 := F22.binds (ps := ["one"]) fun _ _ _ _ _ _ us hl => match us, hl with | [_], _ => rfl
  have F23 := yq (st := j7) l23 c23 k23
  have b23 := F23.binds (ps := ["term", "end"]) fun _ _ _ _ _ _ us hl => match us, hl with | [_, _], _ => rfl
  have F24 := yq (st := yY) l24 c24 k24
  have b24 := F24.binds (ps := ["constant", "terms", "end"]) fun _ _ _ _ _ _ us hl => match us, hl with | [_, _, _], _ => rfl
  have F25 := yq (st := yK) l25 c25 k25
  have b25 := F25.binds (ps := ["unit", "end"]) fun _ _ _ _ _ _ us hl => match us, hl with | [_, _], _ => rfl
  have F26 := yq (st := yy) l26 c26 k26
  have b26 := F26.binds (ps := ["units", "many"]) fun _ _ _ _ _ _ us hl => match us, hl with | [_, _], _ => rfl
  have F27 := yq (st := ww) l27 c27 k27
  have b27 := F27.binds (ps := ["outs", "end"]) fun _ _ _ _ _ _ us hl => match us, hl with | [_, _], _ => rfl
  have F28 := yq (st := vQ) l28 c28 k28
  have b28 := F28.binds (ps := ["self", "many", "units", "outs"]) fun _ _ _ _ _ _ us hl => match us, hl with | [_, _, _, _], _ => rfl
  have F29 := yq (st := Q8) l29 c29 k29
  have b29 := F29.binds (ps := ["text"]) fun _ _ _ _ _ _ us hl => match us, hl with | [_], _ => rfl
  have F30 := yq (st := s_ratio) l30 c30 k30
  have b30 := F30.binds (ps := ["top", "bottom"]) fun _ _ _ _ _ _ us hl => match us, hl with | [_, _], _ => rfl
  have F31 := yq (st := vK) l31 c31 k31
  have b31 := F31.binds (ps := ["number"]) fun _ _ _ _ _ _ us hl => match us, hl with | [_], _ => rfl
  have F32 := yq (st := Q4) l32 c32 k32
  have b32 := F32.binds (ps := ["one"]) fun _ _ _ _ _ _ us hl => match us, hl with | [_], _ => rfl
  have F33 := yq (st := xj) l33 c33 k33
  have b33 := F33.binds (ps := ["text"]) fun _ _ _ _ _ _ us hl => match us, hl with | [_], _ => rfl
  have F34 := yq (st := xv) l34 c34 k34
  have b34 := F34.binds (ps := ["word"]) fun _ _ _ _ _ _ us hl => match us, hl with | [_], _ => rfl
  have F35 := yq (st := v8) l35 c35 k35
  have b35 := F35.binds (ps := ["row"]) fun _ _ _ _ _ _ us hl => match us, hl with | [_], _ => rfl
  have F36 := yq (st := jW) l36 c36 k36
  have b36 := F36.binds (ps := ["text"]) fun _ _ _ _ _ _ us hl => match us, hl with | [_], _ => rfl
  have F37 := yq (st := jk) l37 c37 k37
  have b37 := F37.binds (ps := ["_law_text"]) fun _ _ _ _ _ _ us hl => match us, hl with | [_], _ => rfl
  have F38 := yq (st := jx) l38 c38 k38
  have b38 := F38.binds (ps := ["_law_number"]) fun _ _ _ _ _ _ us hl => match us, hl with | [_], _ => rfl
  have F39 := yq (st := y9) l39 c39 k39
  have b39 := F39.binds (ps := ["_law_text", "_law_number"]) fun _ _ _ _ _ _ us hl => match us, hl with | [_, _], _ => rfl
  have F40 := yq (st := xQ) l40 c40 k40
  have b40 := F40.binds (ps := ["_law_one"]) fun _ _ _ _ _ _ us hl => match us, hl with | [_], _ => rfl
  have F41 := yq (st := xw) l41 c41 k41
  have b41 := F41.binds (ps := ["_law_unit_here"]) fun _ _ _ _ _ _ us hl => match us, hl with | [_], _ => rfl
  have F42 := yq (st := wJ) l42 c42 k42
  have b42 := F42.binds (ps := ["_law_told"]) fun _ _ _ _ _ _ us hl => match us, hl with | [_], _ => rfl
  have F43 := yq (st := s_law) l43 c43 k43
  have b43 := F43.binds (ps := ["_law_script"]) fun _ _ _ _ _ _ us hl => match us, hl with | [_], _ => rfl
  have T : Txt K mg ⟨_, _, _, _, _, _, _, _, _, _, _, _, _, _, _, _, _, _, _, _, _, _, _, _, _, _, _, _, _, _, _, _, _, _, _, _, _, _, _, _, _, _, _, _, _, _, _, _, _, _, _, _, _, _, _, _, _, _, _, _, _, _, _, _, _, _, _, _, _, _, _, _, _, _, _, _, _, _, _, _, _, _, _, _, _, _, _, _, C0, C1, C2, C3, C4, C5, C6, CC_Net, tk_MOST_FIGURES, tk_FIGURES, tk_MOST_BENDS, tk_MOST_UNITS, tk_MOST_OUTS, tk_MOST_INS⟩ := ⟨F0, PySem.W.mg_of X G a0, b0, F1, PySem.W.mg_of X G a1, b1, F2, PySem.W.mg_of X G a2, b2, F3, PySem.W.mg_of X G a3, b3, F4, PySem.W.mg_of X G a4, b4, F5, PySem.W.mg_of X G a5, b5, F6, PySem.W.mg_of X G a6, b6, F7, PySem.W.mg_of X G a7, b7, F8, PySem.W.mg_of X G a8, b8, F9, PySem.W.mg_of X G a9, b9, F10, PySem.W.mg_of X G a10, b10, F11, PySem.W.mg_of X G a11, b11, F12, PySem.W.mg_of X G a12, b12, F13, PySem.W.mg_of X G a13, b13, F14, ⟨a14, i14, k14⟩, b14, F15, PySem.W.mg_of X G a15, b15, F16, PySem.W.mg_of X G a16, b16, F17, PySem.W.mg_of X G a17, b17, F18, PySem.W.mg_of X G a18, b18, F19, PySem.W.mg_of X G a19, b19, F20, PySem.W.mg_of X G a20, b20, F21, PySem.W.mg_of X G a21, b21, F22, PySem.W.mg_of X G a22, b22, F23, PySem.W.mg_of X G a23, b23, F24, PySem.W.mg_of X G a24, b24, F25, PySem.W.mg_of X G a25, b25, F26, PySem.W.mg_of X G a26, b26, F27, PySem.W.mg_of X G a27, b27, F28, ⟨mkNet, a28, i28, kcNet⟩, b28, F29, PySem.W.mg_of X G a29, b29, F30, PySem.W.mg_of X G a30, b30, F31, PySem.W.mg_of X G a31, b31, F32, PySem.W.mg_of X G a32, b32, F33, PySem.W.mg_of X G a33, b33, F34, PySem.W.mg_of X G a34, b34, F35, PySem.W.mg_of X G a35, b35, F36, PySem.W.mg_of X G a36, b36, F37, PySem.W.mg_of X G a37, b37, F38, PySem.W.mg_of X G a38, b38, F39, PySem.W.mg_of X G a39, b39, F40, PySem.W.mg_of X G a40, b40, F41, PySem.W.mg_of X G a41, b41, F42, PySem.W.mg_of X G a42, b42, F43, PySem.W.mg_of X G a43, b43, PySem.W.mg_none_of X G z0, PySem.W.mg_none_of X G z1, PySem.W.mg_none_of X G z2, PySem.W.mg_none_of X G z3, PySem.W.mg_none_of X G z4, PySem.W.mg_none_of X G z5, PySem.W.mg_none_of X G z6, PySem.W.mg_none_of X G z7, PySem.W.mg_none_of X G z8, PySem.W.mg_none_of X G z9, PySem.W.mg_none_of X G z10, PySem.W.mg_none_of X G z11, PySem.W.mg_none_of X G z12, PySem.W.mg_none_of X G z13, PySem.W.mg_none_of X G z14, PySem.W.mg_none_of X G z15, PySem.W.mg_none_of X G z16, PySem.W.mg_of X G mC0, PySem.W.mg_of X G mC1, PySem.W.mg_of X G mC2, PySem.W.mg_of X G mC3, PySem.W.mg_of X G mC4, PySem.W.mg_of X G mC5, PySem.W.mg_of X G mC6, x0, x1, x2, ⟨cls_of_exc x1, y1, y2, y3, y4, y5, y6, y7⟩, w0, wC1, wC2, wC3, wC4, wC5, wC6, x1r1, x2r1, ⟨cls_of_exc x1r1, y1r1, y2r1, y3r1, y4r1, y5r1, y6r1, y7r1⟩, w0r1, wC1r1, wC2r1, wC3r1, wC4r1, wC5r1, wC6r1, ⟨pgNet, hdNet, poNet, saNet⟩, PySem.W.mg_of X G gNet, naNet_many, naNet_units, naNet_outs, PySem.W.mg_of X G qMOST_FIGURES, PySem.W.mg_of X G qFIGURES, PySem.W.mg_of X G qMOST_BENDS, PySem.W.mg_of X G qMOST_UNITS, PySem.W.mg_of X G qMOST_OUTS, PySem.W.mg_of X G qMOST_INS⟩
  exact ⟨PySem.W.fnOf "law" "law" (zQ s_law) (zz s_law) (qQ s_law) .none kV43 dc43 pm43 an43 cd43 ct43, fun s v => .of_eq rfl, fun base _ _ => ok_law T⟩
theorem walk {l : PySem.W.OpenLaw} {q : Program} {loose : List Str} {XP : (Str → Option Value) → Heap → Prop} {YP : World → Heap → Prop} {d : DefRec} {K : Params → PySem.W.Frag} (hn : l.most = some 63) (hdf : d.params.defaults = [])
    (hY : ∀ (w : World) (h : Heap), YP w h → (K w.params).In h)
    (F : ∀ (w : World) (mg : Str → Option Value) (fa : Addr) (h : Heap), (K w.params).In h → h.Ns mainGlobals mg → mg d.name = some (.ref fa) → ∃ fd : FuncData, (∀ (s : Shared) (u : Value), BindsTo s fd ⟨[u], []⟩ [("_law_script", u)]) ∧ ∀ base : Heap, (K w.params).In base → base.Ns mainGlobals mg → FnOk l.prog w (K w.params) mg base CX0 11 fa fd ["_law_script"] (spLaw (K w.params))) :
    PySem.W.WalkO q loose XP YP l.row.toRowW d [] (fun f vs => PySem.call f vs) :=
  L2.walk_of (n := 63) (k := 11) (x := "_law_script") (CX := fun _ => CX0) (sp := fun w => spLaw (K w.params)) hn (by decide) hdf ⟨rfl, by decide, by decide⟩ hY F (fun _ _ a ns hl _ hS => ⟨a, ns, rfl, hS, hl, fun _ => rfl⟩) fun _ _ _ _ _ z => z
end BP
open PySem PySem.W PyProof.Rows
set_option maxRecDepth 100000 in
set_option maxHeartbeats 0 in
theorem PySem.Challenge.cw_bendproof_k72_texts_refused_holds : PySem.Challenge.rw_bendproof_k72_texts_refused.Holds := by
  refine BP.early fun hd hn hY hP => BP.walk (l := PySem.Challenge.rw_bendproof_k72_texts_refused) rfl hd hY fun w mg fa h KX G hmg => ?_
  rw [hn] at hmg
  exact BP.all_mk KX G hmg (hP w)
