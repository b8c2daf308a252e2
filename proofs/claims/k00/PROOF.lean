import PyProof.Rows.All
import Wide.All
import OpenK.AllK
import Wide.FinOn
import KE.KStateDown
import KE.KExcIs
import HandS.ForMost
import HandS.ExcInit
import HandS.IsInst
import HandS.ExcIs
import HandS.Defaults
import HandS.Nested
import HandS.NoneIn
import HandS.ListEq
import HandS.HeadEnd
import HandS.Head2
import HandS.HeadHook4
import HandS.HeadWalk
import PySem.Challenge.RW_pagefall_k00_errors_made
set_option Elab.async false
set_option linter.all false
set_option maxRecDepth 100000
set_option maxHeartbeats 4000000
namespace K00
open PySem PySem.Spec PyProof.Rows L2
/-! ### the text by places -/
def top (i : Nat) : Stmt := PySem.Challenge.pw_pagefall_k00_errors_made.main.body.getD i (.Pass ⟨0, 0, 0, 0⟩)
/-- an error: its place in the text, its name, what it keeps -/
abbrev Er : Type := Nat × Str × List Str
def ersA : List Er := [(2, "BadNode", ["path"]),
  (3, "NoNode", ["path"]),
  (4, "NoPlace", ["path"]),
  (5, "NoText", ["path"]),
  (6, "NoElement", ["path"]),
  (7, "BadClass", ["klass"]),
  (8, "BadPath", ["path"]),
  (9, "BadText", ["index"]),
  (10, "BadSelector", ["thing"]),
  (11, "BadSpine", ["thing"]),
  (12, "BadStand", ["thing"]),
  (13, "BadLetter", ["thing"]),
  (14, "BadNest", ["thing"]),
  (15, "BadList", ["index"]),
  (16, "NoPart", ["part"]),
  (17, "BadRule", ["index"]),
  (18, "BadNumber", ["number"]),
  (19, "BadWord", ["word"]),
  (20, "BadWidth", ["width"]),
  (21, "BadGiven", ["word"]),
  (22, "BadWhere", ["where"]),
  (23, "BadValue", ["thing"]),
  (25, "BadDress", ["thing"]),
  (26, "NoBox", ["box"]),
  (27, "BadKinds", ["thing"]),
  (28, "BadAcross", ["thing"]),
  (29, "BadRoom", ["room"])]
def ersB : List Er := [(30, "BadRows", ["index"]),
  (31, "BadMargins", ["index"]),
  (32, "BadRun", ["index"]),
  (33, "BadAlign", ["align"]),
  (34, "BadItems", ["index"]),
  (35, "BadGap", ["thing"]),
  (36, "NoItem", ["index"]),
  (37, "BadSize", ["thing"]),
  (38, "UnlikeItems", []),
  (39, "BadCells", ["index"]),
  (40, "NoPlacing", []),
  (41, "NoLine", ["line"]),
  (42, "BadPlace", ["thing"]),
  (43, "UnlikeColumns", []),
  (44, "BadForm", ["thing"]),
  (45, "BadFraction", ["thing"]),
  (46, "BadStretch", ["index"]),
  (47, "BadStretches", ["thing"]),
  (48, "BadForms", ["index"]),
  (49, "NoLines", ["path"]),
  (50, "BadWish", ["thing"]),
  (51, "BadAbout", ["thing"]),
  (52, "BadShape", ["index"]),
  (53, "BadPoint", ["x", "y"]),
  (54, "BadRectangle", ["index"]),
  (55, "BadRegion", ["thing"])]
def ers : List Er := ersA ++ ersB
abbrev sIni (i : Nat) : Stmt := inClass (top i) 0
def loose0 : List PySem.Str := [Str.ofString "PageError", Str.ofString "BadNode", Str.ofString "NoNode", Str.ofString "NoPlace", Str.ofString "NoText", Str.ofString "NoElement", Str.ofString "BadClass", Str.ofString "BadPath", Str.ofString "BadText", Str.ofString "BadSelector", Str.ofString "BadSpine", Str.ofString "BadStand", Str.ofString "BadLetter", Str.ofString "BadNest"]
def loose1 : List PySem.Str := [Str.ofString "BadList", Str.ofString "NoPart", Str.ofString "BadRule", Str.ofString "BadNumber", Str.ofString "BadWord", Str.ofString "BadWidth", Str.ofString "BadGiven", Str.ofString "BadWhere", Str.ofString "BadValue", Str.ofString "BadDress", Str.ofString "NoBox", Str.ofString "BadKinds", Str.ofString "BadAcross", Str.ofString "BadRoom"]
def loose2 : List PySem.Str := [Str.ofString "BadRows", Str.ofString "BadMargins", Str.ofString "BadRun", Str.ofString "BadAlign", Str.ofString "BadItems", Str.ofString "BadGap", Str.ofString "NoItem", Str.ofString "BadSize", Str.ofString "UnlikeItems", Str.ofString "BadCells", Str.ofString "NoPlacing", Str.ofString "NoLine", Str.ofString "BadPlace", Str.ofString "UnlikeColumns"]
def loose3 : List PySem.Str := [Str.ofString "BadForm", Str.ofString "BadFraction", Str.ofString "BadStretch", Str.ofString "BadStretches", Str.ofString "BadForms", Str.ofString "NoLines", Str.ofString "BadWish", Str.ofString "BadAbout", Str.ofString "BadShape", Str.ofString "BadPoint", Str.ofString "BadRectangle", Str.ofString "BadRegion", Str.ofString "_law_stream", Str.ofString "_law_draw"]
def loose4 : List PySem.Str := [Str.ofString "_law_pick", Str.ofString "_law_mixed", Str.ofString "_law_made_a", Str.ofString "_law_made_b", Str.ofString "_law_kinds_a", Str.ofString "_law_kinds_b", Str.ofString "_law_is_own", Str.ofString "_law_same"]
def loose : List PySem.Str := loose0 ++ loose1 ++ loose2 ++ loose3 ++ loose4
/-! ### the law's own defs: places and names -/
abbrev Df : Type := Nat × Str
def dfs : List Df := [(57, "_law_stream"), (58, "_law_draw"), (60, "_law_mixed"), (61, "_law_made_a"), (62, "_law_made_b"), (63, "_law_kinds_a"), (64, "_law_kinds_b"), (65, "_law_is_own"), (66, "_law_same"), (67, "law")]
def tabN : List Str := ["_law_made_a", "_law_made_b"]
def freeN : List Str := ["len", "range", "enumerate", "isinstance", "repr", "abs", "int", "list", "ValueError", "LookupError"]
/-! ### looks into the heap behind the top, by a small part of it each -/
def gA (g : Addr → Option Obj) (x : Str) : Addr := He.ga (He.frT g [mainGlobals]) x
def nsA (g : Addr → Option Obj) (C : Addr) : Addr := match g C with
  | some ⟨_, _, .cls cd, _⟩ => cd.ns
  | _ => 0
def niA (g : Addr → Option Obj) (N : Addr) (x : Str) : Addr := match PySem.W.nsIn (He.frT g [N]) N x with
  | some (some (.ref a)) => a
  | _ => 0
def cdA (g : Addr → Option Obj) (f : Addr) : Addr := match g f with
  | some ⟨_, _, .func fd, _⟩ => (match fd.code with
    | .ref c => c
    | _ => 0)
  | _ => 0
def tbA (g : Addr → Option Obj) (c : Addr) : Addr := He.tabOf (He.frT g [c]) c
/-- the def at f as the text has it -/
def fnV (K : PySem.W.Frag) (f : Addr) : He.FnW := match K.lookup f with
  | some ⟨_, _, .func fd, _⟩ => some (fd.name, fd.qualname, fd.params, fd.body, fd.scope, fd.globals, fd.closure, fd.builtins)
  | _ => none
def fnB (K : PySem.W.Frag) (f c : Addr) (q : Str) : Bool := PySem.W.keepIn K (.ref f) && (match K.lookup f with
  | some ⟨_, _, .func fd, _⟩ => (match fd.code with
    | .ref c' => decide (c' = c)
    | _ => false) && (PySem.W.codeIn K (.ref c) q && (match fd.defaults with
    | .none => true
    | _ => false))
  | _ => false)
abbrev ptail (C CP : Addr) : List Value := [.ref C, .ref CP, .type "ValueError", .type "Exception", .type "BaseException", .type "object"]
def clsB (K : PySem.W.Frag) (CP C : Addr) : Bool := match K.lookup C with
  | some ⟨.type t, _, .cls cd, sl⟩ => decide (t = "type") && (decide (cd.mro = ptail C CP) && (cd.hasDict && (!cd.hasDel && (match sl.toList with
    | [_, _, _, _, some (.builtin n), _] => decide (n = "ValueError.__new__")
    | _ => false))))
  | _ => false
def errB (K : PySem.W.Frag) (CP C f : Addr) (fs : List Str) : Bool := clsB K CP C &&
  (He.eqO (PySem.W.findIn K (.ref C) "__setattr__") (some (some (.builtin "object.__setattr__"))) &&
  (He.eqO (PySem.W.findIn K (.ref C) "__getattribute__") (some (some (.builtin "BaseException.__getattribute__"))) &&
  (He.eqO (PySem.W.findIn K (.ref C) "__getattr__") (some none) &&
  (He.eqO (PySem.W.findIn K (.ref C) "__init__") (some (some (.ref f))) &&
  (decide (PySem.W.typeIn K (.ref f) = some (.type "function")) &&
  (PySem.W.keepIn K (.ref C) &&
  (He.eqO (PySem.W.findIn K (.ref C) "__class__") (some (some (.builtin "object.__class__"))) &&
  fs.all fun x => He.eqO (PySem.W.findIn K (.ref C) x) (some none))))))))
/-- an error's class: its look -/
def errAs (g : Addr → Option Obj) (CP NP : Addr) (c : Er) : List Addr :=
  [gA g c.2.1, CP, nsA g (gA g c.2.1), NP, niA g (nsA g (gA g c.2.1)) "__init__", cdA g (niA g (nsA g (gA g c.2.1)) "__init__")]
def errL (g : Addr → Option Obj) (CP NP : Addr) (c : Er) : Bool × He.FnW :=
  HandSHeadRun.frNat (gA g c.2.1) fun C => HandSHeadRun.frNat (nsA g C) fun N => HandSHeadRun.frNat (niA g N "__init__") fun f => HandSHeadRun.frNat (cdA g f) fun cd =>
    (errB (He.frT g [C, CP, N, NP, f, cd]) CP C f c.2.2 && fnB (He.frT g [C, CP, N, NP, f, cd]) f cd (c.2.1 ++ ".__init__"), fnV (He.frT g [C, CP, N, NP, f, cd]) f)
def errV (c : Er) : Bool × He.FnW := (true, some ("__init__", c.2.1 ++ ".__init__", defArgs (sIni c.1), .stmts (defBody (sIni c.1)), defScope (sIni c.1), mainGlobals, [], builtinsNs))
/-- a def of the law -/
def defAs (g : Addr → Option Obj) (d : Df) : List Addr := [gA g d.2, cdA g (gA g d.2)]
def defL (g : Addr → Option Obj) (d : Df) : Bool × He.FnW :=
  HandSHeadRun.frNat (gA g d.2) fun f => HandSHeadRun.frNat (cdA g f) fun cd => (fnB (He.frT g [f, cd]) f cd d.2, fnV (He.frT g [f, cd]) f)
def defV (d : Df) : Bool × He.FnW := (true, some (d.2, d.2, defArgs (top d.1), .stmts (defBody (top d.1)), defScope (top d.1), mainGlobals, [], builtinsNs))
/-- a def's table -/
def tabL (g : Addr → Option Obj) (x : Str) : Bool := HandSHeadRun.frNat (cdA g (gA g x)) fun cd => HandSHeadRun.frNat (tbA g cd) fun P =>
  PySem.W.codeHdIn (He.frT g [cd]) cd P && (match g P with
    | some o => He.emptyTab o
    | none => false)
def gloL (g : Addr → Option Obj) (x : Str) : Bool := He.eqO (PySem.W.nsIn (He.frT g [mainGlobals]) mainGlobals x) (some (some (.ref (gA g x))))
def freL (g : Addr → Option Obj) (x : Str) : Bool := He.eqO (PySem.W.nsIn (He.frT g [mainGlobals]) mainGlobals x) (some none)
/-- the class that all errors stand on -/
def basL (g : Addr → Option Obj) (CP NP : Addr) : Bool := PySem.W.readsIn (He.frT g [CP, NP, cStatics]) CP (.type "type") &&
  (He.eqO (PySem.W.specialIn (He.frT g [CP, NP, cStatics]) (.ref CP) "__getattribute__") (some (some (.builtin "type.__getattribute__"))) &&
  ((match PySem.W.findCls (He.frT g [CP, NP, cStatics]) (.ref CP) (.type "type") "__init__" with
    | some (.val (.builtin n)) => decide (n = "ValueError.__init__")
    | _ => false) &&
  (decide (PySem.W.specialIn (He.frT g [CP, NP, cStatics]) (.builtin "object.__class__") "__get__" = some (some (.builtin "getset_descriptor.__get__"))) &&
  (decide (PySem.W.takesIn (He.frT g [CP, NP, cStatics]) (.builtin "object.__class__") = some true) &&
  (PySem.W.isClsIn (He.frT g [CP, NP, cStatics]) CP && decide (PySem.W.typeIn (He.frT g [CP, NP, cStatics]) (.ref CP) = some (.type "type")))))))
def someL (g : Addr → Option Obj) (CP NP : Addr) : Bool := basL g CP NP && (gloL g "PageError" && ((ers.all fun c => gloL g c.2.1) && ((dfs.all fun d => gloL g d.2) && ((freeN.all fun x => freL g x) &&
  ((tabN.all fun x => tabL g x) && (decide ((CP :: ers.map fun c => gA g c.2.1).Nodup) && (((g sysModules).any fun o => !He.emptyTab o) && !decide (tbA g (cdA g (gA g "_law_made_a")) = tbA g (cdA g (gA g "_law_made_b"))))))))))
abbrev AlK : Type := Bool × List (Bool × He.FnW) × List (Bool × He.FnW)
def obsK (g : Addr → Option Obj) : AlK := HandSHeadRun.frNat (gA g "PageError") fun CP => HandSHeadRun.frNat (nsA g CP) fun NP =>
  (someL g CP NP, dfs.map fun d => defL g d, ers.map fun c => errL g CP NP c)
def valK : AlK := (true, dfs.map defV, ers.map errV)
abbrev R : PySem.W.OpenRow := PySem.W.OpenLaw.row PySem.Challenge.rw_pagefall_k00_errors_made
def ob (s : PySem.W.SharedT) : AlK := obsK (HandSHeadRun.getT s)
end K00
namespace PySem
namespace K00X
open PySem.HandSPX

/-! ### C(..) with keywords, C an error's class: at the library's level -/
section
variable {M : Model} {prog : Program} {w : World} {A : Around} {E : Value → Shared → Prop} {h : Heap} {g : Array GenState}
variable {d : Drawn} {t : Nat} {os : OsState} {R : Result → Shared → Prop} {B nid iid : String}
variable {nm q : Str} {C N : Addr} {bs bm bb : List Value} {hdc : Bool} {sn : List Str} {sub : List Value} {ab : Bool}
variable {col : Option Bool} {dd : Option Addr} {k0 k1 k2 k3 k5 : Option Value} {us : List Value} {kw : List (Str × Value)}
theorem kwNewCheck (F : ExcBaseFacts B nid iid bb) (hT : ∀ Y : String, bm.contains (.type Y) = bb.contains (.type Y)) {Q : Unit → Shared → Prop}
    (hC : h.get? C = some (excClassObj nm q C N bs bm hdc sn sub ab col dd k0 k1 k2 k3 k5 nid)) (hq : Q () ⟨h, g, d, t, os⟩) :
    wpAny M A (checkBuiltinCall nid ⟨.ref C :: us, kw⟩) Q E ⟨h, g, d, t, os⟩ := by
  have cB : (Value.ref C :: bm).contains (.type B) = true := by
    rw [List.contains_cons, hT, F.hasB, Bool.or_true]
  have ns := F.noStar
  simp only [checkBuiltinCall, F.newKind, F.newSplit, F.newRow]
  repeat (first
    | refine wpAny_loadPart_at hC ?_
    | (refine wpAny_isSubtype_exc hC ?_; rw [cB])
    | refine wpAny_staticBase_exc hC ?_
    | refine wpAny_madeBy_exc hC ?_
    | simp only [bne_self_eq_false, Bool.false_eq_true, if_false]
    | wp_step)
  exact hq
theorem kwNew (F : ExcBaseFacts B nid iid bb) (hT : ∀ Y : String, bm.contains (.type Y) = bb.contains (.type Y)) (hus : us.length ≤ sizeLine)
    (hC : h.get? C = some (excClassObj nm q C N bs bm hdc sn sub ab col dd k0 k1 k2 k3 k5 nid))
    (hq : R (.ok (.ret (.ref (h.objs.size + 1)))) ⟨(h.push (W.kdv_tup us)).push (excO C h.objs.size), g, d, t, os⟩) :
    codeAny (model prog w) A (.builtin nid ⟨.ref C :: us, kw⟩) R ⟨h, g, d, t, os⟩ := by
  have en := F.ends
  have cB : (Value.ref C :: bm).contains (.type B) = true := by
    rw [List.contains_cons, hT, F.hasB, Bool.or_true]
  have cA : (Value.ref C :: bm).contains (.type "AttributeError") = false := by
    rw [List.contains_cons, hT, F.noAttr]
    rfl
  have cN : (Value.ref C :: bm).contains (.type "NameError") = false := by
    rw [List.contains_cons, hT, F.noName]
    rfl
  refine codeAny_builtinAt F.entry ?_
  unfold Builtin.«BaseException.__new__»
  refine wpAt_bind ?_
  show wpAt _ _ _ (stack >>= _) _ _ _
  refine wpAt_bind (wpAt_stack fun p below => wpAt_of_wpAny ?_)
  wp_walk
  refine wpAt_of_wpAny ?_
  rw [F.owner]
  repeat (first
    | with_reducible refine wpAny_madeHere_exc F.canon hC ?_
    | with_reducible refine wpAny_loadPart_at hC ?_
    | (with_reducible refine wpAny_isSubtype_exc hC ?_; first | rw [cB] | rw [cA] | rw [cN])
    | wp_step)
  show R _ _
  rw [Heap.size_push]
  exact hq
theorem kwTypeCall (F : ExcBaseFacts B nid iid bb) (hT : ∀ Y : String, bm.contains (.type Y) = bb.contains (.type Y)) {fI : Addr} {Q : Fin → Shared → Prop}
    (hC : h.get? C = some (excClassObj nm q C N bs bm hdc sn sub ab col dd k0 k1 k2 k3 k5 nid)) (hus : us.length ≤ sizeLine)
    (hi : W.Looks (model prog w) h (typeLookup (.ref C) "__init__") (some (.ref fI))) (hb : ∀ self, W.Looks (model prog w) h (bindSpecial (.ref fI) self) (.ref fI, [self]))
    (hq : codeAny (model prog w) A (.call (.ref fI) ⟨.ref (h.objs.size + 1) :: us, kw⟩)
      (fun r s' => match r with
        | .ok (.ret v) => v = .none ∧ Q (.done (.ret (.ref (h.objs.size + 1)))) s'
        | .ok _ => False
        | .error e => E e s') ⟨(h.push (W.kdv_tup us)).push (excO C h.objs.size), g, d, t, os⟩) :
    wpAny (model prog w) A (Builtin.«type.__call__» ⟨.ref C :: us, kw⟩) Q E ⟨h, g, d, t, os⟩ := by
  repeat (first
    | with_reducible refine wpAny_loadPart_at hC ?_
    | with_reducible refine wpAny_madeBy_exc hC ?_
    | wp_step)
  refine codeAny_call_builtin_code (Code.quiet_builtin _ F.quiet) (kwNewCheck F hT hC ?_)
  refine kwNew F hT hus hC ?_
  show wpAny _ _ _ _ _ _
  have k : ∀ b o, h.get? b = some o → ((h.push (W.kdv_tup us)).push (excO C h.objs.size)).get? b = some o := fun b o e =>
    Heap.get?_push_of_some _ (Heap.get?_push_of_some _ e)
  have hC2 := k _ _ hC
  have hge : ((h.push (W.kdv_tup us)).push (excO C h.objs.size)).get? (h.objs.size + 1) = some (excO C h.objs.size) := by
    heap_get
  have cC : (Value.ref C :: bm).contains (.ref C) = true := by
    simp
  have i2 := hi.keeps k
  have b2 := (hb (.ref (h.objs.size + 1))).keeps k
  unfold isInstance
  repeat (first
    | with_reducible refine wpAny_loadPart_at hge ?_
    | (with_reducible refine wpAny_isSubtype_exc hC2 ?_; rw [cC])
    | wp_step)
  show wpAny _ _ (typeLookup (.ref C) _) _ _ _
  refine i2.at ?_
  refine wpAny_holding (wpAny_bind (b2.at ?_))
  refine wpAny_bind (wpAny_call (codeAny_mono hq fun r s' z => ?_))
  rcases r with e | (v | _ | _ | _) <;> first | exact z | exact z.elim | skip
  obtain ⟨rfl, z⟩ := z
  first
    | exact wpAny_pure (wpAny_pure z)
    | (wp_walk; exact z)
theorem kwCall (F : ExcBaseFacts B nid iid bb) (hT : ∀ Y : String, bm.contains (.type Y) = bb.contains (.type Y)) {fI : Addr}
    (hC : h.get? C = some (excClassObj nm q C N bs bm hdc sn sub ab col dd k0 k1 k2 k3 k5 nid)) (hus : us.length ≤ sizeLine)
    (hi : W.Looks (model prog w) h (typeLookup (.ref C) "__init__") (some (.ref fI))) (hb : ∀ self, W.Looks (model prog w) h (bindSpecial (.ref fI) self) (.ref fI, [self]))
    (hq : codeAny (model prog w) (A.under (.builtin "type.__call__" ⟨.ref C :: us, kw⟩)) (.call (.ref fI) ⟨.ref (h.objs.size + 1) :: us, kw⟩) (W.InitBack (h.objs.size + 1) R)
      ⟨(h.push (W.kdv_tup us)).push (excO C h.objs.size), g, d, t, os⟩) :
    codeAny (model prog w) A (.call (.ref C) ⟨us, kw⟩) R ⟨h, g, d, t, os⟩ := by
  have f1 := tc_lookup
  have f2 := tc_bind (.ref C)
  have hTy : (⟨h, g, d, t, os⟩ : Shared).TypeIs (.ref C) "type" := ⟨_, hC, rfl⟩
  refine codeAny_of_tree ?_
  show wpAny _ _ (callAny (.ref C) _) _ _ _
  repeat (any_goals (first
    | assumption
    | with_reducible refine wpAny_loadPart_at hC ?_
    | wp_step))
  refine ⟨rfl, ?_⟩
  refine codeAny_call_builtin_at (Code.quiet_builtin _ (by decide +kernel)) entry_typeCall (wpAny_check_type_call_sub hC (kwTypeCall F hT hC hus hi hb ?_))
  refine codeAny_mono hq fun r s' z => ?_
  rcases r with e | (v | _ | _ | _) <;> exact z
end
end K00X
end PySem
namespace K00
open PySem PySem.W
/-! ### looks at a part of the written heap hold of the whole of it -/
def Le (K K' : Frag) : Prop := ∀ a o, K.lookup a = some o → K'.lookup a = some o
section
variable {K K' : Frag} {x : Str}
theorem nsIn_le (l : Le K K') {a : Addr} {r : Option Value} (h : nsIn K a x = some r) : nsIn K' a x = some r := by
  unfold nsIn at h ⊢
  cases q : K.lookup a with
  | none =>
    rw [q] at h
    cases h
  | some o =>
    rw [l _ _ q]
    rw [q] at h
    exact h
theorem ownIn_le (l : Le K K') {v : Value} {r : Option Value} (h : ownIn K x v = some r) : ownIn K' x v = some r := by
  cases v with
  | ref a =>
    unfold ownIn at h ⊢
    dsimp only at h ⊢
    cases q : K.lookup a with
    | none =>
      rw [q] at h
      cases h
    | some o =>
      obtain ⟨oc, od, dt, sl⟩ := o
      rw [l _ _ q]
      rw [q] at h
      cases dt with
      | cls cd => exact nsIn_le l h
      | _ => cases h
  | _ => exact h
theorem alongIn_le (l : Le K K') : ∀ {vs : List Value} {r : Option Value}, alongIn K x vs = some r → alongIn K' x vs = some r
  | [], r, h => h
  | c :: vs, r, h => by
    unfold alongIn at h ⊢
    cases q : ownIn K x c with
    | none =>
      rw [q] at h
      cases h
    | some o =>
      rw [ownIn_le l q]
      rw [q] at h
      cases o with
      | none => exact alongIn_le l h
      | some v => exact h
theorem findIn_le (l : Le K K') {v : Value} {r : Option Value} (h : findIn K v x = some r) : findIn K' v x = some r := by
  cases v with
  | ref a =>
    unfold findIn at h ⊢
    dsimp only at h ⊢
    cases q : K.lookup a with
    | none =>
      rw [q] at h
      cases h
    | some o =>
      obtain ⟨oc, od, dt, sl⟩ := o
      rw [l _ _ q]
      rw [q] at h
      cases dt with
      | cls cd => exact alongIn_le l h
      | _ => cases h
  | _ => exact h
theorem typeIn_le (l : Le K K') {v t : Value} (h : typeIn K v = some t) : typeIn K' v = some t := by
  cases v with
  | ref a =>
    obtain ⟨o, h1, h2⟩ := Option.map_eq_some_iff.mp (show (K.lookup a).map (·.cls) = some t from h)
    show (K'.lookup a).map (·.cls) = some t
    rw [l _ _ h1, ← h2]
    rfl
  | _ => exact h
theorem specialIn_le (l : Le K K') {v : Value} {r : Option Value} (h : specialIn K v x = some r) : specialIn K' v x = some r := by
  obtain ⟨t, h1, h2⟩ := Option.bind_eq_some_iff.mp h
  exact Option.bind_eq_some_iff.mpr ⟨t, typeIn_le l h1, findIn_le l h2⟩
theorem takesIn_le (l : Le K K') {a : Value} {r : Bool} (h : takesIn K a = some r) : takesIn K' a = some r := by
  unfold takesIn at h ⊢
  cases q : specialIn K a "__set__" with
  | none =>
    rw [q] at h
    cases h
  | some o =>
    rw [specialIn_le l q]
    rw [q] at h
    cases o with
    | some v => exact h
    | none =>
      obtain ⟨y, h1, h2⟩ := Option.map_eq_some_iff.mp h
      exact Option.map_eq_some_iff.mpr ⟨y, specialIn_le l h1, h2⟩
theorem clsIn_le (l : Le K K') {C : Addr} {cd : ClassData} (h : clsIn K C = some cd) : clsIn K' C = some cd := by
  unfold clsIn at h ⊢
  cases q : K.lookup C with
  | none =>
    rw [q] at h
    cases h
  | some o =>
    rw [l _ _ q]
    rw [q] at h
    exact h
theorem mroIn_le (l : Le K K') {C : Addr} {b : Value} {r : Bool} (h : mroIn K C b = some r) : mroIn K' C b = some r := by
  obtain ⟨t, h1, h2⟩ := Option.bind_eq_some_iff.mp h
  exact Option.bind_eq_some_iff.mpr ⟨t, clsIn_le l h1, h2⟩
theorem subIn_le (l : Le K K') {t b : Value} {r : Bool} (h : subIn K t b = some r) : subIn K' t b = some r := by
  cases t with
  | ref C => exact mroIn_le l h
  | _ => exact h
theorem isCls_le (l : Le K K') {C : Addr} (h : (clsIn K C).isSome = true) : (clsIn K' C).isSome = true := by
  obtain ⟨cd, h1⟩ := Option.isSome_iff_exists.mp h
  rw [clsIn_le l h1]
  rfl
theorem hasDictIn_le (l : Le K K') {C : Addr} (h : hasDictIn K C = true) : hasDictIn K' C = true := by
  unfold hasDictIn at h ⊢
  cases q : clsIn K C with
  | none =>
    rw [q] at h
    cases h
  | some cd =>
    rw [clsIn_le l q]
    rw [q] at h
    exact h
theorem kitCls_le (l : Le K K') {t c : Value} {r : Bool} (h : kitCls K t c = some r) : kitCls K' t c = some r := by
  unfold kitCls at h ⊢
  cases c with
  | ref C =>
    dsimp only at h ⊢
    by_cases q : ((clsIn K C).isSome && typeIn K (.ref C) == some (.type "type")) = true
    · rw [if_pos q] at h
      obtain ⟨q1, q2⟩ := Bool.and_eq_true_iff.mp q
      have e1 := isCls_le l q1
      have e2 := typeIn_le l (beq_iff_eq.mp q2)
      rw [if_pos (by rw [e1, e2]; rfl)]
      exact subIn_le l h
    · rw [if_neg q] at h
      cases h
  | type T =>
    dsimp only at h ⊢
    by_cases q : kitMeta T = true
    · rw [if_pos q] at h ⊢
      exact subIn_le l h
    · rw [if_neg q] at h
      cases h
  | _ => exact h
theorem kitOne_le (l : Le K K') {t c : Value} {r : Bool} (h : kitOne K t c = some r) : kitOne K' t c = some r := by
  unfold kitOne at h ⊢
  by_cases q : (t == c) = true
  · rw [if_pos q] at h ⊢
    exact h
  · rw [if_neg q] at h ⊢
    exact kitCls_le l h
theorem keepIn_le (l : Le K K') {f : Value} (h : keepIn K f = true) : keepIn K' f = true := by
  cases f with
  | ref a =>
    unfold keepIn at h ⊢
    dsimp only at h ⊢
    cases q : K.lookup a with
    | none =>
      rw [q] at h
      cases h
    | some o =>
      obtain ⟨oc, od, dt, sl⟩ := o
      rw [l _ _ q]
      rw [q] at h
      cases dt with
      | func fd => rfl
      | cls cd =>
        have z := beq_iff_eq.mp (show (specialIn K (.ref a) "__call__" == some (some (.builtin "type.__call__"))) = true from h)
        show (specialIn K' (.ref a) "__call__" == some (some (.builtin "type.__call__"))) = true
        rw [specialIn_le l z]
        exact beq_self_eq_true _
      | _ => cases h
  | _ => exact h
theorem codeIn_le (l : Le K K') {cd : Value} {q : Str} (h : codeIn K cd q = true) : codeIn K' cd q = true := by
  cases cd with
  | ref c =>
    unfold codeIn at h ⊢
    dsimp only at h ⊢
    cases e : K.lookup c with
    | none =>
      rw [e] at h
      cases h
    | some o =>
      rw [l _ _ e]
      rw [e] at h
      exact h
  | _ => exact h
theorem codeHdIn_le (l : Le K K') {c P : Addr} (h : codeHdIn K c P = true) : codeHdIn K' c P = true := by
  unfold codeHdIn at h ⊢
  cases e : K.lookup c with
  | none =>
    rw [e] at h
    cases h
  | some o =>
    rw [l _ _ e]
    rw [e] at h
    exact h
theorem readsIn_le (l : Le K K') {C : Addr} {mc : Value} (h : readsIn K C mc = true) : readsIn K' C mc = true := by
  simp only [readsIn, Bool.and_eq_true, beq_iff_eq] at h ⊢
  obtain ⟨⟨⟨⟨a, b⟩, c⟩, d⟩, e⟩ := h
  refine ⟨⟨⟨⟨nsIn_le l a, typeIn_le l b⟩, findIn_le l c⟩, ?_⟩, subIn_le l e⟩
  by_cases q : onTheHeap mc = true
  · rw [if_pos q] at d ⊢
    obtain ⟨z, h1⟩ := Option.isSome_iff_exists.mp d
    rw [findIn_le l h1]
    rfl
  · rw [if_neg q]
    rfl
end
theorem frT_le {g : Addr → Option Obj} {as bs : List Addr} (h : ∀ a ∈ as, a ∈ bs) : Le (He.frT g as) (He.frT g bs) := by
  have memG : ∀ {a : Addr} {o : Obj}, g a = some o → ∀ {l : List Addr}, a ∈ l → (He.frG g l).lookup a = some o := by
    intro a o e l
    induction l with
    | nil =>
      intro z
      cases z
    | cons b r ih =>
      intro z
      unfold He.frG
      cases hb : g b with
      | none =>
        rw [List.filterMap_cons, hb]
        have nb : a ≠ b := fun q => by
          rw [q, hb] at e
          cases e
        exact ih ((List.mem_cons.mp z).resolve_left nb)
      | some ob =>
        rw [List.filterMap_cons, hb]
        show (match a == b with | true => some ob | false => (He.frG g r).lookup a) = some o
        cases q : (a == b) with
        | true =>
          have q2 : a = b := beq_iff_eq.mp q
          rw [q2, hb] at e
          exact e
        | false =>
          have nb : a ≠ b := fun z2 => by
            rw [z2, beq_self_eq_true] at q
            cases q
          exact ih ((List.mem_cons.mp z).resolve_left nb)
  have asG : ∀ {a : Addr} {o : Obj} {l : List Addr}, (He.frT g l).lookup a = some o → a ∈ l := by
    intro a o l e
    have m := He.lookup_mem e
    obtain ⟨m1, _⟩ := List.mem_filter.mp m
    unfold He.frG at m1
    obtain ⟨b, hb, e2⟩ := List.mem_filterMap.mp m1
    cases q : g b with
    | none =>
      rw [q] at e2
      cases e2
    | some u =>
      rw [q] at e2
      have e3 : (b, u) = (a, o) := Option.some.inj e2
      injection e3 with e4 _
      rw [← e4]
      exact hb
  have filt : ∀ {a : Addr} {o : Obj}, He.emptyTab o = false → ∀ {l : List (Addr × Obj)}, l.lookup a = some o → (∀ q ∈ l, q.1 = a → q.2 = o) → (l.filter fun q => !He.emptyTab q.2).lookup a = some o := by
    intro a o ht l
    induction l with
    | nil =>
      intro z _
      cases z
    | cons p r ih =>
      intro z hu
      obtain ⟨b, u⟩ := p
      have z2 : (match a == b with | true => some u | false => r.lookup a) = some o := z
      cases q : (a == b) with
      | true =>
        rw [q] at z2
        have e : u = o := Option.some.inj z2
        rw [List.filter_cons, if_pos (by rw [e]; simp [ht])]
        show (match a == b with | true => some u | false => _) = some o
        rw [q, e]
      | false =>
        rw [q] at z2
        have ih2 := ih z2 fun p hp => hu p (List.mem_cons_of_mem _ hp)
        rw [List.filter_cons]
        by_cases c : (!He.emptyTab u) = true
        · rw [if_pos c]
          show (match a == b with | true => some u | false => _) = some o
          rw [q]
          exact ih2
        · rw [if_neg c]
          exact ih2
  intro a o e
  obtain ⟨h1, h2⟩ := He.frT_mem e
  refine filt h2 (memG h1 (h a (asG e))) fun p hp ep => ?_
  obtain ⟨b, u⟩ := p
  have z := He.frG_mem hp
  have z2 : g b = some o := by
    rw [show b = a from ep]
    exact h1
  rw [z2] at z
  exact (Option.some.inj z).symm
end K00
namespace K00
open PySem PySem.Spec PyProof.Rows L2

/-! ### an error as a value -/
/-- what the top must have made of an error's class C, whose __init__ stands at fI -/
structure ErrC (K : PySem.W.Frag) (C fI : Addr) : Prop where
  ox : OexC K C
  ga : PySem.W.findIn K (.ref C) "__getattribute__" = some (some (.builtin "BaseException.__getattribute__"))
  gg : PySem.W.findIn K (.ref C) "__getattr__" = some none
  ini : PySem.W.findIn K (.ref C) "__init__" = some (some (.ref fI))
  ity : PySem.W.typeIn K (.ref fI) = some (.type "function")
  hd : PySem.W.hasDictIn K C = true
  cl : PySem.W.findIn K (.ref C) "__class__" = some (some (.builtin "object.__class__"))
  ob : PySem.W.mroIn K C (.type "object") = some true
  cg : PySem.W.specialIn K (.builtin "object.__class__") "__get__" = some (some (.builtin "getset_descriptor.__get__"))
  ct : PySem.W.takesIn K (.builtin "object.__class__") = some true
/-- of the class that lends the errors its __init__ -/
structure BaseC (K : PySem.W.Frag) (P : Addr) : Prop where
  ex : ∃ K0 : PySem.W.Frag, (∀ a o, K0.lookup a = some o → K.lookup a = some o) ∧ PySem.W.readsIn K0 P (.type "type") = true ∧ PySem.W.specialIn K0 (.ref P) "__getattribute__" = some (some (.builtin "type.__getattribute__")) ∧
    PySem.W.findCls K0 (.ref P) (.type "type") "__init__" = some (.val (.builtin "ValueError.__init__"))
/-- at a: an error of the class C that keeps fs -/
def ErAt (H : Hp) (a C : Addr) (fs : List (Str × V)) : Prop :=
  (fs = [] ∧ H a = some (exo a C none)) ∨ ∃ d, H a = some (exo a C (some d)) ∧ H d = some (exd d fs)
theorem exo_notbl {a C : Addr} {d : Option Addr} (ps : Array Value) : exo a C d ≠ .tbl ps := exo_tbl
theorem exd_notbl {d : Addr} {fs : List (Str × V)} (ps : Array Value) : exd d fs ≠ .tbl ps := fun z => by
  have z' : HO.ext _ = HO.tbl ps := z
  cases z'
theorem ErAt.ext {H H' : Hp} {a C : Addr} {fs : List (Str × V)} (h : ErAt H a C fs) (e : LamX.ExtN H H') : ErAt H' a C fs := by
  rcases h with ⟨h1, h2⟩ | ⟨d, h1, h2⟩
  · exact .inl ⟨h1, e _ _ h2 exo_notbl⟩
  · exact .inr ⟨d, e _ _ h1 exo_notbl, e _ _ h2 exd_notbl⟩

section
variable {X : Cx} {pins : List (Addr × Obj)} {σ : L2.St} {H : Hp} {s : Shared} {a C fI : Addr} {fs : List (Str × V)}
theorem ErAt.inst (I : Inv X pins σ H s) (h : ErAt H a C fs) : ∃ ox od, PySem.W.InstAt s.heap a ox C od := by
  rcases h with ⟨_, h2⟩ | ⟨d, h1, h2⟩
  · obtain ⟨t1, ho⟩ := exo_at I.hok h2
    exact ⟨_, none, ho, rfl, rfl, trivial⟩
  · obtain ⟨t1, ho⟩ := exo_at I.hok h1
    obtain ⟨mA, hns, rel⟩ := exd_at I.hok h2
    obtain ⟨od, hod, _⟩ := lookIn_ns hns
    exact ⟨_, some od, ho, rfl, rfl, hod⟩
/-- e.f -/
def tEf (K : PySem.W.Frag) (f : Str) (te : TE) : TE := fun σ H Q => te σ H fun x H1 => ∃ a C fI fs v, x = .ref a ∧ ErrC K C fI ∧
  PySem.W.findIn K (.ref C) f = some none ∧ ErAt H1 a C fs ∧ fs.lookup f = some v ∧ Q v H1
theorem pe_ef {e : Expr} {f : Str} {te : TE} {pos : Pos} (he : PE X e te) (hb : attributeBase e f X.env (eval e X.env) = eval e X.env := by rfl) :
    PE X (.Attribute e f pos) (tEf X.K f te) := by
  refine ⟨fun pins s σ H Q I h => attr_of hb (thn (he.run pins s σ H _ I h) fun u s1 hh => ?_)⟩
  obtain ⟨x, H1, I1, rx, a, C, fI, fs, v, ex, T, no, ha, hl, q⟩ := hh
  subst ex
  obtain rfl : u = Value.ref a := rx
  rcases ha with ⟨h1, _⟩ | ⟨d, h1, h2⟩
  · subst h1
    cases hl
  · obtain ⟨t1, ho⟩ := exo_at I1.hok h1
    obtain ⟨mA, hns, rel⟩ := exd_at I1.hok h2
    obtain ⟨od, hod, look⟩ := lookIn_ns hns
    obtain ⟨u, hu, ru⟩ := RelO.some_of (v := v) (o := mA f) (by rw [← hl]; exact rel f)
    have J : PySem.W.InstAt s1.heap a _ C (some od) := ⟨ho, rfl, rfl, hod⟩
    exact PySem.HandSPX.exc_get I1.kIn J T.ga T.gg T.ox.exC (PySem.W.findObj_own T.hd no rfl (by rw [look, hu])) (handed_of ru) ⟨v, H1, I1.tok _, ru, q⟩
/-- isinstance(e, c) -/
def rIsX (K : PySem.W.Frag) : List V → Hp → VK → Prop := fun xs H Q => ∃ (a C fI : Addr) (fs : List (Str × V)) (c : V) (u : Value) (b : Bool), xs = [.ref a, c] ∧
  ErrC K C fI ∧ ErAt H a C fs ∧ ClsV c u ∧ PySem.W.kitOne K (.ref C) u = some b ∧ Q (.bl b) H
theorem call_isx : CallR X (.builtin "isinstance") (rIsX X.K) := by
  intro pins s σ H xs us Q I r h
  obtain ⟨a, C, fI, fs, c, u, b, rfl, T, ha, k, e, q⟩ := h
  obtain ⟨u1, u2, rfl, r1, r2⟩ := vals2 r
  have e2 := k.eq r2
  subst e2
  obtain rfl : u1 = Value.ref a := r1
  obtain ⟨ox, od, J⟩ := ha.inst I
  have hc : (PySem.W.clsIn X.K C).isSome = true := by
    obtain ⟨cd, h1, _⟩ := PySem.W.any_some T.hd
    rw [h1]
    rfl
  exact PySem.W.kia_one (PySem.W.kitx_exc hc T.ga T.gg T.ox.exC T.cl T.cg T.ct T.ob) I.kIn J e (fun z => nomatch z) fun tk => ⟨.bl b, H, I.tok tk, rfl, q⟩
end

/-! ### P.__init__(self, ..) -/
theorem call_line {o : Expr} {m : Str} {apos pos : Pos} {args : List Expr} {env : Env} (hb : attributeBase o m env (eval o env) = eval o env)
    (hf : methodCallForm (args.length + ([] : List Keyword).length) (backTo pos (starEach args env)) (backToKw pos (keywordEach [] env)) = true) (hl : (apos.endLine == pos.line) = true) :
    eval (.Call (.Attribute o m apos) args [] pos) env = (do
      let ov ← eval o env
      standAt apos.atName
      let (f, first) ← holding [ov] (getMethod ov m (plainOf o env))
      callWith pos f first (backTo pos (starEach args env)) (backToKw pos (keywordEach [] env))) := by
  rw [arm_eval_Call, hb]
  simp only [mcall_line hf hl]
theorem pe_pinit {X : Cx} {x : Str} {P : Addr} {e : Expr} {es : List Expr} {ta : TA} {p1 p2 pos : Pos} (hg : Gl X x) (hm : X.mg x = some (.ref P)) (B : BaseC X.K P) (ha : PA X (e :: es) ta) (hl : (p2.endLine == pos.line) = true)
    (hf : methodCallForm ((e :: es).length + ([] : List Keyword).length) (backTo pos (starEach (e :: es) X.env)) (backToKw pos (keywordEach [] X.env)) = true := by rfl) (hdb : (x == ("__debug__" : Str)) = false := by decide)
    (hat : attributeBase (.Name x p1) "__init__" X.env (eval (.Name x p1) X.env) = eval (.Name x p1) X.env := by rfl)
    (he : starEach (e :: es) X.env = (false, eval e X.env) :: starEach es X.env := by rfl) (hpl : (backTo pos (starEach es X.env)).any (·.1) = false := by rfl) :
    PE X (.Call (.Attribute (.Name x p1) "__init__" p2) (e :: es) [] pos) (tVeI X.K ta) := by
  have hc := call_line (args := e :: es) hat hf hl
  refine ⟨fun pins s σ H Q I h => ?_⟩
  refine PySem.W.methodCall_KW (ld_glob I hg hm ?_ hdb) hc
  obtain ⟨K0, l0, rd, ga, at_⟩ := B.ex
  have X0 : K0.In s.heap := fun a o z => I.kIn a o (l0 a o z)
  refine PySem.W.method_cls X0 ga (PySem.W.cls_value X0 rd at_ rfl ?_)
  show wpAny _ _ (callWith pos (Value.builtin "ValueError.__init__") [] (backTo pos (starEach (e :: es) X.env)) []) _ _ _
  refine PyProof.Rows.callWith_method1 (thn (ha.run pos pins _ σ H _ (I.tok _) h) fun us s1 ⟨vs, H1, I1, r1, a, C, ws, ev, hl, T, ea, q⟩ => ?_) he hpl
  subst ev
  cases r1 with
  | @cons _ u0 _ ur ra rw' =>
    obtain rfl : u0 = Value.ref a := ra
    have hlen : ur.length ≤ sizeLine := by
      rw [← Paired.length rw', sizeLine_eq]
      omega
    exact oinit_ok T I1 ea hlen fun s' J => ⟨.non, H1, J, rfl, q⟩

/-! ### C(..), C an error's class: a new error that stays -/
/-- vs: what its __init__ gets behind self -/
def tMkE (C : Addr) (sp : Sp) (ta : TA) : TE := fun σ H Q => ta σ H fun vs H1 => vs.length ≤ 1000 ∧
  ∀ a, H1 a = none → sp (.ref a :: vs) (upd H1 a (exo a C none)) (fun v H2 => v = .non ∧ Q (.ref a) H2) E0
section
variable {X : Cx} {C fI : Addr} {k : Nat} {fd : FuncData} {ps ks : List Str} {sp : Sp} {x : Str} {p pos : Pos} {e : Expr} {es : List Expr} {kws : List Keyword} {ta : TA}
theorem run_mkE {pins : List (Addr × Obj)} {σ : L2.St} {H : Hp} {s : Shared} {Q : VK} {us all : List Value} {kw : List (Str × Value)} {vs : List V} (T : ErrC X.K C fI)
    (G : FnOk X.prog X.w X.K X.mg X.base CX0 k fI fd ps sp) (hr : Room (k + 1) X.A) (I : Inv X pins σ H s) (hb : ∀ (s' : Shared) (a : Addr), BindsTo s' fd ⟨.ref a :: us, kw⟩ (ps.zip (.ref a :: all)))
    (r : Vals vs all) (hl : us.length ≤ sizeLine) (h : ∀ a, H a = none → sp (.ref a :: vs) (upd H a (exo a C none)) (fun v H2 => v = .non ∧ Q (.ref a) H2) E0) :
    wpAny (model X.prog X.w) X.A (call (.ref C) us kw) (EP X pins σ Q) X.xe s := by
  obtain ⟨nm, q, N, bs, bm, sn, sub, ab, col, dd, k0, k1, k2, k3, k5, hC, hbm⟩ := T.ox.cls
  obtain ⟨hp, g, dr, tk, os⟩ := s
  have hsz : hp.objs.size ≤ hp.objs.size + 1 := Nat.le_succ _
  have hq := h (hp.objs.size + 1) (I.hok.fresh hsz)
  have kk : ∀ b o, hp.get? b = some o → ((hp.push (PySem.W.kdv_tup us)).push (PySem.HandSPX.excO C hp.objs.size)).get? b = some o := fun b o z =>
    Heap.get?_push_of_some _ (Heap.get?_push_of_some _ z)
  have hge : ((hp.push (PySem.W.kdv_tup us)).push (PySem.HandSPX.excO C hp.objs.size)).get? (hp.objs.size + 1) = some (PySem.HandSPX.excO C hp.objs.size) := by
    heap_get
  have I2 : Inv X pins σ (upd H (hp.objs.size + 1) (exo (hp.objs.size + 1) C none)) ⟨(hp.push (PySem.W.kdv_tup us)).push (PySem.HandSPX.excO C hp.objs.size), g, dr, tk, os⟩ :=
    I.laid (t' := tk) (a := hp.objs.size + 1) (o := exo (hp.objs.size + 1) C none) (h' := (hp.push (PySem.W.kdv_tup us)).push (PySem.HandSPX.excO C hp.objs.size)) kk hsz (exo_ok hge)
  have r2 : Vals (V.ref (hp.objs.size + 1) :: vs) (Value.ref (hp.objs.size + 1) :: all) := .cons rfl r
  refine wpAny_call (PySem.K00X.kwCall PySem.F.excBase_ValueError (fun Y => PySem.HandSPX.refsVE_contains Y bm hbm) (I.kIn _ _ hC) hl (PySem.W.looks_findIn I.kIn T.ini)
    (fun self => PySem.W.bind_fn I.kIn self T.ity) (codeAny_mono (G.run _ X.stack _ _ ⟨Value.ref (hp.objs.size + 1) :: us, kw⟩ (Value.ref (hp.objs.size + 1) :: all) _ _ E0
      (hr.make C us kw) (I2.env0.make C us kw) (hb _ _) r2 hq) fun z s' hq' => ?_))
  cases z with
  | error er => exact (show False from hq').elim
  | ok fl =>
    cases fl with
    | ret u =>
      obtain ⟨v, H2, I3, rv, ev, q3⟩ := I2.after hq'
      subst ev
      exact ⟨rv, ⟨V.ref (hp.objs.size + 1), H2, I3, rfl, q3⟩⟩
    | next => exact False.elim hq'
    | brk => exact False.elim hq'
    | cont => exact False.elim hq'
theorem pe_mkE (T : ErrC X.K C fI) (G : FnOk X.prog X.w X.K X.mg X.base CX0 k fI fd ps sp) (hr : Room (k + 1) X.A) (hg : Gl X x) (hm : X.mg x = some (.ref C)) (ha : PA X (e :: es) ta)
    (hb : ∀ (s' : Shared) (a : Addr) (us : List Value), us.length + 1 = ps.length → BindsTo s' fd ⟨.ref a :: us, []⟩ (ps.zip (.ref a :: us)))
    (hdb : (x == ("__debug__" : Str)) = false := by decide) (he : starEach (e :: es) X.env = (false, eval e X.env) :: starEach es X.env := by rfl) (hpl : (backTo pos (starEach es X.env)).any (·.1) = false := by rfl) :
    PE X (.Call (.Name x p) (e :: es) [] pos) (tMkE C sp ta) := by
  refine ⟨fun pins s σ H Q I h => ?_⟩
  refine wpAny_Call_Name_kw (ld_glob I hg hm ?_ hdb)
  refine PySem.W.callWith_K (h₀ := X.base) I.ok.mod.kin T.ox.kC (thn (ha.run pos pins s σ H _ I h) fun us s1 ⟨vs, H1, I1, r, hl, q⟩ => ⟨I1.kIn, ?_⟩) he hpl
  have e1 := Paired.length r
  have e2 : us.length + 1 = ps.length := by
    obtain ⟨a0, ha0⟩ : ∃ a0, H1 a0 = none := ⟨s1.heap.objs.size, I1.hok.fresh (Nat.le_refl _)⟩
    have e3 := G.len _ _ _ _ (q a0 ha0)
    rw [← e1]
    exact e3
  show wpAny _ _ (call (.ref C) us) _ _ _
  exact run_mkE T G hr I1 (fun s' a => hb s' a us e2) r (by rw [← e1, sizeLine_eq]; omega) q
theorem pe_mkE0 (T : ErrC X.K C fI) (G : FnOk X.prog X.w X.K X.mg X.base CX0 k fI fd ps sp) (hr : Room (k + 1) X.A) (hg : Gl X x) (hm : X.mg x = some (.ref C))
    (hb : ∀ (s' : Shared) (a : Addr), BindsTo s' fd ⟨[.ref a], []⟩ (ps.zip [.ref a])) (hdb : (x == ("__debug__" : Str)) = false := by decide) :
    PE X (.Call (.Name x p) [] [] pos) (tMkE C sp tNil) := by
  refine ⟨fun pins s σ H Q I h => ?_⟩
  refine wpAny_Call_Name_kw (ld_glob I hg hm ?_ hdb)
  exact PySem.W.callWith_K0 I.kIn T.ox.kC (run_mkE (us := []) (all := []) T G hr I hb .nil (Nat.zero_le _) h.2)
theorem pe_mkEK (T : ErrC X.K C fI) (G : FnOk X.prog X.w X.K X.mg X.base CX0 k fI fd ps sp) (hr : Room (k + 1) X.A) (hg : Gl X x) (hm : X.mg x = some (.ref C)) (hkw : PK X kws ta)
    (hb : ∀ (s' : Shared) (a : Addr) (ws : List Value), ws.length + 1 = ps.length → BindsTo s' fd ⟨[.ref a], ks.zip ws⟩ (ps.zip (.ref a :: ws)))
    (hall : (backToKw pos (keywordEach kws X.env)).all (·.1.isSome) = true := by rfl) (hks : (backToKw pos (keywordEach kws X.env)).filterMap (·.1) = ks := by rfl)
    (hdb : (x == ("__debug__" : Str)) = false := by decide)
    (hpl : ((backTo pos (starEach [] X.env)).any (·.1) || (backToKw pos (keywordEach kws X.env)).any (·.1.isNone)) = false := by rfl) :
    PE X (.Call (.Name x p) [] kws pos) (tMkE C sp ta) := by
  refine ⟨fun pins s σ H Q I h => ?_⟩
  refine wpAny_Call_Name_kw (ld_glob I hg hm ?_ hdb)
  refine PySem.W.callWith_KW0 (h₀ := X.base) I.ok.mod.kin T.ox.kC hall (thn (hkw.run pos pins s σ H _ I h) fun ws s1 ⟨vs, H1, I1, r, hl, q⟩ => ⟨I1.kIn, ?_⟩) hpl
  rw [hks]
  have e1 := Paired.length r
  have e2 : ws.length + 1 = ps.length := by
    obtain ⟨a0, ha0⟩ : ∃ a0, H1 a0 = none := ⟨s1.heap.objs.size, I1.hok.fresh (Nat.le_refl _)⟩
    have e3 := G.len _ _ _ _ (q a0 ha0)
    rw [← e1]
    exact e3
  exact run_mkE (us := []) T G hr I1 (fun s' a => hb s' a ws e2) r (Nat.zero_le _) q
end
end K00
namespace K00
open PySem PySem.Spec PyProof.Rows L2

/-! ### data with dicts in it, as repr reads it -/
def keyD : Key → PyData
  | .inl i => .int i
  | .inr x => .str x
mutual
inductive Dd (H : Hp) : V → PyData → Prop
  | non : Dd H .non .none
  | bl (b : Bool) : Dd H (.bl b) (.bool b)
  | int (i : Int) : Dd H (.int i) (.int i)
  | str (x : Str) : Dd H (.str x) (.str x)
  | lst {a : Addr} {xs : List V} {ds : List PyData} : H a = some (.lst xs) → DdAll H xs ds → Dd H (.ref a) (.list ds)
  | tup {a : Addr} {xs : List V} {ds : List PyData} : H a = some (.tup xs) → DdAll H xs ds → Dd H (.ref a) (.tuple ds)
  | dic {a : Addr} {kvs : List (Key × V)} {ds : List (PyData × PyData)} : H a = some (.dK kvs) → DdKv H kvs ds → Dd H (.ref a) (.dict ds)
inductive DdAll (H : Hp) : List V → List PyData → Prop
  | nil : DdAll H [] []
  | cons {v : V} {vs : List V} {d : PyData} {ds : List PyData} : Dd H v d → DdAll H vs ds → DdAll H (v :: vs) (d :: ds)
inductive DdKv (H : Hp) : List (Key × V) → List (PyData × PyData) → Prop
  | nil : DdKv H [] []
  | cons {k : Key} {v : V} {kvs : List (Key × V)} {d : PyData} {ds : List (PyData × PyData)} : Dd H v d → DdKv H kvs ds → DdKv H ((k, v) :: kvs) ((keyD k, d) :: ds)
end
mutual
theorem Dd.ext {H H' : Hp} (e : LamX.ExtN H H') : ∀ {d : PyData} {v : V}, Dd H v d → Dd H' v d
  | .none, _, h => by
    cases h
    exact .non
  | .bool b, _, h => by
    cases h
    exact .bl b
  | .int i, _, h => by
    cases h
    exact .int i
  | .str x, _, h => by
    cases h
    exact .str x
  | .list ds, _, h => by
    cases h with
    | lst a b => exact .lst (e _ _ a fun _ z => by cases z) (DdAll.ext e b)
  | .tuple ds, _, h => by
    cases h with
    | tup a b => exact .tup (e _ _ a fun _ z => by cases z) (DdAll.ext e b)
  | .dict ds, _, h => by
    cases h with
    | dic a b => exact .dic (e _ _ a fun _ z => by cases z) (DdKv.ext e b)
theorem DdAll.ext {H H' : Hp} (e : LamX.ExtN H H') : ∀ {ds : List PyData} {vs : List V}, DdAll H vs ds → DdAll H' vs ds
  | [], _, h => by
    cases h
    exact .nil
  | _ :: _, _, h => by
    cases h with
    | cons a b => exact .cons (Dd.ext e a) (DdAll.ext e b)
theorem DdKv.ext {H H' : Hp} (e : LamX.ExtN H H') : ∀ {ds : List (PyData × PyData)} {kvs : List (Key × V)}, DdKv H kvs ds → DdKv H' kvs ds
  | [], _, h => by
    cases h
    exact .nil
  | _ :: _, _, h => by
    cases h with
    | cons a b => exact .cons (Dd.ext e a) (DdKv.ext e b)
end
section
variable {X : Cx} {pins : List (Addr × Obj)} {σ : L2.St} {H : Hp} {s : Shared}
/-- what is tracked is not the modules' own table -/
theorem not_sys {o : Obj} (hs : X.K.lookup sysModules = some o) (I : Inv X pins σ H s) {a : Addr} {u : HO} (h : H a = some u) : a ≠ sysModules := fun z => by
  have h1 := (I.bs sysModules o (I.mod.kin _ _ hs)).2
  rw [z, h1] at h
  cases h
mutual
theorem Dd.reads {o : Obj} (hs : X.K.lookup sysModules = some o) (I : Inv X pins σ H s) : ∀ (d : PyData) (v : V) (u : Value), Dd H v d → RelV v u → ∃ as, Reads s.heap u d as ∧ sysModules ∉ as
  | .none, _, _, h, r => by
    cases h
    cases r
    exact ⟨_, Reads.none, by simp⟩
  | .bool b, _, _, h, r => by
    cases h
    cases r
    exact ⟨_, Reads.bool b, by simp⟩
  | .int i, _, _, h, r => by
    cases h
    obtain ⟨t, rfl⟩ := r
    exact ⟨_, Reads.int i t, by simp⟩
  | .str x, _, _, h, r => by
    cases h
    obtain ⟨t, rfl⟩ := r
    exact ⟨_, Reads.str x t, by simp⟩
  | .list ds, _, _, h, r => by
    cases h with
    | lst hl ha =>
      cases r
      obtain ⟨_, its, n, rv, e⟩ := I.hok _ _ hl
      obtain ⟨as, hr, hn⟩ := DdAll.reads hs I ds _ its ha rv
      refine ⟨_, Reads.list e rfl rfl hr, fun z => ?_⟩
      rcases List.mem_cons.mp z with z | z
      · exact not_sys hs I hl z.symm
      · exact hn z
  | .tuple ds, _, _, h, r => by
    cases h with
    | tup hl ha =>
      cases r
      obtain ⟨_, its, rv, o', e, c, n, e2⟩ := I.hok _ _ hl
      obtain ⟨as, hr, hn⟩ := DdAll.reads hs I ds _ its ha rv
      exact ⟨_, Reads.tuple e c e2 hr, hn⟩
  | .dict ds, _, _, h, r => by
    cases h with
    | dic hl ha =>
      cases r
      obtain ⟨_, _, vs, rv, o', es, ep, e, ex, e2, _, pr, _⟩ := I.hok _ _ hl
      obtain ⟨as, bs, h1, h2, n1, n2⟩ := DdKv.reads hs I ds _ vs es.toList ha rv pr
      refine ⟨_, Reads.dict e ex.1 e2 h1 h2, fun z => ?_⟩
      rcases List.mem_append.mp z with z | z
      · rcases List.mem_cons.mp z with z | z
        · exact not_sys hs I hl z.symm
        · exact n1 z
      · exact n2 z
theorem DdAll.reads {o : Obj} (hs : X.K.lookup sysModules = some o) (I : Inv X pins σ H s) : ∀ (ds : List PyData) (vs : List V) (us : List Value), DdAll H vs ds → Vals vs us → ∃ as, ReadsAll s.heap us ds as ∧ sysModules ∉ as
  | [], _, _, h, r => by
    cases h
    cases r
    exact ⟨_, ReadsAll.nil, by simp⟩
  | d :: ds, _, _, h, r => by
    cases h with
    | cons h1 h2 =>
      cases r with
      | cons r1 r2 =>
        obtain ⟨as, q1, n1⟩ := Dd.reads hs I d _ _ h1 r1
        obtain ⟨bs, q2, n2⟩ := DdAll.reads hs I ds _ _ h2 r2
        exact ⟨_, ReadsAll.cons q1 q2, fun z => (List.mem_append.mp z).elim n1 n2⟩
theorem DdKv.reads {o : Obj} (hs : X.K.lookup sysModules = some o) (I : Inv X pins σ H s) : ∀ (ds : List (PyData × PyData)) (kvs : List (Key × V)) (vs : List (Key × Value)) (es : List DictEntry), DdKv H kvs ds → KV kvs vs → Pairs (mixKind X.prog X.w) es vs →
    ∃ as bs, ReadsAll s.heap (es.map (·.key)) (ds.map (·.1)) as ∧ ReadsAll s.heap (es.map (·.val)) (ds.map (·.2)) bs ∧ sysModules ∉ as ∧ sysModules ∉ bs
  | [], _, _, _, h, r, p => by
    cases h
    cases r
    cases p
    exact ⟨_, _, ReadsAll.nil, ReadsAll.nil, by simp, by simp⟩
  | d :: ds, _, _, _, h, r, p => by
    cases h with
    | cons h1 h2 =>
      rename_i k v kvs d1
      cases r with
      | @cons _ q _ qs r1 r2 =>
        cases p with
        | @cons en _ es' _ p1 p2 p3 =>
          obtain ⟨r1k, r1v⟩ := r1
          obtain ⟨as, bs, q1, q2, n1, n2⟩ := DdKv.reads hs I ds _ _ _ h2 r2 p3
          obtain ⟨cs, q3, n3⟩ := Dd.reads hs I d1 _ _ h1 r1v
          have kk : keyIs k en.key = true := by
            have z : keyIs q.1 en.key = true := p1
            rw [← r1k] at z
            exact z
          obtain ⟨ks, q4, n4⟩ : ∃ ks, Reads s.heap en.key (keyD k) ks ∧ sysModules ∉ ks := by
            rcases keyIs_shape kk with ⟨i, t, e1, e2⟩ | ⟨x, t, e1, e2⟩
            · rw [e1, e2]
              exact ⟨_, Reads.int i t, by simp⟩
            · rw [e1, e2]
              exact ⟨_, Reads.str x t, by simp⟩
          refine ⟨_, _, ReadsAll.cons q4 q1, ReadsAll.cons (by show Reads s.heap en.val d1 cs; rw [p2]; exact q3) q2, fun z => (List.mem_append.mp z).elim n4 n1, fun z => (List.mem_append.mp z).elim n3 n2⟩
end
/-- repr of such data; no repr runs around -/
def rRepr : List V → Hp → VK → Prop := fun xs H Q => ∃ a d, xs = [.ref a] ∧ Dd H (.ref a) d ∧ d.showable = true ∧ d.depth ≤ 10 ∧ d.shown.length ≤ sizeLine ∧ Q (.str d.shown) H
theorem call_reprD {o : Obj} (hs : X.K.lookup sysModules = some o) (hg : X.A.guards = some []) (hu : X.A.units + 64 < cLine) : CallR X (.builtin "repr") rRepr := by
  intro pins s σ H xs us Q I r h
  obtain ⟨a, d, rfl, hd, sh, dp, sz, q⟩ := h
  obtain ⟨u, rfl, ru⟩ := Vals.one r
  obtain rfl : u = Value.ref a := ru
  obtain ⟨as, rd, ns⟩ := Dd.reads hs I d _ _ hd rfl
  exact repr_of_reads' rd sh (fun _ => ns) hg (by omega) (fun _ _ e => e) (fun h' u tk hk => ⟨.str d.shown, H, I.kept hk, ⟨u, rfl⟩, q⟩) sz
/-- two lists of the very same things are equal -/
def flatV : V → Bool
  | .non => true
  | .bl _ => true
  | .int _ => true
  | .str _ => true
  | .ref _ => true
  | _ => false
theorem eqAt_same {A : Around} {s : Shared} {v : V} {u w : Value} (h : flatV v = true) (r1 : RelV v u) (r2 : RelV v w) : SeqAt.EqAt A s u w true := by
  cases v with
  | non =>
    cases r1
    cases r2
    exact SeqAt.EqAt.same _
  | bl b =>
    cases r1
    cases r2
    exact SeqAt.EqAt.same _
  | int i =>
    obtain ⟨t, rfl⟩ := r1
    obtain ⟨t', rfl⟩ := r2
    have z := SeqAt.EqAt.int_int (A := A) (s := s) i t i t'
    rw [beq_self_eq_true] at z
    exact z
  | str x =>
    obtain ⟨t, rfl⟩ := r1
    obtain ⟨t', rfl⟩ := r2
    have z := SeqAt.EqAt.str_str (A := A) (s := s) x t x t'
    rw [beq_self_eq_true] at z
    exact z
  | ref a =>
    cases r1
    cases r2
    exact SeqAt.EqAt.same _
  | byt b => cases h
  | flt b => cases h
  | ty n => cases h
def rEqS : R2 := fun x y H Q => ∃ a b xs, x = .ref a ∧ y = .ref b ∧ H a = some (.lst xs) ∧ H b = some (.lst xs) ∧ (∀ v ∈ xs, flatV v = true) ∧ Q (.bl true) H
theorem op_eqS (hu : X.A.units + 64 < cLine) : OpR X (compareOp .Eq) rEqS := by
  intro pins s σ H x y v u Q I rx ry h
  obtain ⟨a, b, xs, rfl, rfl, ha, hb, fl, q⟩ := h
  obtain rfl : v = Value.ref a := rx
  obtain rfl : u = Value.ref b := ry
  obtain ⟨_, its, n, r1, e1⟩ := I.hok a _ ha
  obtain ⟨_, its2, n2, r2, e2⟩ := I.hok b _ hb
  have sz : its.toArray.size = its2.toArray.size := by
    rw [List.size_toArray, List.size_toArray, ← r1.length, ← r2.length]
  refine SeqAt.eq_listAt (e := fun _ => true) ⟨_, e1, rfl, n, rfl⟩ ⟨_, e2, rfl, n2, rfl⟩ sz (by omega) (fun j h1 h2 => ?_) ?_
  · have l1 : j < xs.length := by
      rw [r1.length]
      simpa using h1
    have g1 : xs[j]? = some xs[j] := List.getElem?_eq_getElem l1
    obtain ⟨u1, k1, p1⟩ := r1.get g1
    obtain ⟨u2, k2, p2⟩ := r2.get g1
    have m1 : its.toArray[j] = u1 := by
      have z : its.toArray[j]? = some u1 := by simpa using k1
      rw [Array.getElem?_eq_getElem h1] at z
      exact Option.some.inj z
    have m2 : its2.toArray[j] = u2 := by
      have z : its2.toArray[j]? = some u2 := by simpa using k2
      rw [Array.getElem?_eq_getElem h2] at z
      exact Option.some.inj z
    rw [m1, m2]
    exact eqAt_same (fl _ (List.getElem_mem l1)) p1 p2
  · refine ⟨.bl true, H, I, ?_, q⟩
    show Value.bool _ = Value.bool true
    congr 1
    simp
end
end K00
namespace K00
open PySem PySem.Spec PyProof.Rows L2 LamX NdefX

/-! ### lambdas that stay -/
/-- the object at f is the lambda F of this body -/
def LamO (f : Addr) (F : NF) (body : Expr) : HO := .ext fun h => ∃ pm ctv : Value, h.get? f = some (PySem.W.kla_obj "<lambda>" F.qual F.params body F.scope F.cl pm F.c ctv)
theorem lamO_ne {f : Addr} {F : NF} {body : Expr} (ps : Array Value) : LamO f F body ≠ .tbl ps := fun z => by
  have z' : HO.ext _ = HO.tbl ps := z
  cases z'
theorem lamO_at {P : Program} {w : World} {H : Hp} {h : Heap} {f : Addr} {F : NF} {body : Expr} (hok : HOk P w H h) (e : H f = some (LamO f F body)) :
    ∃ pm ctv : Value, h.get? f = some (PySem.W.kla_obj "<lambda>" F.qual F.params body F.scope F.cl pm F.c ctv) := by
  obtain ⟨z, _, _⟩ := hok f _ e
  exact z
section
variable {X : Cx} {pins : List (Addr × Obj)} {σ : L2.St} {H : Hp} {s : Shared}
theorem inv_lam {F : NF} {body : Expr} {o : Obj} {t' : Nat} {pm ctv : Value} (I : Inv X pins σ H s) (ho : o = PySem.W.kla_obj "<lambda>" F.qual F.params body F.scope F.cl pm F.c ctv) :
    Inv X pins σ (upd H s.heap.objs.size (LamO s.heap.objs.size F body)) { s with heap := s.heap.push o, toks := t' } := by
  subst ho
  refine I.laid (a := s.heap.objs.size) (fun b u e => Heap.get?_push_of_some _ e) (Nat.le_refl _) ?_
  have e : (s.heap.push (PySem.W.kla_obj "<lambda>" F.qual F.params body F.scope F.cl pm F.c ctv)).get? s.heap.objs.size = some (PySem.W.kla_obj "<lambda>" F.qual F.params body F.scope F.cl pm F.c ctv) :=
    Heap.get?_push_size _ rfl
  exact ⟨⟨pm, ctv, e⟩, ⟨_, e⟩, fun h1 h2 ⟨p, t, z⟩ st => ⟨p, t, st _ z⟩⟩
/-- a lambda without captured names is made; its code object is new, or its table tells it -/
theorem lam_new {T : List (Addr × Str)} {c P : Addr} {params : Arguments} {body : Expr} {scope : Scope} {pos : Pos} {E Q : Value → Shared → Prop} (I : Inv X pins σ H s) (TB : TabB X.base X.mg c P) (hcode : X.env.code = .ref c)
    (hm : (P, X.env.qual ++ "<lambda>") ∈ T) (hu : ∀ p ∈ T, p.1 = P → p.2 = X.env.qual ++ "<lambda>") (hT : Tabs T H) (hdef : defaultsOf params X.env = ([], [])) (hfree : ∀ y ∈ scope.names, y.2 ≠ .free)
    (h : ∀ (f c' : Addr) (H1 : Hp) (s' : Shared), Inv X pins σ H1 s' → ExtN H H1 → Tabs T H1 → H f = none → H1 f = some (LamO f ⟨"<lambda>", X.env.qual ++ "<lambda>", params, [], scope, cloFrom X.env.cells scope.names [], c'⟩ body) →
      H1 c' = some (CodeO c' (X.env.qual ++ "<lambda>")) → Q (.ref f) s') :
    wpAny (model X.prog X.w) X.A (eval (.Lambda params body scope pos) X.env) Q E s := by
  obtain ⟨ps, hP, ht, ha⟩ := hT _ hm
  refine PySem.W.kla_eval hdef ?_
  have bP : s.heap.BuiltinsAt X.mg P := TB.bm.keeps I.bk
  have hP' : s.heap.get? P = some { cls := .none, data := .fields ps } := I.hok P _ hP
  have hfr : ∀ y ∈ scope.names, y.2 = .free → ∃ c, X.env.cells.lookup y.1 = some c := fun y hy e => absurd e (hfree y hy)
  cases hc : codeAmong pos ps.toList with
  | none =>
    refine PySem.W.kla_makeFunction (mg := X.mg) (c := c) (P := P) (ps := ps) (closure_ok hfr) I.ok.glob (I.mod.glob.keeps I.bk) hcode (TB.code.keeps I.bk) hP' ht hc TB.gP bP fun c' ctv h' tk hx hge hlt hrec htb => ?_
    obtain ⟨c2, oc, vs, t, e2, hoc, hd, hv⟩ := hrec
    cases e2
    have nC : H c' = none := I.hok.fresh hge
    have I1 := inv_table (t' := tk) (more := #[rawInt pos.line, rawInt pos.col, .ref c']) (h' := h') I hP (fun b o hb e => hx b o hb e) htb hge ⟨oc, vs, t, hoc, hd, hv⟩
    have hE : ExtN H (upd (upd H P (.tbl (ps ++ #[rawInt pos.line, rawInt pos.col, .ref c']))) c' (CodeO c' (X.env.qual ++ "<lambda>"))) := fun b o e n => by
      rw [upd_ne (ne_of_none e nC), upd_ne (fun z => n ps (Option.some.inj (e.symm.trans (by rw [z]; exact hP))))]
      exact e
    have eL : (ps ++ #[rawInt pos.line, rawInt pos.col, .ref c']).toList = ps.toList ++ [rawInt pos.line, rawInt pos.col, .ref c'] := by simp
    have T1 : Tabs T (upd (upd H P (.tbl (ps ++ #[rawInt pos.line, rawInt pos.col, .ref c']))) c' (CodeO c' (X.env.qual ++ "<lambda>"))) := fun p hp => by
      by_cases hb : p.1 = P
      · rw [hu p hp hb, hb]
        refine ⟨_, by rw [upd_ne (ne_of_none hP nC), upd_same], by rw [eL]; exact PySem.TriplesOk_snoc _ _ _ _ ht, fun p' cv hcv => ?_⟩
        rw [eL] at hcv
        rcases among_app _ ht hcv with z | z
        · obtain ⟨c0, e1, e2⟩ := ha p' cv z
          exact ⟨c0, e1, hE _ _ e2 codeO_ne⟩
        · exact ⟨c', z, upd_same⟩
      · obtain ⟨ps', a1, a2, a3⟩ := hT p hp
        refine ⟨ps', by rw [upd_ne (ne_of_none a1 nC), upd_ne hb]; exact a1, a2, fun p' cv hcv => ?_⟩
        obtain ⟨c0, e1, e2⟩ := a3 p' cv hcv
        exact ⟨c0, e1, hE _ _ e2 codeO_ne⟩
    have nF := I1.hok.fresh (Nat.le_refl _)
    have I2 := inv_lam (F := ⟨"<lambda>", X.env.qual ++ "<lambda>", params, [], scope, cloFrom X.env.cells scope.names [], c'⟩) (body := body) (t' := tk) (pm := (X.mg "__name__").getD .none) (ctv := ctv) I1 rfl
    refine h h'.objs.size c' _ _ I2 (fun b o e n => ?_) (T1.ext fun b o e => ?_) (I.hok.fresh (Nat.le_trans hge (Nat.le_of_lt hlt))) upd_same ?_
    · have e1 := hE b o e n
      exact (upd_ne (ne_of_none e1 nF)).trans e1
    · exact (upd_ne (ne_of_none e nF)).trans e
    · exact (upd_ne (Nat.ne_of_lt hlt)).trans upd_same
  | some cv =>
    obtain ⟨c', e, hco⟩ := ha pos cv hc
    subst e
    refine PySem.W.kla_makeFunctionHit (mg := X.mg) (c := c) (P := P) (ps := ps) (closure_ok hfr) I.ok.glob (I.mod.glob.keeps I.bk) hcode (TB.code.keeps I.bk) hP' ht hc bP fun ctv h' tk hx hsz => ?_
    have I1 : Inv X pins σ H { s with heap := h', toks := tk } := I.kept hx
    have nF : H h'.objs.size = none := I1.hok.fresh (Nat.le_refl _)
    have I2 := inv_lam (F := ⟨"<lambda>", X.env.qual ++ "<lambda>", params, [], scope, cloFrom X.env.cells scope.names [], c'⟩) (body := body) (t' := tk) (pm := (X.mg "__name__").getD .none) (ctv := ctv) I1 rfl
    refine h h'.objs.size c' _ _ I2 (fun b o e n => ?_) (hT.ext fun b o e => ?_) nF upd_same ?_
    · exact (upd_ne (ne_of_none e nF)).trans e
    · exact (upd_ne (ne_of_none e nF)).trans e
    · exact (upd_ne (ne_of_none hco nF)).trans hco
end
/-- lambda ..: .., its reading -/
def tLamN (T : List (Addr × Str)) (q : Str) (mk : Addr → NF) (body : Expr) : TE := fun _ H Q => Tabs T H ∧
  ∀ (f c' : Addr) (H1 : Hp), ExtN H H1 → Tabs T H1 → H f = none → H1 f = some (LamO f (mk c') body) → H1 c' = some (CodeO c' q) → Q (.ref f) H1
theorem pe_lamN {X : Cx} {T : List (Addr × Str)} {q : Str} {c P : Addr} {params : Arguments} {body : Expr} {scope : Scope} {pos : Pos} (TB : TabB X.base X.mg c P) (hcode : X.env.code = .ref c) (hq : X.env.qual ++ "<lambda>" = q)
    (hm : (P, q) ∈ T) (hu : ∀ p ∈ T, p.1 = P → p.2 = q) (hdef : defaultsOf params X.env = ([], [])) (hfree : ∀ y ∈ scope.names, y.2 ≠ .free) (hcl : cloFrom X.env.cells scope.names [] = []) :
    PE X (.Lambda params body scope pos) (tLamN T q (fun c' => ⟨"<lambda>", q, params, [], scope, [], c'⟩) body) := by
  subst hq
  refine ⟨fun pins s σ H Q I h => ?_⟩
  obtain ⟨hT, h⟩ := h
  refine lam_new I TB hcode hm hu hT hdef hfree fun f c' H1 s' I1 eN T1 f0 f1 c1 => ?_
  rw [hcl] at f1
  exact ⟨.ref f, H1, I1, rfl, h f c' H1 eN T1 f0 f1 c1⟩
/-- what a call of the lambda F of this body at f does -/
structure LamG (P : Program) (w : World) (K : PySem.W.Frag) (mg : Str → Option Value) (base : Heap) (k : Nat) (f : Addr) (F : NF) (body : Expr) (sp : Sp) : Prop where
  run : ∀ (A : Around) (outer : List Env) (s : Shared) (H : Hp) (us : List Value) (vs : List V) (Q : VK), Room k A → Env0 P w K mg base A outer s H → H f = some (LamO f F body) → H F.c = some (CodeO F.c F.qual) →
    Vals vs us → sp vs H Q E0 → codeAny (model P w) A (.call (.ref f) ⟨us, []⟩) (CR CX0 outer P w H s Q E0) s
theorem lamg_of {P : Program} {w : World} {K : PySem.W.Frag} {mg : Str → Option Value} {base : Heap} {k : Nat} {f : Addr} {F : NF} {body : Expr} {sp : Sp} {N ps : List Str} (S : NScope N ps [] F.scope) (hcl : F.cl = [])
    (hb : ∀ (pm ctv : Value) (us : List Value), us.length = ps.length → bindArgs (PySem.W.kla_fn "<lambda>" F.qual F.params body F.scope F.cl pm (.ref F.c) ctv) ⟨us, []⟩ = pure (ps.zip us))
    (len : ∀ vs H Q E, sp vs H Q E → vs.length = ps.length)
    (hbody : ∀ (A : Around) (outer : List Env) (s : Shared) (H : Hp) (vs : List V) (Q : VK), Room k (A.deeper (envF F f s.heap.objs.size)) → sp vs H Q E0 →
      ∃ t, PE (ncx CX0 P w K mg base N F f A outer s H E0) body t ∧ t (startF N vs []) H Q) : LamG P w K mg base (k + 1) f F body sp := by
  refine ⟨fun A outer s H us vs Q hr e0 hf hc r hsp => ?_⟩
  have hl := len _ _ _ _ hsp
  have lim : s.heap.NoLimit := e0.mod.nolimit.keeps fun b o e => (e0.bs b o e).1
  obtain ⟨pm, ctv, ho⟩ := lamO_at e0.hok hf
  refine PySem.W.kla_callFunE hr.depth ho rfl S.co S.gen rfl (codeO_at e0.hok hc) ?_
  rw [hb pm ctv us (by rw [← r.length]; exact hl)]
  refine wpAny_pure (wpAny_newFunctionEnv S.nocell (fun ⟨n, _⟩ hy => S.par n (List.of_mem_zip hy).1) (fun h₁ hns hsb => ⟨lim.fresh _ hsb, ?_⟩) S.kind)
  show codeAny _ _ (.expr body (envF F f s.heap.objs.size)) _ _
  have kp : ∀ b o, s.heap.get? b = some o → h₁.get? b = some o := fun b o e => hsb.extBut b o (Nat.ne_of_lt (Heap.lt_size e)) (Heap.get?_push_of_some _ e)
  obtain ⟨t, ht, hq⟩ := hbody A outer s H vs Q (hr.deeper _) hsp
  have C : CellsAt F.cl [] [] s.heap H := by
    rw [hcl]
    refine ⟨rfl, fun y c e => ?_, fun x y c e _ => ?_, fun i y e => ?_⟩
    · cases (show (none : Option Addr) = some c from e)
    · cases (show (none : Option Addr) = some c from e)
    · cases (show (none : Option Str) = some y from by simpa using e)
  have I : Inv (ncx CX0 P w K mg base N F f A outer s H E0) [] (startF N vs []) H { s with heap := h₁, toks := s.toks + (ps.zip us).length } := inv_startN S hr.hd e0 hl r C hns kp
  refine PySem.W.kla_codeExpr (wpAny_mono (ht.run [] _ _ H Q I hq) (fun v s' hq => ?_) fun e s' hq => hq)
  obtain ⟨w', H', J, rv, q⟩ := hq
  exact ⟨w', H', J.os, J.bare, J.base, J.hok, rv, q⟩
/-- x(e, ..), x a name that holds a lambda -/
def tLamC (P : Program) (w : World) (K : PySem.W.Frag) (mg : Str → Option Value) (base : Heap) (k i : Nat) (t : TA) : TE := fun σ H Q => ∃ (f : Addr) (F : NF) (body : Expr) (sp : Sp), σ[i]? = some (some (.ref f)) ∧ H f = some (LamO f F body) ∧
  LamG P w K mg base k f F body sp ∧ t σ H fun vs H1 => H1 f = some (LamO f F body) ∧ H1 F.c = some (CodeO F.c F.qual) ∧ sp vs H1 Q E0
theorem pe_lamC {X : Cx} {k i : Nat} {x : Str} {p pos : Pos} {e : Expr} {es : List Expr} {t : TA} (hr : Room k X.A) (hN : X.N[i]? = some x) (hv : Vis X.env.scope x) (ha : PA X (e :: es) t)
    (hdb : (x == ("__debug__" : Str)) = false := by decide) (hcd : (x == ("__classdict__" : Str)) = false := by decide)
    (he : starEach (e :: es) X.env = (false, eval e X.env) :: starEach es X.env := by rfl) (hpl : (backTo pos (starEach es X.env)).any (·.1) = false := by rfl) :
    PE X (.Call (.Name x p) (e :: es) [] pos) (tLamC X.prog X.w X.K X.mg X.base k i t) := by
  refine ⟨fun pins s σ H Q I h => ?_⟩
  obtain ⟨f, F, body, sp, hs, hf, G, ht⟩ := h
  refine wpAny_Call_Name_kw (thn ((pe_var (pos := p) hN hv hdb hcd).run pins s σ H (fun v H1 => v = .ref f ∧ H1 = H) I ⟨.ref f, hs, rfl, rfl⟩) fun u s1 ⟨v, H1, I1, r1, q1⟩ => ?_)
  obtain ⟨rfl, rfl⟩ := q1
  obtain rfl : u = Value.ref f := r1
  obtain ⟨pm, ctv, o1⟩ := lamO_at I1.hok hf
  refine PySem.W.callWith_F ⟨_, _, _, _, o1⟩ (thn (ha.run pos pins s1 σ _ _ I1 ht) fun us s2 ⟨vs, H2, I2, r, g1, g2, q⟩ => ?_) he hpl
  obtain ⟨pm2, ctv2, o2⟩ := lamO_at I2.hok g1
  refine ⟨⟨_, _, _, _, o2⟩, ?_⟩
  refine wpAny_call (codeAny_mono (G.run _ X.stack _ _ us vs Q hr I2.env0 g1 g2 r q) fun z s' hq => ?_)
  cases z with
  | error er => exact (show False from hq).elim
  | ok fl =>
    cases fl with
    | ret u => exact I2.after hq
    | next => exact False.elim hq
    | brk => exact False.elim hq
    | cont => exact False.elim hq

/-! ### defs that are called where no repr runs -/
structure FnOkG (P : Program) (w : World) (K : PySem.W.Frag) (mg : Str → Option Value) (base : Heap) (k : Nat) (f : Addr) (fd : FuncData) (ps : List Str) (sp : Sp) : Prop where
  len : ∀ vs H Q E, sp vs H Q E → vs.length = ps.length
  run : ∀ (A : Around) (outer : List Env) (s : Shared) (H : Hp) (args : Args) (us : List Value) (vs : List V) (Q : VK), A.guards = some [] → Room k A → Env0 P w K mg base A outer s H → BindsTo s fd args (ps.zip us) → Vals vs us →
    sp vs H Q E0 → codeAny (model P w) A (.call (.ref f) args) (CR CX0 outer P w H s Q E0) s
theorem fng_of {P : Program} {w : World} {K : PySem.W.Frag} {mg : Str → Option Value} {base : Heap} {x qual : Str} {params : Arguments} {body : List Stmt} {scope : Scope} {f : Addr} {fd : FuncData} {k : Nat} {N ps : List Str} {sp : Sp}
    (F : FunD K x qual params body scope [] [] f fd) (S : FnScope N ps scope) (len : ∀ vs H Q E, sp vs H Q E → vs.length = ps.length)
    (hbody : ∀ (cdv : Value) (A : Around) (outer : List Env) (s : Shared) (H : Hp) (vs : List V) (Q : VK), (A.deeper (envOfC qual scope s.heap.objs.size f cdv)).guards = some [] → Room k (A.deeper (envOfC qual scope s.heap.objs.size f cdv)) → sp vs H Q E0 →
      ∃ t, PSs (cxOf CX0 P w K mg base N qual scope f cdv A outer s H E0) body t ∧ t { nx := fun _ H' => Q .non H', rt := Q } (start N vs) H) : FnOkG P w K mg base (k + 1) f fd ps sp := by
  obtain ⟨oc, od, dV, kV, doc, pm, an, cdv, ct, osl, rfl, lk, hcd, _, _⟩ := F.ex
  exact ⟨len, fun A outer s H args us vs Q hg hr e0 hb r hsp => run_ofS lk hcd S hr e0 hb r (len _ _ _ _ hsp) fun hr' => hbody cdv A outer s H vs Q hg hr' hsp⟩
theorem pe_callG {X : Cx} {k : Nat} {f : Addr} {fd : FuncData} {ps : List Str} {sp : Sp} {x : Str} {p pos : Pos} {e : Expr} {es : List Expr} {t : TA} (F : FnOkG X.prog X.w X.K X.mg X.base k f fd ps sp) (hA : X.A.guards = some []) (hr : Room k X.A)
    (hg : Gl X x) (hm : X.mg x = some (.ref f)) (hk : PySem.W.keepIn X.K (.ref f) = true) (hb : Binds X.K fd ps []) (ha : PA X (e :: es) t)
    (hdb : (x == ("__debug__" : Str)) = false := by decide) (he : starEach (e :: es) X.env = (false, eval e X.env) :: starEach es X.env := by rfl) (hpl : (backTo pos (starEach es X.env)).any (·.1) = false := by rfl) :
    PE X (.Call (.Name x p) (e :: es) [] pos) (tCall sp [] E0 t) := by
  refine ⟨fun pins s σ H Q I h => ?_⟩
  refine wpAny_Call_Name_kw (ld_glob I hg hm ?_ hdb)
  refine PySem.W.callWith_K (h₀ := X.base) I.ok.mod.kin hk (thn (ha.run pos pins s σ H _ I h) fun us s1 ⟨vs, H1, I1, r, q⟩ => ⟨I1.kIn, ?_⟩) he hpl
  have q : sp vs H1 Q E0 := by
    have z : sp (vs ++ []) H1 Q E0 := q
    rw [List.append_nil] at z
    exact z
  have hl : us.length = ps.length := by
    rw [← r.length]
    exact F.len _ _ _ _ q
  have hbb : BindsTo s1 fd ⟨us, []⟩ (ps.zip us) := by
    have z := hb s1 us I1.kIn (by rw [List.append_nil]; exact hl)
    rw [List.append_nil] at z
    exact z
  refine wpAny_call (codeAny_mono (F.run X.A X.stack s1 H1 ⟨us, []⟩ us vs Q hA hr I1.env0 hbb r q) fun z s' hq => ?_)
  cases z with
  | error er => exact (show False from hq).elim
  | ok fl =>
    cases fl with
    | ret u => exact I1.after hq
    | next => exact False.elim hq
    | brk => exact False.elim hq
    | cont => exact False.elim hq
end K00
namespace K00
open PySem PySem.Spec PyProof.Rows L2 LamX

/-! ### the end of the law: a def that is called where no repr runs, code tables beside it -/
theorem law_callG {P : Program} {w : World} {K : PySem.W.Frag} {mg mb : Str → Option Value} {k : Nat} {fa a : Addr} {cs : List (Addr × Addr)} {fd : FuncData} {x : Str} {sp : Sp} {s₁ : Shared} {vs : List Value} {ns : List Int}
    (KX : K.In s₁.heap) (hns : s₁.heap.Ns mainGlobals mg) (hb : s₁.heap.Ns builtinsNs mb) (hbb : ∀ y : Str, y ≠ "__name__" → mb y = bootBuiltins y) (hlim : s₁.heap.NoLimit) (hg : s₁.gens = #[])
    (hT : ∀ p ∈ cs, s₁.heap.get? p.2 = some { cls := .none, data := .fields #[] }) (nT : ∀ p ∈ cs, K.lookup p.2 = none) (C : ∀ p ∈ cs, PySem.W.CodeHd s₁.heap p.1 p.2)
    (hbm : ∃ (bm : Addr) (ob : Obj), mg "__builtins__" = some (.ref bm) ∧ bm ≠ builtinsNs ∧ s₁.heap.get? bm = some ob ∧ ob.cls = .type "module" ∧ ob.dict = some builtinsNs ∧ ob.data = .plain)
    (ha : s₁.heap.get? a = some { cls := .type "list", data := .seq vs.toArray }) (hi : IntsAre vs ns) (hl : ns.length ≤ sizeLine) (hr : Room k callerA)
    (F : ∀ base : Heap, K.In base → base.Ns mainGlobals mg → (∀ p ∈ cs, TabB base mg p.1 p.2) → FnOkG P w K mg base k fa fd [x] sp) (hbind : ∀ (s : Shared) (u : Value), BindsTo s fd ⟨[u], []⟩ [(x, u)])
    (hsp : ∀ H : Hp, (∀ p ∈ cs, H p.2 = some (.tbl #[])) → SqL K H a (ns.map V.int) → sp [.ref a] H (fun v _ => v = .bl true) E0) :
    codeAny (model P w) callerA (.call (.ref fa) ⟨[.ref a], []⟩) (fun r s' => r = .ok (.ret (.bool true)) ∧ OldK s₁.heap s'.heap ∧ s'.os = s₁.os ∧ AllBare s'.gens) s₁ := by
  have rv := vals_ints hi
  have lenV := hi.length
  -- the tables' addresses
  have atT : ∀ b : Addr, b ∈ cs.map (·.2) → s₁.heap.get? b = some { cls := .none, data := .fields #[] } := fun b hb => by
    obtain ⟨p, hp, e⟩ := List.mem_map.mp hb
    rw [← e]
    exact hT p hp
  have inT : ∀ p ∈ cs, p.2 ∈ cs.map (·.2) := fun p hp => List.mem_map.mpr ⟨p, hp, rfl⟩
  have aT : a ∉ cs.map (·.2) := fun z => by
    have q := atT a z
    rw [ha] at q
    have z' : Data.seq vs.toArray _ = Data.fields #[] := congrArg Obj.data (Option.some.inj q)
    cases z'
  have core : ∀ H : Hp, (∀ p ∈ cs, H p.2 = some (.tbl #[])) → (∀ b, H b = none ∨ b ∈ cs.map (·.2) ∨ ∃ o xs, H b = some (.frz o (.lst xs))) → SqL K H a (ns.map V.int) → HOk P w H s₁.heap →
      (∀ b, H b ≠ none → b = a ∨ b ∈ cs.map (·.2)) → (H a ≠ none → K.lookup a = none) →
      codeAny (model P w) callerA (.call (.ref fa) ⟨[.ref a], []⟩) (fun r s' => r = .ok (.ret (.bool true)) ∧ OldK s₁.heap s'.heap ∧ s'.os = s₁.os ∧ AllBare s'.gens) s₁ := by
    intro H hH hO hS hok hA hK
    have un_of : ∀ {b : Addr} {o : Obj}, s₁.heap.get? b = some o → (∀ vs n, o.data ≠ .seq vs n) → o.data ≠ .fields #[] → H b = none := fun {b o} e h1 h2 => by
      cases q : H b with
      | none => rfl
      | some u =>
        rcases hA b (by rw [q]; simp) with e' | e'
        · rw [e', ha] at e
          cases e
          exact (h1 _ _ rfl).elim
        · rw [atT b e'] at e
          cases e
          exact (h2 rfl).elim
    have un_dict : ∀ {b : Addr} {o : Obj} {es : Array DictEntry} {ep : Nat}, s₁.heap.get? b = some o → o.data = .dict es ep → H b = none := fun {b o es ep} e d =>
      un_of e (fun vs n z => by rw [d] at z; cases z) fun z => by rw [d] at z; cases z
    have nsK : ∀ {b : Addr} {m : Str → Option Value}, s₁.heap.Ns b m → (hidT s₁.heap H).Ns b m := fun {b m} ⟨o, es, ep, e, d, r⟩ => ⟨o, es, ep, hidT_get e (un_dict e d), d, r⟩
    have hKb : K.In (hidT s₁.heap H) := fun b o e => hidT_get (KX b o e) (by
      cases q : H b with
      | none => rfl
      | some u =>
        rcases hA b (by rw [q]; simp) with e' | e'
        · rw [e'] at e q
          rw [hK (by rw [q]; simp)] at e
          cases e
        · obtain ⟨p, hp, ep⟩ := List.mem_map.mp e'
          rw [← ep, nT p hp] at e
          cases e)
    have hM : L2.Mod K mg (hidT s₁.heap H) := ⟨hKb, nsK hns, ⟨mb, nsK hb, hbb⟩, let ⟨mc, h1, h2⟩ := hlim; ⟨mc, nsK h1, h2⟩⟩
    have TB : ∀ p ∈ cs, TabB (hidT s₁.heap H) mg p.1 p.2 := fun p hp => by
      have hTp := hT p hp
      refine ⟨?_, ?_, fun z => ?_⟩
      · obtain ⟨o, us, file, tf, flags, tg, inF, text, tt, e1, r1, r2, r3, r4, r5, r6, r7, r8, hne⟩ := C p hp
        refine ⟨o, us, file, tf, flags, tg, inF, text, tt, hidT_get e1 (un_of e1 (fun vs n z => ?_) fun z => ?_), r1, r2, r3, r4, r5, r6, r7, r8, hne⟩
        · rw [r2] at z
          cases z
        · rw [r2] at z
          cases z
          simp at r3
      · obtain ⟨bm, ob, b1, b2, b3, b4, b5, b6⟩ := hbm
        have nG : bm ≠ mainGlobals := fun q => by
          obtain ⟨o, es, ep, e, hd, _⟩ := hns
          rw [q, e] at b3
          cases b3
          rw [hd] at b6
          cases b6
        have nP : bm ≠ p.2 := fun q => by
          rw [q, hTp] at b3
          cases b3
          cases b6
        refine ⟨bm, ob, b1, b2, nG, nP, hidT_get b3 (un_of b3 (fun vs n z => ?_) fun z => ?_), b4, b5, b6⟩
        · rw [b6] at z
          cases z
        · rw [b6] at z
          cases z
      · obtain ⟨o, es, ep, e, hd, _⟩ := hns
        rw [z, hTp] at e
        cases e
        cases hd
    have e0 : Env0 P w K mg (hidT s₁.heap H) callerA [] s₁ H :=
      ⟨rfl, hM, fun b o e => of_hidT e, Nat.le_of_eq (hidT_size _ _), trivial, fun b hb => absurd (show b ∈ ([] : List Addr) from hb) (by simp), hok, .of_eq hg⟩
    refine codeAny_mono ((F _ hKb (nsK hns) TB).run callerA [] s₁ H ⟨[.ref a], []⟩ [.ref a] [.ref a] _ rfl hr e0 (hbind s₁ (.ref a)) (.cons rfl .nil) (hsp H hH hS)) fun r s' h => ?_
    cases r with
    | error e => exact (show False from h).elim
    | ok fl =>
      cases fl with
      | next => exact False.elim h
      | brk => exact False.elim h
      | cont => exact False.elim h
      | ret u =>
        obtain ⟨v, H', os, bare, un, hok', r', q⟩ := h
        have q' : v = .bl true := q
        subst q'
        obtain rfl : u = Value.bool true := r'
        have old : ∀ b o, b ∉ cs.map (·.2) → s₁.heap.get? b = some o → s'.heap.get? b = some o := fun b o nb e => by
          cases q : H b with
          | none => exact un.keep b o e q (fun z => absurd (show b ∈ ([] : List Addr) from z) (by simp)) (by simp)
          | some u =>
            rcases hO b with z | z | ⟨ob, xs, z⟩
            · rw [q] at z
              cases z
            · exact absurd z nb
            · have z2 := un.frzs b ob _ z
              obtain ⟨e1, _⟩ := hok b _ z
              obtain ⟨e2, _⟩ := hok' b _ z2
              rw [e] at e1
              cases e1
              exact e2
        have tab : ∀ p ∈ cs, ∃ m : Array Value, s'.heap.get? p.2 = some { cls := .none, data := .fields m } := fun p hp => by
          obtain ⟨m, z⟩ := un.tbls p.2 #[] (hH p hp)
          exact ⟨_, hok' p.2 _ z⟩
        refine ⟨rfl, ⟨fun b o e => ?_, fun b o e => ?_⟩, os, bare⟩
        · by_cases hb : b ∈ cs.map (·.2)
          · obtain ⟨p, hp, ep⟩ := List.mem_map.mp hb
            obtain ⟨m, hm⟩ := tab p hp
            rw [← ep] at e ⊢
            rw [hT p hp] at e
            cases e
            exact .inr (.inl ⟨((C p hp).tab (hT p hp)).isCodeTable, rfl, #[], m, rfl, by rw [Array.empty_append]; exact hm⟩)
          · exact .inl (old b o hb e)
        · by_cases hb : b ∈ cs.map (·.2)
          · obtain ⟨p, hp, ep⟩ := List.mem_map.mp hb
            obtain ⟨m, hm⟩ := tab p hp
            rw [← ep]
            exact ⟨_, hm⟩
          · exact ⟨o, old b o hb e⟩
  cases hk : K.lookup a with
  | some o =>
    have e := KX a o hk
    rw [ha] at e
    cases e
    refine core (fun b => if b ∈ cs.map (·.2) then some (.tbl #[]) else none) (fun p hp => if_pos (inT p hp)) (fun b => ?_) (.inr ⟨_, vs.toArray, _, hk, rfl, rfl, rfl, by rw [List.size_toArray, lenV]; exact hl, by simpa using rv⟩)
      (fun b u z => ?_) (fun b z => ?_) fun z => absurd (show (if a ∈ cs.map (·.2) then some (HO.tbl #[]) else none) = none from if_neg aT) z
    · by_cases hb : b ∈ cs.map (·.2)
      · exact .inr (.inl hb)
      · exact .inl (if_neg hb)
    · by_cases hb : b ∈ cs.map (·.2)
      · have z' := (if_pos hb).symm.trans z
        cases z'
        exact atT b hb
      · have z' := (if_neg hb).symm.trans z
        cases z'
    · by_cases hb : b ∈ cs.map (·.2)
      · exact .inr hb
      · exact absurd (if_neg hb) z
  | none =>
    refine core (fun b => if b = a then some (.frz { cls := .type "list", data := .seq vs.toArray } (.lst (ns.map V.int))) else if b ∈ cs.map (·.2) then some (.tbl #[]) else none)
      (fun p hp => (if_neg (show ¬ p.2 = a from fun z => aT (by rw [← z]; exact inT p hp))).trans (if_pos (inT p hp))) (fun b => ?_)
      (.inl (.inr ⟨{ cls := .type "list", data := .seq vs.toArray }, if_pos rfl⟩)) (fun b u z => ?_) (fun b z => ?_) fun _ => hk
    · by_cases hb : b = a
      · exact .inr (.inr ⟨_, _, if_pos hb⟩)
      · by_cases hb2 : b ∈ cs.map (·.2)
        · exact .inr (.inl hb2)
        · exact .inl ((if_neg hb).trans (if_neg hb2))
    · by_cases hb : b = a
      · have z' := (if_pos hb).symm.trans z
        cases z'
        rw [hb]
        exact ⟨ha, by rw [List.length_map]; exact hl, vs, _, rv, ha⟩
      · have z1 := (if_neg hb).symm.trans z
        by_cases hb2 : b ∈ cs.map (·.2)
        · have z' := (if_pos hb2).symm.trans z1
          cases z'
          exact atT b hb2
        · have z' := (if_neg hb2).symm.trans z1
          cases z'
    · by_cases hb : b = a
      · exact .inl hb
      · by_cases hb2 : b ∈ cs.map (·.2)
        · exact .inr hb2
        · exact absurd ((if_neg hb).trans (if_neg hb2)) z
/-- what is known of the law's promise at the head's heap h -/
def LawAtG (l : PySem.W.OpenLaw) (w : World) (K : PySem.W.Frag) (k n : Nat) (x : Str) (mg : Str → Option Value) (fa : Addr) (h : Heap) : Prop :=
  ∃ (fd : FuncData) (cs : List (Addr × Addr)) (sp : Sp), (∀ p ∈ cs, h.get? p.2 = some { cls := .none, data := .fields #[] }) ∧ (∀ p ∈ cs, K.lookup p.2 = none) ∧ (∀ p ∈ cs, PySem.W.CodeHd h p.1 p.2) ∧ (∀ (s : Shared) (u : Value), BindsTo s fd ⟨[u], []⟩ [(x, u)]) ∧
    (∀ (H : Hp) (a : Addr) (ns : List Int), ns.length ≤ n → (∀ p ∈ cs, H p.2 = some (.tbl #[])) → SqL K H a (ns.map V.int) → sp [.ref a] H (fun v _ => v = .bl true) E0) ∧
    ∀ base : Heap, K.In base → base.Ns mainGlobals mg → (∀ p ∈ cs, TabB base mg p.1 p.2) → FnOkG l.prog w K mg base k fa fd [x] sp
theorem walkG {l : PySem.W.OpenLaw} {n k : Nat} {q : Program} {loose : List Str} {XP : (Str → Option Value) → Heap → Prop} {YP : World → Heap → Prop} {d : DefRec} {x : Str}
    (hn : l.most = some n) (hn2 : n ≤ sizeLine) (hdf : d.params.defaults = []) (hr : Room k callerA)
    (F : ∀ (w : World) (mg : Str → Option Value) (fa : Addr) (h : Heap), YP w h → h.Ns mainGlobals mg → mg d.name = some (.ref fa) → ∃ K : PySem.W.Frag, K.In h ∧ LawAtG l w K k n x mg fa h) :
    PySem.W.WalkO q loose XP YP l.row.toRowW d [] (fun f vs => PySem.call f vs) := by
  refine Att.attach_callB hn hdf fun w s₀ s₁ mg mb fa o pm cd doc a vs ns G Y ho hd hcd hmg hobj hints hlen hbits hg => ?_
  obtain ⟨K, KX, fd, cs, sp, hT, nT, C, hb, hsp, hF⟩ := F w mg fa _ Y G.T.g hmg
  exact law_callG KX G.T.g G.T.b G.T.builtins G.T.nolimit hg hT nT C G.T.bmain hobj hints (Nat.le_trans hlen hn2) hr hF hb fun H hH hS => hsp H a ns hlen hH hS
end K00
namespace K00
open PySem PySem.Spec PyProof.Rows L2

/-! ### what the looks tell -/
theorem funD_of {K : PySem.W.Frag} {f c : Addr} {x q : Str} {params : Arguments} {body : List Stmt} {scope : Scope} (e : fnV K f = some (x, q, params, .stmts body, scope, mainGlobals, [], builtinsNs)) (h : fnB K f c q = true) :
    ∃ fd, fd.code = .ref c ∧ FunD K x q params body scope [] [] f fd := by
  obtain ⟨kp, h2⟩ := He.ba h
  unfold fnV at e
  cases hl : K.lookup f with
  | none =>
    rw [hl] at h2
    cases h2
  | some o =>
    obtain ⟨oc, od, dt, osl⟩ := o
    rw [hl] at h2 e
    cases dt with
    | func fd =>
      obtain ⟨n1, n2, n3, n4, n5, n6, n7, n8, n9, n10, n11, n12, n13, n14, n15⟩ := fd
      have e2 : (some (n1, n2, n3, n4, n5, n6, n7, n15) : He.FnW) = some (x, q, params, .stmts body, scope, mainGlobals, [], builtinsNs) := e
      simp only [Option.some.injEq, Prod.mk.injEq] at e2
      obtain ⟨h1, h2', h3, h4, h5, h6, h7, h8⟩ := e2
      subst h1 h2' h3 h4 h5 h6 h7 h8
      have h3 : ((match (generalizing := false) n13 with | .ref c' => decide (c' = c) | _ => false) && (PySem.W.codeIn K (.ref c) n2 && (match (generalizing := false) n8 with | .none => true | _ => false))) = true := h2
      obtain ⟨g1, g2⟩ := He.ba h3
      obtain ⟨g3, g4⟩ := He.ba g2
      cases n13 with
      | ref c' =>
        have ec : c' = c := of_decide_eq_true g1
        subst ec
        cases n8 with
        | none => exact ⟨_, rfl, ⟨oc, od, .none, n9, n10, n11, n12, .ref c', n14, osl, rfl, hl, g3, .inl ⟨rfl, rfl⟩, .inl rfl⟩, kp⟩
        | _ => cases g4
      | _ => cases g1
    | _ => cases h2
theorem funD_le {K K' : PySem.W.Frag} (l : Le K K') {f : Addr} {x q : Str} {params : Arguments} {body : List Stmt} {scope : Scope} {fd : FuncData} (F : FunD K x q params body scope [] [] f fd) : FunD K' x q params body scope [] [] f fd := by
  obtain ⟨⟨oc, od, dV, kV, doc, pm, an, cdv, ct, osl, rfl, lk, hcd, hD, hK⟩, kp⟩ := F
  refine ⟨⟨oc, od, dV, kV, doc, pm, an, cdv, ct, osl, rfl, l _ _ lk, codeIn_le l hcd, ?_, .inl rfl⟩, keepIn_le l kp⟩
  rcases hD with z | ⟨z, _⟩
  · exact .inl z
  · exact absurd rfl z
abbrev bmP (P : Addr) : List Value := [.ref P, .type "ValueError", .type "Exception", .type "BaseException", .type "object"]
def slB : List (Option Value) → Bool
  | [_, _, _, _, some (.builtin n), _] => decide (n = "ValueError.__new__")
  | _ => false
theorem slB_ok {l : List (Option Value)} (h : slB l = true) : ∃ k0 k1 k2 k3 k5, l = [k0, k1, k2, k3, some (.builtin "ValueError.__new__"), k5] := by
  unfold slB at h
  split at h
  · rename_i k0 k1 k2 k3 n k5
    have e : n = "ValueError.__new__" := of_decide_eq_true h
    rw [e]
    exact ⟨k0, k1, k2, k3, k5, rfl⟩
  · cases h
theorem clsB_ok {K : PySem.W.Frag} {P C : Addr} (h : clsB K P C = true) : ∃ nm q N bs sn sub ab col dd k0 k1 k2 k3 k5, K.lookup C = some (excClassObj nm q C N bs (bmP P) true sn sub ab col dd k0 k1 k2 k3 k5 "ValueError.__new__") := by
  unfold clsB at h
  cases e : K.lookup C with
  | none =>
    rw [e] at h
    cases h
  | some o =>
    obtain ⟨oc, od, dt, sl⟩ := o
    rw [e] at h
    cases oc with
    | type t =>
      cases dt with
      | cls cd =>
        obtain ⟨nm, bs, mro, ns, qn, hd, sn, sub, ab, col, del⟩ := cd
        have h1 : (decide (t = "type") && (decide (mro = ptail C P) && (hd && (!del && slB sl.toList)))) = true := h
        obtain ⟨a1, h2⟩ := He.ba h1
        obtain ⟨a2, h3⟩ := He.ba h2
        obtain ⟨a3, h4⟩ := He.ba h3
        obtain ⟨a4, h5⟩ := He.ba h4
        have b1 : t = "type" := of_decide_eq_true a1
        have b2 : mro = ptail C P := of_decide_eq_true a2
        have b4 : del = false := by
          cases del with
          | false => rfl
          | true => cases a4
        obtain ⟨k0, k1, k2, k3, k5, e5⟩ := slB_ok h5
        have hs : sl = sl.toList.toArray := by simp
        rw [e5] at hs
        subst b1 b2 b4 hs
        rw [a3]
        exact ⟨nm, qn, ns, bs, sn, sub, ab, col, od, k0, k1, k2, k3, k5, rfl⟩
      | _ => cases h
    | _ => cases dt <;> cases h
theorem clsB_le {K K' : PySem.W.Frag} (l : Le K K') {P C : Addr} (h : clsB K P C = true) : clsB K' P C = true := by
  unfold clsB at h ⊢
  cases e : K.lookup C with
  | none =>
    rw [e] at h
    cases h
  | some o =>
    rw [l _ _ e]
    rw [e] at h
    exact h
theorem refs_bm (P : Addr) : PySem.HandSPX.refsVE (bmP P) = true := by
  show (PySem.HandSPX.veTail == PySem.HandSPX.veTail) = true
  decide +kernel
theorem has_ty (C P : Addr) (T : String) : (Value.ref C :: bmP P).contains (.type T) = PySem.HandSPX.veTail.contains (.type T) :=
  PySem.HandSPX.refsVE_contains T (.ref C :: bmP P) (refs_bm P)
section
variable {K : PySem.W.Frag} {P C : Addr}
theorem cls_in (h : clsB K P C = true) : ∃ cd, PySem.W.clsIn K C = some cd ∧ cd.mro = .ref C :: bmP P ∧ cd.hasDict = true := by
  obtain ⟨nm, q, N, bs, sn, sub, ab, col, dd, k0, k1, k2, k3, k5, e⟩ := clsB_ok h
  refine ⟨⟨nm, bs, .ref C :: bmP P, N, q, true, sn, sub, ab, col, false⟩, ?_, rfl, rfl⟩
  unfold PySem.W.clsIn
  rw [e]
theorem mro_in (h : clsB K P C = true) (b : Value) : PySem.W.mroIn K C b = some ((Value.ref C :: bmP P).contains b) := by
  obtain ⟨cd, e1, e2, _⟩ := cls_in h
  unfold PySem.W.mroIn
  rw [e1, Option.bind_some, e2, if_neg (by simp)]
theorem ty_in (h : clsB K P C = true) : PySem.W.typeIn K (.ref C) = some (.type "type") := by
  obtain ⟨nm, q, N, bs, sn, sub, ab, col, dd, k0, k1, k2, k3, k5, e⟩ := clsB_ok h
  show (K.lookup C).map (·.cls) = _
  rw [e]
  rfl
theorem kit_ty (h : clsB K P C = true) (T : String) (hm : PySem.W.kitMeta T = true) : PySem.W.kitOne K (.ref C) (.type T) = some (PySem.HandSPX.veTail.contains (.type T)) := by
  unfold PySem.W.kitOne
  rw [if_neg (fun z => by have z2 := beq_iff_eq.mp z; cases z2), ← has_ty C P T, ← mro_in h]
  unfold PySem.W.kitCls
  dsimp only
  rw [if_pos hm]
  rfl
theorem kit_ref {C' : Addr} (h : clsB K P C = true) (hc : PySem.W.isClsIn K C' = true) (ht : PySem.W.typeIn K (.ref C') = some (.type "type")) :
    PySem.W.kitOne K (.ref C) (.ref C') = some (decide (C = C') || decide (C' = P)) := by
  unfold PySem.W.kitOne
  by_cases e : C = C'
  · subst e
    rw [if_pos (by simp)]
    simp
  · rw [if_neg (by simpa using e)]
    unfold PySem.W.kitCls
    dsimp only
    have hc' : (PySem.W.clsIn K C').isSome = true := hc
    rw [if_pos (by rw [hc', ht]; decide)]
    show PySem.W.mroIn K C (.ref C') = _
    rw [mro_in h]
    have e2 : ¬ C' = C := fun z => e z.symm
    by_cases e3 : C' = P
    · simp [List.contains_cons, e, e2, e3]
    · simp [List.contains_cons, e, e2, e3]
theorem cls_is (h : clsB K P C = true) : PySem.W.isClsIn K C = true := by
  obtain ⟨cd, e1, _⟩ := cls_in h
  show (PySem.W.clsIn K C).isSome = true
  rw [e1]
  rfl
end
end K00
namespace K00
open PySem PySem.Spec PyProof.Rows L2

/-! ### what the end leans on -/
structure Fx (K : PySem.W.Frag) (P : Addr) (cA iA fA dA tA : Str → Addr) : Prop where
  base : BaseC K P
  gloP : PySem.W.nsIn K mainGlobals "PageError" = some (some (.ref P))
  gloE : ∀ c ∈ ers, PySem.W.nsIn K mainGlobals c.2.1 = some (some (.ref (cA c.2.1)))
  gloD : ∀ d ∈ dfs, PySem.W.nsIn K mainGlobals d.2 = some (some (.ref (fA d.2)))
  free : ∀ x ∈ freeN, PySem.W.nsIn K mainGlobals x = some none
  err : ∀ c ∈ ers, ErrC K (cA c.2.1) (iA c.2.1) ∧ clsB K P (cA c.2.1) = true ∧ ∀ x ∈ c.2.2, PySem.W.findIn K (.ref (cA c.2.1)) x = some none
  ini : ∀ c ∈ ers, ∃ fd, FunD K "__init__" (c.2.1 ++ ".__init__") (defArgs (sIni c.1)) (defBody (sIni c.1)) (defScope (sIni c.1)) [] [] (iA c.2.1) fd
  dfn : ∀ d ∈ dfs, ∃ fd, fd.code = .ref (dA d.2) ∧ FunD K d.2 d.2 (defArgs (top d.1)) (defBody (top d.1)) (defScope (top d.1)) [] [] (fA d.2) fd
  tabH : ∀ x ∈ tabN, PySem.W.codeHdIn K (dA x) (tA x) = true
  tabO : ∀ x ∈ tabN, K.lookup (tA x) = none
  nd : (P :: ers.map fun c => cA c.2.1).Nodup
  pc : PySem.W.isClsIn K P = true
  pt : PySem.W.typeIn K (.ref P) = some (.type "type")
  sys : ∃ o, K.lookup sysModules = some o
  tabNe : tA "_law_made_a" ≠ tA "_law_made_b"
def asAll (g : Addr → Option Obj) (CP NP : Addr) : List Addr := [sysModules, cStatics, mainGlobals, CP, NP] ++ (dfs.flatMap (defAs g) ++ ers.flatMap (errAs g CP NP))
theorem fx_of {h : Heap} (e : obsK h.get? = valK) : ∃ (K : PySem.W.Frag) (P : Addr) (cA iA fA dA tA : Str → Addr), K.In h ∧ Fx K P cA iA fA dA tA ∧ ∀ x ∈ tabN, h.get? (tA x) = some { cls := .none, data := .fields #[] } := by
  generalize hg : h.get? = g at e
  simp only [obsK, HandSHeadRun.frNat_eq] at e
  generalize hP : gA g "PageError" = CP at e
  generalize hN : nsA g CP = NP at e
  have e1 : someL g CP NP = true := congrArg (fun z : AlK => z.1) e
  have e2 : (dfs.map fun d => defL g d) = dfs.map defV := congrArg (fun z : AlK => z.2.1) e
  have e3 : (ers.map fun c => errL g CP NP c) = ers.map errV := congrArg (fun z : AlK => z.2.2) e
  have e4 : ∀ d ∈ dfs, defL g d = defV d := List.map_inj_left.mp e2
  have e5 : ∀ c ∈ ers, errL g CP NP c = errV c := List.map_inj_left.mp e3
  obtain ⟨s1, r⟩ := He.ba e1
  obtain ⟨s2, r⟩ := He.ba r
  obtain ⟨s3, r⟩ := He.ba r
  obtain ⟨s4, r⟩ := He.ba r
  obtain ⟨s5, r⟩ := He.ba r
  obtain ⟨s6, r⟩ := He.ba r
  obtain ⟨s7, r⟩ := He.ba r
  obtain ⟨s8, s9⟩ := He.ba r
  obtain ⟨b1, r⟩ := He.ba s1
  obtain ⟨b2, r⟩ := He.ba r
  obtain ⟨b3, r⟩ := He.ba r
  obtain ⟨b4, r⟩ := He.ba r
  obtain ⟨b5, r⟩ := He.ba r
  obtain ⟨b6, b7⟩ := He.ba r
  have lM : Le (He.frT g [mainGlobals]) (He.frT g (asAll g CP NP)) := frT_le fun a ha => by
    rw [List.mem_singleton] at ha
    rw [ha]
    simp [asAll]
  have lB : Le (He.frT g [CP, NP, cStatics]) (He.frT g (asAll g CP NP)) := frT_le fun a ha => by
    simp only [List.mem_cons, List.not_mem_nil, or_false] at ha
    simp only [asAll, List.mem_append, List.mem_cons]
    rcases ha with z | z | z <;> simp [z]
  have lE : ∀ c ∈ ers, Le (He.frT g (errAs g CP NP c)) (He.frT g (asAll g CP NP)) := fun c hc => frT_le fun a ha =>
    List.mem_append.mpr (.inr (List.mem_append.mpr (.inr (List.mem_flatMap.mpr ⟨c, hc, ha⟩))))
  have lD : ∀ d ∈ dfs, Le (He.frT g (defAs g d)) (He.frT g (asAll g CP NP)) := fun d hd => frT_le fun a ha =>
    List.mem_append.mpr (.inr (List.mem_append.mpr (.inl (List.mem_flatMap.mpr ⟨d, hd, ha⟩))))
  have tabs : ∀ x ∈ tabN, PySem.W.codeHdIn (He.frT g [cdA g (gA g x)]) (cdA g (gA g x)) (tbA g (cdA g (gA g x))) = true ∧ ∃ o, g (tbA g (cdA g (gA g x))) = some o ∧ He.emptyTab o = true := fun x hx => by
    have z := List.all_eq_true.mp s6 x hx
    unfold tabL at z
    simp only [HandSHeadRun.frNat_eq] at z
    obtain ⟨z1, z2⟩ := He.ba z
    refine ⟨z1, ?_⟩
    cases q : g (tbA g (cdA g (gA g x))) with
    | none =>
      rw [q] at z2
      cases z2
    | some o =>
      rw [q] at z2
      exact ⟨o, rfl, z2⟩
  have cdP : ∀ x ∈ tabN, ∃ d ∈ dfs, d.2 = x := by decide +kernel
  refine ⟨He.frT g (asAll g CP NP), CP, gA g, fun x => niA g (nsA g (gA g x)) "__init__", gA g, fun x => cdA g (gA g x), fun x => tbA g (cdA g (gA g x)), by rw [← hg]; exact He.frT_in, ?_, fun x hx => ?_⟩
  · refine ⟨⟨_, lB, b1, He.eqO_ok b2, ?_⟩, nsIn_le lM ?_, fun c hc => nsIn_le lM (He.eqO_ok (List.all_eq_true.mp s3 c hc)), fun d hd => nsIn_le lM (He.eqO_ok (List.all_eq_true.mp s4 d hd)),
      fun x hx => nsIn_le lM (He.eqO_ok (List.all_eq_true.mp s5 x hx)), fun c hc => ?_, fun c hc => ?_, fun d hd => ?_, fun x hx => ?_, fun x hx => ?_, of_decide_eq_true s7, isCls_le lB b6, typeIn_le lB (of_decide_eq_true b7), ?_, by simpa using s9⟩
    · split at b3
      · rename_i n q
        rw [q, show n = "ValueError.__init__" from of_decide_eq_true b3]
      · cases b3
    · have z := He.eqO_ok s2
      rw [hP] at z
      exact z
    · have z := e5 c hc
      unfold errL errV at z
      simp only [HandSHeadRun.frNat_eq, Prod.mk.injEq] at z
      obtain ⟨z1, _⟩ := z
      obtain ⟨z1, _⟩ := He.ba z1
      obtain ⟨c1, r⟩ := He.ba z1
      obtain ⟨c2, r⟩ := He.ba r
      obtain ⟨c3, r⟩ := He.ba r
      obtain ⟨c4, r⟩ := He.ba r
      obtain ⟨c5, r⟩ := He.ba r
      obtain ⟨c6, r⟩ := He.ba r
      obtain ⟨c7, r⟩ := He.ba r
      obtain ⟨c8, c9⟩ := He.ba r
      have l := lE c hc
      have cb := clsB_le l c1
      obtain ⟨nm, q, N, bs, sn, sub, ab, col, dd, k0, k1, k2, k3, k5, el⟩ := clsB_ok cb
      have exC : PySem.W.subIn (He.frT g (asAll g CP NP)) (.ref (gA g c.2.1)) (.type "BaseException") = some true := by
        show PySem.W.mroIn _ _ _ = _
        rw [mro_in cb, has_ty]
        decide +kernel
      have obj : PySem.W.mroIn (He.frT g (asAll g CP NP)) (gA g c.2.1) (.type "object") = some true := by
        rw [mro_in cb, has_ty]
        decide +kernel
      have hdi : PySem.W.hasDictIn (He.frT g (asAll g CP NP)) (gA g c.2.1) = true := by
        obtain ⟨cd, h1, _, h3⟩ := cls_in cb
        unfold PySem.W.hasDictIn
        rw [h1]
        exact h3
      refine ⟨⟨⟨⟨nm, q, N, bs, bmP CP, sn, sub, ab, col, dd, k0, k1, k2, k3, k5, el, refs_bm CP⟩, findIn_le l (He.eqO_ok c2), exC, ty_in cb, keepIn_le l c7⟩, findIn_le l (He.eqO_ok c3), findIn_le l (He.eqO_ok c4), findIn_le l (He.eqO_ok c5),
        typeIn_le l (of_decide_eq_true c6), hdi, findIn_le l (He.eqO_ok c8), obj, specialIn_le lB (of_decide_eq_true b4), takesIn_le lB (of_decide_eq_true b5)⟩, cb, fun x hx => findIn_le l (He.eqO_ok (List.all_eq_true.mp c9 x hx))⟩
    · have z := e5 c hc
      unfold errL errV at z
      simp only [HandSHeadRun.frNat_eq, Prod.mk.injEq] at z
      obtain ⟨z1, z2⟩ := z
      obtain ⟨_, z3⟩ := He.ba z1
      obtain ⟨fd, _, F⟩ := funD_of z2 z3
      exact ⟨fd, funD_le (lE c hc) F⟩
    · have z := e4 d hd
      unfold defL defV at z
      simp only [HandSHeadRun.frNat_eq, Prod.mk.injEq] at z
      obtain ⟨z1, z2⟩ := z
      obtain ⟨fd, hcd, F⟩ := funD_of z2 z1
      exact ⟨fd, hcd, funD_le (lD d hd) F⟩
    · obtain ⟨d, hd, ed⟩ := cdP x hx
      refine codeHdIn_le (fun a o z => lD d hd a o ?_) (tabs x hx).1
      refine frT_le (fun b hb => ?_) a o z
      rw [List.mem_singleton] at hb
      rw [hb]
      simp [defAs, ed]
    · obtain ⟨_, o, q, z⟩ := tabs x hx
      exact He.frT_none q z
    · obtain ⟨o, q, z⟩ : ∃ o, g sysModules = some o ∧ He.emptyTab o = false := by
        cases q : g sysModules with
        | none =>
          rw [q] at s8
          cases s8
        | some o =>
          rw [q] at s8
          refine ⟨o, rfl, ?_⟩
          have z : (!He.emptyTab o) = true := s8
          cases w : He.emptyTab o with
          | false => rfl
          | true =>
            rw [w] at z
            cases z
      refine ⟨o, ?_⟩
      have l2 : Le (He.frT g [sysModules]) (He.frT g (asAll g CP NP)) := frT_le fun a ha => by
        rw [List.mem_singleton] at ha
        rw [ha]
        simp [asAll]
      refine l2 _ _ ?_
      unfold He.frT He.frG
      rw [List.filterMap_cons, q]
      simp [z, List.lookup]
  · obtain ⟨_, o, q, z⟩ := tabs x hx
    show g (tbA g (cdA g (gA g x))) = _
    rw [q, He.emptyTab_eq z]
def hk : PySem.W.Hook where
  α := AlK
  obs := fun s => obsK s.heap.get?
  val := fun _ => valK
  says := fun _ h => ∃ (K : PySem.W.Frag) (P : Addr) (cA iA fA dA tA : Str → Addr), K.In h ∧ Fx K P cA iA fA dA tA ∧ ∀ x ∈ tabN, h.get? (tA x) = some { cls := .none, data := .fields #[] }
  of := fun _ _ e => fx_of e
  keeps := fun _ _ _ ⟨K, P, cA, iA, fA, dA, tA, hK, F, hT⟩ k => ⟨K, P, cA, iA, fA, dA, tA, PySem.W.Frag.In.keeps hK k, F, fun x hx => k _ _ (hT x hx)⟩
theorem ob_eq (s : PySem.W.SharedT) : ob s = hk.obs s.abs := by
  have e : HandSHeadRun.getT s = s.abs.heap.get? := funext (HandSHeadRun.getT_eq s)
  show obsK (HandSHeadRun.getT s) = obsK s.abs.heap.get?
  rw [e]
end K00
namespace K00
open PySem PySem.Spec PyProof.Rows L2
set_option maxHeartbeats 0 in
theorem run (w : World) : HandSHeadRun.RunEq R (PySem.W.view R.prog [67]) hk ob 20000 loose w := by
  intro os
  kernel_rfl
end K00
namespace K00
open PySem PySem.Spec PyProof.Rows L2 LamX

/-! ### an error's __init__ -/
def spIni (C : Addr) (fs : List Str) : Sp := fun vs H Q _ => ∃ (a : Addr) (ws : List V), vs = .ref a :: ws ∧ ws.length = fs.length ∧ H a = some (exo a C none) ∧
  ∀ H' : Hp, (∀ b o, b ≠ a → H b = some o → H' b = some o) → ErAt H' a C (fs.zip ws).reverse → Q .non H'
/-- the one form that all of them have -/
abbrev iniCall (t : Str) (p1 p2 p3 p4 p5 p6 : Pos) : Stmt := .Expr (.Call (.Attribute (.Name "PageError" p1) "__init__" p2) [.Name "self" p3, .Constant (.str t) 0 p4] [] p5) p6
abbrev iniSet (x : Str) (p1 p2 p3 p4 : Pos) : Stmt := .Assign [.Attribute (.Name "self" p1) x p2] (.Name x p3) p4
section
variable {P : Program} {w : World} {K : PySem.W.Frag} {mg : Str → Option Value} {base : Heap} {C CP f : Addr} {fd : FuncData} {q : Str} {params : Arguments} {scope : Scope} {t : Str}
variable {p1 p2 p3 p4 p5 p6 q1 q2 q3 q4 r1 r2 r3 r4 : Pos}
theorem pe_call0i {X : Cx} {t : Str} (gl : Gl X ("PageError" : Str)) (hm : X.mg ("PageError" : Str) = some (.ref CP)) (B : BaseC X.K CP) (h0 : X.N[0]? = some ("self" : Str)) (hs : Vis X.env.scope ("self" : Str)) (hl : (p2.endLine == p5.line) = true) :
    PS X (iniCall t p1 p2 p3 p4 p5 p6) (tDrop (tVeI X.K (tCons (tVar 0) (tCons (tC (.str t)) tNil)))) :=
  ps_expr (pe_pinit gl hm B (pa_cons (pe_var h0 hs) (pa_cons pe_str pa_nil)) hl)
theorem ok_ini0 (F : FunD K "__init__" q params [iniCall t p1 p2 p3 p4 p5 p6] scope [] [] f fd) (S : FnScope ["self"] ["self"] scope) (hg : scope.names.lookup ("PageError" : Str) = some .globalImplicit) (hs : scope.names.lookup ("self" : Str) = some .local)
    (hL : (p2.endLine == p5.line) = true) (T : OexC K C) (B : BaseC K CP) (gP : mg ("PageError" : Str) = some (.ref CP)) : FnOk P w K mg base CX0 1 f fd ["self"] (spIni C []) := by
  refine F.ok S (fun vs H Q E h => ?_) (fun cdv A outer s H vs Q E hr h => ?_)
  · obtain ⟨a, ws, rfl, hl, _⟩ := h
    simpa using hl
  · obtain ⟨a, ws, rfl, hl, ha, k⟩ := h
    obtain rfl : ws = [] := List.length_eq_zero_iff.mp hl
    refine ⟨_, pss_one (pe_call0i hg gP B rfl (.inl hs) hL), ?_⟩
    refine ⟨_, rfl, a, C, [.str t], rfl, by show 1 ≤ 1000; decide, T, ha, ?_⟩
    exact k H (fun b o _ e => e) (.inl ⟨rfl, ha⟩)
theorem ok_ini1 {x : Str} (F : FunD K "__init__" q params [iniCall t p1 p2 p3 p4 p5 p6, iniSet x q1 q2 q3 q4] scope [] [] f fd) (S : FnScope ["self", x] ["self", x] scope) (hg : scope.names.lookup ("PageError" : Str) = some .globalImplicit)
    (hs : scope.names.lookup ("self" : Str) = some .local) (hx : scope.names.lookup x = some .local) (d1 : (x == ("__debug__" : Str)) = false) (d2 : (x == ("__classdict__" : Str)) = false)
    (hL : (p2.endLine == p5.line) = true) (T : OexC K C) (B : BaseC K CP) (gP : mg ("PageError" : Str) = some (.ref CP)) (nx : PySem.W.findIn K (.ref C) x = some none) : FnOk P w K mg base CX0 1 f fd ["self", x] (spIni C [x]) := by
  refine F.ok S (fun vs H Q E h => ?_) (fun cdv A outer s H vs Q E hr h => ?_)
  · obtain ⟨a, ws, rfl, hl, _⟩ := h
    simpa using hl
  · obtain ⟨a, ws, rfl, hl, ha, k⟩ := h
    obtain ⟨v, rfl⟩ : ∃ v, ws = [v] := List.length_eq_one_iff.mp hl
    refine ⟨_, pss_cons (pe_call0i hg gP B rfl (.inl hs) hL) (pss_one (ps_ost (pe_var (i := 0) rfl (.inl hs)) (pe_var (i := 1) rfl (.inl hx) d1 d2))), ?_⟩
    refine ⟨_, rfl, a, C, [.str t], rfl, by show 1 ≤ 1000; decide, T, ha, ?_⟩
    refine ⟨v, rfl, _, rfl, a, C, rfl, T, nx, .inl ⟨ha, fun dx n ne => ?_⟩⟩
    refine k _ (fun b o hb e => ?_) (.inr ⟨dx, upd_same, ?_⟩)
    · rw [upd_ne hb, upd_ne (ne_of_none e n)]
      exact e
    · rw [upd_ne ne, upd_same]
      rfl
theorem ok_ini2 {x y : Str} (F : FunD K "__init__" q params [iniCall t p1 p2 p3 p4 p5 p6, iniSet x q1 q2 q3 q4, iniSet y r1 r2 r3 r4] scope [] [] f fd) (S : FnScope ["self", x, y] ["self", x, y] scope) (hg : scope.names.lookup ("PageError" : Str) = some .globalImplicit)
    (hs : scope.names.lookup ("self" : Str) = some .local) (hx : scope.names.lookup x = some .local) (hy : scope.names.lookup y = some .local) (d1 : (x == ("__debug__" : Str)) = false) (d2 : (x == ("__classdict__" : Str)) = false)
    (d3 : (y == ("__debug__" : Str)) = false) (d4 : (y == ("__classdict__" : Str)) = false) (hL : (p2.endLine == p5.line) = true) (T : OexC K C) (B : BaseC K CP) (gP : mg ("PageError" : Str) = some (.ref CP)) (nx : PySem.W.findIn K (.ref C) x = some none)
    (ny : PySem.W.findIn K (.ref C) y = some none) : FnOk P w K mg base CX0 1 f fd ["self", x, y] (spIni C [x, y]) := by
  refine F.ok S (fun vs H Q E h => ?_) (fun cdv A outer s H vs Q E hr h => ?_)
  · obtain ⟨a, ws, rfl, hl, _⟩ := h
    simpa using hl
  · obtain ⟨a, ws, rfl, hl, ha, k⟩ := h
    obtain ⟨v, u, rfl⟩ : ∃ v u, ws = [v, u] := by
      cases ws with
      | nil => cases hl
      | cons v r =>
        cases r with
        | nil => cases hl
        | cons u r2 =>
          cases r2 with
          | nil => exact ⟨v, u, rfl⟩
          | cons z r3 => simp at hl
    refine ⟨_, pss_cons (pe_call0i hg gP B rfl (.inl hs) hL) (pss_cons (ps_ost (pe_var (i := 0) rfl (.inl hs)) (pe_var (i := 1) rfl (.inl hx) d1 d2)) (pss_one (ps_ost (pe_var (i := 0) rfl (.inl hs)) (pe_var (i := 2) rfl (.inl hy) d3 d4)))), ?_⟩
    refine ⟨_, rfl, a, C, [.str t], rfl, by show 1 ≤ 1000; decide, T, ha, ?_⟩
    refine ⟨v, rfl, _, rfl, a, C, rfl, T, nx, .inl ⟨ha, fun dx n ne => ?_⟩⟩
    refine ⟨u, rfl, _, rfl, a, C, rfl, T, ny, .inr ⟨dx, [(x, v)], upd_same, ?_, by show 1 ≤ 900; decide, ?_⟩⟩
    · rw [upd_ne ne, upd_same]
    · refine k _ (fun b o hb e => ?_) (.inr ⟨dx, ?_, upd_same⟩)
      · have nb := ne_of_none e n
        rw [upd_ne nb, upd_ne hb, upd_ne nb]
        exact e
      · rw [upd_ne ne.symm, upd_same]
end
/-! ### each error's own -/
/-- the form of c's __init__ -/
def IniSh (c : Er) : Prop := match c.2.2 with
  | [] => ∃ (t : Str) (p1 p2 p3 p4 p5 p6 : Pos), (p2.endLine == p5.line) = true ∧ defBody (sIni c.1) = [iniCall t p1 p2 p3 p4 p5 p6]
  | [x] => ∃ (t : Str) (p1 p2 p3 p4 p5 p6 q1 q2 q3 q4 : Pos), (p2.endLine == p5.line) = true ∧ defBody (sIni c.1) = [iniCall t p1 p2 p3 p4 p5 p6, iniSet x q1 q2 q3 q4]
  | [x, y] => ∃ (t : Str) (p1 p2 p3 p4 p5 p6 q1 q2 q3 q4 r1 r2 r3 r4 : Pos), (p2.endLine == p5.line) = true ∧ defBody (sIni c.1) = [iniCall t p1 p2 p3 p4 p5 p6, iniSet x q1 q2 q3 q4, iniSet y r1 r2 r3 r4]
  | _ => False
theorem iniA : ∀ c ∈ ersA, IniSh c := by
  unfold ersA
  repeat' (first | exact fun _ z => absurd z List.not_mem_nil | refine List.forall_mem_cons.mpr ⟨?_, ?_⟩)
  all_goals exact ⟨_, _, _, _, _, _, _, _, _, _, _, rfl, rfl⟩
theorem iniB : ∀ c ∈ ersB, IniSh c := by
  unfold ersB
  repeat' (first | exact fun _ z => absurd z List.not_mem_nil | refine List.forall_mem_cons.mpr ⟨?_, ?_⟩)
  all_goals first
    | exact ⟨_, _, _, _, _, _, _, _, _, _, _, rfl, rfl⟩
    | exact ⟨_, _, _, _, _, _, _, rfl, rfl⟩
    | exact ⟨_, _, _, _, _, _, _, _, _, _, _, _, _, _, _, rfl, rfl⟩
theorem iniSh : ∀ c ∈ ers, IniSh c := fun c hc => (List.mem_append.mp hc).elim (iniA c) (iniB c)
/-- its names -/
def scB (N : List Str) (sc : Scope) : Bool := decide (sc.kind = .function) && (!sc.isCoroutine && (!sc.isGenerator && (decide N.Nodup && ((N.all fun x => decide (sc.names.lookup x = some .local)) && (sc.names.all fun y => !decide (y.2 = .free))))))
theorem scB_ok {N : List Str} {sc : Scope} (h : scB N sc = true) : FnScope N N sc ∧ ∀ x ∈ N, sc.names.lookup x = some .local := by
  obtain ⟨h1, h⟩ := He.ba h
  obtain ⟨h2, h⟩ := He.ba h
  obtain ⟨h3, h⟩ := He.ba h
  obtain ⟨h4, h⟩ := He.ba h
  obtain ⟨h5, h6⟩ := He.ba h
  have all : ∀ x ∈ N, sc.names.lookup x = some .local := fun x hx => of_decide_eq_true (List.all_eq_true.mp h5 x hx)
  refine ⟨⟨of_decide_eq_true h1, by simpa using h2, by simpa using h3, of_decide_eq_true h4, List.take_length, fun x hx => .inl (all x hx), fun y hy => ?_⟩, all⟩
  have z := List.all_eq_true.mp h6 y hy
  simpa using z
def iniOkB (c : Er) : Bool := scB ("self" :: c.2.2) (defScope (sIni c.1)) && (decide ((defScope (sIni c.1)).names.lookup ("PageError" : Str) = some .globalImplicit) && (c.2.2.all fun x => !(x == ("__debug__" : Str)) && !(x == ("__classdict__" : Str))))
theorem iniOk : (ers.all iniOkB) = true := by decide +kernel
theorem ok_ini {P : Program} {w : World} {K : PySem.W.Frag} {mg : Str → Option Value} {base : Heap} {CP : Addr} {cA iA fA dA tA : Str → Addr} (X : Fx K CP cA iA fA dA tA) (gP : mg ("PageError" : Str) = some (.ref CP)) {c : Er} (hc : c ∈ ers) {fd : FuncData}
    (F : FunD K "__init__" (c.2.1 ++ ".__init__") (defArgs (sIni c.1)) (defBody (sIni c.1)) (defScope (sIni c.1)) [] [] (iA c.2.1) fd) :
    FnOk P w K mg base CX0 1 (iA c.2.1) fd ("self" :: c.2.2) (spIni (cA c.2.1) c.2.2) := by
  have sh := iniSh c hc
  have okc := List.all_eq_true.mp iniOk c hc
  obtain ⟨E, _, no⟩ := X.err c hc
  obtain ⟨n, x, fs⟩ := c
  obtain ⟨o1, o⟩ := He.ba okc
  obtain ⟨o2, o3⟩ := He.ba o
  obtain ⟨S, loc⟩ := scB_ok o1
  have gl : (defScope (sIni n)).names.lookup ("PageError" : Str) = some .globalImplicit := of_decide_eq_true o2
  have ls := loc "self" (by simp)
  have dd : ∀ y ∈ fs, (y == ("__debug__" : Str)) = false ∧ (y == ("__classdict__" : Str)) = false := fun y hy => by
    have z := List.all_eq_true.mp o3 y hy
    simpa using z
  match fs, sh, no, S, loc, dd, F with
  | [], ⟨t, p1, p2, p3, p4, p5, p6, hL, e⟩, no, S, loc, dd, F =>
    dsimp only at F
    rw [e] at F
    exact ok_ini0 F S gl ls hL E.ox X.base gP
  | [y], ⟨t, p1, p2, p3, p4, p5, p6, q1, q2, q3, q4, hL, e⟩, no, S, loc, dd, F =>
    dsimp only at F
    rw [e] at F
    exact ok_ini1 F S gl ls (loc y (by simp)) (dd y (by simp)).1 (dd y (by simp)).2 hL E.ox X.base gP (no y (by simp))
  | [y, z], ⟨t, p1, p2, p3, p4, p5, p6, q1, q2, q3, q4, r1, r2, r3, r4, hL, e⟩, no, S, loc, dd, F =>
    dsimp only at F
    rw [e] at F
    exact ok_ini2 F S gl ls (loc y (by simp)) (loc z (by simp)) (dd y (by simp)).1 (dd y (by simp)).2 (dd z (by simp)).1 (dd z (by simp)).2 hL E.ox X.base gP (no y (by simp)) (no z (by simp))
  | _ :: _ :: _ :: _, sh, _, _, _, _, _ => exact (show False from sh).elim
end K00
namespace K00
open PySem PySem.Spec PyProof.Rows L2 LamX NdefX

/-! ### the lambda of a row: [e.f, ..] of an error e -/
def spLam (K : PySem.W.Frag) (C : Addr) (fs : List Str) : Sp := fun vs H Q _ => ∃ (a fI : Addr) (ws : List V), vs = [.ref a] ∧ ws.length = fs.length ∧ ErrC K C fI ∧ (∀ x ∈ fs, PySem.W.findIn K (.ref C) x = some none) ∧
  ErAt H a C (fs.zip ws).reverse ∧ ∀ l, H l = none → Q (.ref l) (upd H l (.lst ws))
abbrev lamAr (p : Pos) : Arguments := { posonlyargs := [], args := [{ arg := "e", annotation := none, pos := p }], vararg := none, kwonlyargs := [], kw_defaults := [], kwarg := none, defaults := [] }
abbrev lamSc : Scope := { kind := .function, names := [(Str.ofString "e", .local)], isGenerator := false, isCoroutine := false, more := [] }
abbrev lamNF (q : Str) (p : Pos) (c : Addr) : NF := ⟨"<lambda>", q, lamAr p, [], lamSc, [], c⟩
theorem lamScope : NScope ["e"] ["e"] [] lamSc := nscope_by (by decide +kernel)
section
variable {P : Program} {w : World} {K : PySem.W.Frag} {mg : Str → Option Value} {base : Heap} {C f c : Addr} {q : Str} {p p1 p2 p3 p4 p5 : Pos}
theorem lam0 : LamG P w K mg base 2 f (lamNF q p c) (.List [] p3) (spLam K C []) := by
  refine lamg_of (k := 1) lamScope rfl (fun pm ctv us hl => match us, hl with | [_], _ => rfl) (fun vs H Q E h => ?_) (fun A outer s H vs Q hr h => ?_)
  · obtain ⟨a, fI, ws, rfl, _⟩ := h
    rfl
  · obtain ⟨a, fI, ws, rfl, hl, T, no, ha, k⟩ := h
    obtain rfl : ws = [] := List.length_eq_zero_iff.mp hl
    exact ⟨_, pe_lst pa_nil, Nat.zero_le _, fun l hl => k l hl⟩
theorem lam1 {x : Str} (hb : ∀ (X : Cx), attributeBase (.Name "e" p1) x X.env (eval (.Name "e" p1) X.env) = eval (.Name "e" p1) X.env) : LamG P w K mg base 2 f (lamNF q p c) (.List [.Attribute (.Name "e" p1) x p2] p3) (spLam K C [x]) := by
  refine lamg_of (k := 1) lamScope rfl (fun pm ctv us hl => match us, hl with | [_], _ => rfl) (fun vs H Q E h => ?_) (fun A outer s H vs Q hr h => ?_)
  · obtain ⟨a, fI, ws, rfl, _⟩ := h
    rfl
  · obtain ⟨a, fI, ws, rfl, hl, T, no, ha, k⟩ := h
    obtain ⟨v, rfl⟩ : ∃ v, ws = [v] := List.length_eq_one_iff.mp hl
    refine ⟨_, pe_lst (pa_cons (pe_ef (pv 0) (hb _)) pa_nil), ?_⟩
    refine ⟨_, rfl, a, C, fI, _, v, rfl, T, no x (by simp), ha, ?_, by show 1 ≤ sizeLine; decide, fun l hl => k l hl⟩
    show List.lookup x [(x, v)] = some v
    simp [List.lookup]
theorem lam2 {x y : Str} (hxy : (x == y) = false) (hb : ∀ (X : Cx), attributeBase (.Name "e" p1) x X.env (eval (.Name "e" p1) X.env) = eval (.Name "e" p1) X.env) (hb2 : ∀ (X : Cx), attributeBase (.Name "e" p4) y X.env (eval (.Name "e" p4) X.env) = eval (.Name "e" p4) X.env) :
    LamG P w K mg base 2 f (lamNF q p c) (.List [.Attribute (.Name "e" p1) x p2, .Attribute (.Name "e" p4) y p5] p3) (spLam K C [x, y]) := by
  refine lamg_of (k := 1) lamScope rfl (fun pm ctv us hl => match us, hl with | [_], _ => rfl) (fun vs H Q E h => ?_) (fun A outer s H vs Q hr h => ?_)
  · obtain ⟨a, fI, ws, rfl, _⟩ := h
    rfl
  · obtain ⟨a, fI, ws, rfl, hl, T, no, ha, k⟩ := h
    obtain ⟨v, u, rfl⟩ : ∃ v u, ws = [v, u] := by
      cases ws with
      | nil => cases hl
      | cons v r =>
        cases r with
        | nil => cases hl
        | cons u r2 =>
          cases r2 with
          | nil => exact ⟨v, u, rfl⟩
          | cons z r3 => simp at hl
    refine ⟨_, pe_lst (pa_cons (pe_ef (pv 0) (hb _)) (pa_cons (pe_ef (pv 0) (hb2 _)) pa_nil)), ?_⟩
    refine ⟨_, rfl, a, C, fI, _, v, rfl, T, no x (by simp), ha, ?_, _, rfl, a, C, fI, _, u, rfl, T, no y (by simp), ha, ?_, by show 2 ≤ sizeLine; decide, fun l hl => k l hl⟩
    · show List.lookup x [(y, u), (x, v)] = some v
      simp [List.lookup, hxy]
    · show List.lookup y [(y, u), (x, v)] = some u
      simp [List.lookup]
end
/-! ### a row: a tuple of two errors, the lambda, the list of what they keep -/
structure RowAt (P : Program) (w : World) (K : PySem.W.Frag) (mg : Str → Option Value) (base : Heap) (H : Hp) (C : Addr) (fs : List Str) (ws : List V) (t du : Addr) : Prop where
  ex : ∃ (m n f : Addr) (F : NF) (body : Expr), H t = some (.tup [.ref m, .ref n, .ref f, .ref du]) ∧ ErAt H m C (fs.zip ws).reverse ∧ ErAt H n C (fs.zip ws).reverse ∧ H f = some (LamO f F body) ∧ H F.c = some (CodeO F.c F.qual) ∧
    LamG P w K mg base 2 f F body (spLam K C fs) ∧ H du = some (.lst ws)
/-- a list or a dict stands at b -/
def Mu (H : Hp) (b : Addr) : Prop := (∃ xs, H b = some (.lst xs)) ∨ ∃ kvs, H b = some (.dK kvs)
/-- all but what is named (and the tables) stays -/
def ExtM (D : List Addr) (H H' : Hp) : Prop := ∀ b o, b ∉ D → H b = some o → (∀ ps, o ≠ .tbl ps) → H' b = some o
theorem ExtM.of {D : List Addr} {H H' : Hp} (e : ExtN H H') : ExtM D H H' := fun b o _ h n => e b o h n
theorem ExtM.trans {D : List Addr} {H H1 H2 : Hp} (a : ExtM D H H1) (b : ExtM D H1 H2) : ExtM D H H2 := fun c o h e n => b c o h (a c o h e n) n
theorem ExtM.nil {H H' : Hp} (e : ExtM [] H H') : ExtN H H' := fun b o h n => e b o List.not_mem_nil h n
theorem Mu.ne {H : Hp} {b : Addr} {o : HO} (m : Mu H b) {c : Addr} (h : H c = some o) (n1 : ∀ xs, o ≠ .lst xs) (n2 : ∀ kvs, o ≠ .dK kvs) : c ≠ b := fun z => by
  rw [z] at h
  rcases m with ⟨xs, e⟩ | ⟨kvs, e⟩
  · rw [e] at h
    exact n1 xs (Option.some.inj h).symm
  · rw [e] at h
    exact n2 kvs (Option.some.inj h).symm
theorem ext_nl {φ : Heap → Prop} (xs : List V) : HO.ext φ ≠ .lst xs := fun z => by cases z
theorem ext_nd {φ : Heap → Prop} (kvs : List (Key × V)) : HO.ext φ ≠ .dK kvs := fun z => by cases z
theorem RowAt.extM {P : Program} {w : World} {K : PySem.W.Frag} {mg : Str → Option Value} {base : Heap} {H H' : Hp} {C : Addr} {fs : List Str} {ws : List V} {t du : Addr} {D : List Addr} (h : RowAt P w K mg base H C fs ws t du) (hD : ∀ b ∈ D, Mu H b) (hd : du ∉ D)
    (e : ExtM D H H') : RowAt P w K mg base H' C fs ws t du := by
  obtain ⟨m, n, f, F, body, h1, h2, h3, h4, h5, h6, h7⟩ := h.ex
  have out : ∀ {c : Addr} {o : HO}, H c = some o → (∀ xs, o ≠ .lst xs) → (∀ kvs, o ≠ .dK kvs) → c ∉ D := fun {c o} q n1 n2 z => (hD c z).ne q n1 n2 rfl
  have er : ∀ {a : Addr} {fs' : List (Str × V)}, ErAt H a C fs' → ErAt H' a C fs' := fun {a fs'} z => by
    rcases z with ⟨z1, z2⟩ | ⟨d, z1, z2⟩
    · exact .inl ⟨z1, e _ _ (out z2 ext_nl ext_nd) z2 exo_notbl⟩
    · exact .inr ⟨d, e _ _ (out z1 ext_nl ext_nd) z1 exo_notbl, e _ _ (out z2 ext_nl ext_nd) z2 exd_notbl⟩
  exact ⟨m, n, f, F, body, e _ _ (out h1 (fun _ q => by cases q) (fun _ q => by cases q)) h1 (fun _ z => by cases z), er h2, er h3, e _ _ (out h4 ext_nl ext_nd) h4 lamO_ne, e _ _ (out h5 ext_nl ext_nd) h5 codeO_ne, h6, e _ _ hd h7 (fun _ z => by cases z)⟩
theorem RowAt.ext {P : Program} {w : World} {K : PySem.W.Frag} {mg : Str → Option Value} {base : Heap} {H H' : Hp} {C : Addr} {fs : List Str} {ws : List V} {t du : Addr} (h : RowAt P w K mg base H C fs ws t du) (e : ExtN H H') : RowAt P w K mg base H' C fs ws t du :=
  h.extM (D := []) (fun b z => absurd z List.not_mem_nil) List.not_mem_nil (.of e)
/-- the rows that stand in the list at l; their own lists are others -/
structure RowsAt (P : Program) (w : World) (K : PySem.W.Frag) (mg : Str → Option Value) (base : Heap) (H : Hp) (cA : Str → Addr) (wsOf : List Str → List V) (l : Addr) (cs : List Er) : Prop where
  ex : ∃ ps : List (Addr × Addr), H l = some (.lst (ps.map fun p => V.ref p.1)) ∧ ps.length = cs.length ∧ (∀ p ∈ ps, p.2 ≠ l) ∧
    ∀ (i : Nat) (c : Er) (p : Addr × Addr), cs[i]? = some c → ps[i]? = some p → RowAt P w K mg base H (cA c.2.1) c.2.2 (wsOf c.2.2) p.1 p.2
/-- what a row's error keeps: the first of two values, both, none -/
def wsV (v u : V) (fs : List Str) : List V := [v, u].take fs.length
/-! ### the statement of a row -/
def tRow (K : PySem.W.Frag) (C : Addr) (fs : List Str) (T : List (Addr × Str)) (q : Str) (mk : Addr → NF) (body : Expr) (ta : TA) : TS :=
  tDrop (tBM K "list" rAppend (tVar 2) (tCons (tTup (tCons (tMkE C (spIni C fs) ta) (tCons (tMkE C (spIni C fs) ta) (tCons (tLamN T q mk body) (tCons (tLst ta) tNil))))) tNil))
theorem tabs_l {T : List (Addr × Str)} {H H' : Hp} {l : Addr} {xs : List V} (h : Tabs T H) (hl : H l = some (.lst xs)) (e : ∀ b o, b ≠ l → H b = some o → H' b = some o) : Tabs T H' := fun p hp => by
  obtain ⟨ps, h1, h2, h3⟩ := h p hp
  have ne : ∀ {b : Addr} {o : HO}, H b = some o → (∀ ys, o ≠ .lst ys) → b ≠ l := fun {b o} q n z => by
    rw [z, hl] at q
    exact n xs (Option.some.inj q).symm
  refine ⟨ps, e _ _ (ne h1 fun _ z => by cases z) h1, h2, fun pos cv hc => ?_⟩
  obtain ⟨c, e1, e2⟩ := h3 pos cv hc
  exact ⟨c, e1, e _ _ (ne e2 ext_nl) e2⟩
theorem row_go {P : Program} {w : World} {K : PySem.W.Frag} {mg : Str → Option Value} {base : Heap} {cA : Str → Addr} {c : Er} {T : List (Addr × Str)} {q : Str} {mk : Addr → NF} {body : Expr} {ta : TA} {D : Ends} {H : Hp} {v u : V} {l : Addr} {cs : List Er}
    (ht : ∀ (H : Hp) (Q : List V → Hp → Prop), Q (wsV v u c.2.2) H → ta [some v, some u, some (.ref l)] H Q) (hw : (wsV v u c.2.2).length = c.2.2.length) (hmk : ∀ c', (mk c').c = c' ∧ (mk c').qual = q)
    (G : ∀ f c', LamG P w K mg base 2 f (mk c') body (spLam K (cA c.2.1) c.2.2)) (R : RowsAt P w K mg base H cA (wsV v u) l cs) (hT : Tabs T H) (hn : cs.length ≤ 100)
    (k : ∀ H', RowsAt P w K mg base H' cA (wsV v u) l (cs ++ [c]) → ExtM [l] H H' → Tabs T H' → D.nx [some v, some u, some (.ref l)] H') : tRow K (cA c.2.1) c.2.2 T q mk body ta D [some v, some u, some (.ref l)] H := by
  obtain ⟨ps, hl, hlen, hne, rows⟩ := R.ex
  have w2 : (wsV v u c.2.2).length ≤ 2 := by
    unfold wsV
    rw [List.length_take]
    exact Nat.min_le_right _ _
  refine ⟨_, rfl, .inl ⟨rfl, _, SqL.of hl⟩, ?_⟩
  refine ht _ _ ⟨by omega, fun m m0 => ⟨m, wsV v u c.2.2, rfl, hw, upd_same, fun H1 k1 er1 => ⟨rfl, ?_⟩⟩⟩
  have s1 : ∀ b o, H b = some o → H1 b = some o := fun b o e => by
    have nb := ne_of_none e m0
    exact k1 b o nb (by rw [upd_ne nb]; exact e)
  refine ht _ _ ⟨by omega, fun n n0 => ⟨n, wsV v u c.2.2, rfl, hw, upd_same, fun H2 k2 er2 => ⟨rfl, ?_⟩⟩⟩
  have s2 : ∀ b o, H1 b = some o → H2 b = some o := fun b o e => by
    have nb := ne_of_none e n0
    exact k2 b o nb (by rw [upd_ne nb]; exact e)
  refine ⟨(hT.ext s1).ext s2, fun f c' H3 e3 T3 f0 f1 c1 => ?_⟩
  refine ht _ _ ⟨by show _ ≤ sizeLine; exact Nat.le_trans w2 (by decide), fun du d0 => ?_⟩
  refine ⟨by show 4 ≤ sizeLine; decide, fun t t0 => ?_⟩
  have hl3 : H3 l = some (.lst (ps.map fun p => V.ref p.1)) := e3 _ _ (s2 _ _ (s1 _ _ hl)) (fun _ z => by cases z)
  have ldu : l ≠ du := ne_of_none hl3 d0
  have hl4 : upd H3 du (.lst (wsV v u c.2.2)) l = some (.lst (ps.map fun p => V.ref p.1)) := by
    rw [upd_ne ldu]
    exact hl3
  have lt : l ≠ t := ne_of_none hl4 t0
  have hl5 : upd (upd H3 du (.lst (wsV v u c.2.2))) t (.tup [.ref m, .ref n, .ref f, .ref du]) l = some (.lst (ps.map fun p => V.ref p.1)) := by
    rw [upd_ne lt]
    exact hl4
  refine ⟨l, _, _, rfl, rfl, hl5, by rw [List.length_map, hlen]; exact Nat.lt_of_le_of_lt hn (by decide), ?_⟩
  -- from H3 on
  have e6 : ∀ b o, b ≠ l → H3 b = some o → upd (upd (upd H3 du (.lst (wsV v u c.2.2))) t (.tup [.ref m, .ref n, .ref f, .ref du])) l (.lst (ps.map (fun p => V.ref p.1) ++ [.ref t])) b = some o := fun b o hb e => by
    have nd := ne_of_none e d0
    have nt : b ≠ t := fun z => by
      rw [z] at e nd
      rw [upd_ne nd, e] at t0
      cases t0
    rw [upd_ne hb, upd_ne nt, upd_ne nd]
    exact e
  have E : ExtM [l] H (upd (upd (upd H3 du (.lst (wsV v u c.2.2))) t (.tup [.ref m, .ref n, .ref f, .ref du])) l (.lst (ps.map (fun p => V.ref p.1) ++ [.ref t]))) := fun b o hb e nt =>
    e6 b o (fun z => hb (by rw [z]; exact List.mem_singleton.mpr rfl)) (e3 _ _ (s2 _ _ (s1 _ _ e)) nt)
  have dt : du ≠ t := fun z => by
    rw [← z, upd_same] at t0
    cases t0
  refine k _ ⟨ps ++ [(t, du)], ?_, ?_, fun p hp => ?_, fun i c2 p hc hp => ?_⟩ E (tabs_l T3 hl3 e6)
  · rw [upd_same, List.map_append]
    rfl
  · rw [List.length_append, List.length_append, hlen]
    rfl
  · rcases List.mem_append.mp hp with z | z
    · exact hne p z
    · rw [List.mem_singleton.mp z]
      exact ldu.symm
  · by_cases hi : i < cs.length
    · rw [List.getElem?_append_left hi] at hc
      rw [List.getElem?_append_left (by omega)] at hp
      exact (rows i c2 p hc hp).extM (D := [l]) (fun b hb => by rw [List.mem_singleton.mp hb]; exact .inl ⟨_, hl⟩) (fun z => hne p (List.mem_of_getElem? hp) (List.mem_singleton.mp z)) E
    · rw [List.getElem?_append_right (by omega)] at hc hp
      have i0 : i - cs.length = 0 := by
        have z := (List.getElem?_eq_some_iff.mp hc).1
        rw [List.length_singleton] at z
        omega
      rw [i0] at hc
      rw [hlen, i0] at hp
      have ec : c = c2 := Option.some.inj hc
      have ep : (t, du) = p := Option.some.inj hp
      subst ec ep
      have m1 := er1.ext (H' := H2) (.of s2)
      have m3 := m1.ext e3
      have n3 := er2.ext e3
      have up : ∀ {a : Addr} {fs' : List (Str × V)}, ErAt H3 a (cA c.2.1) fs' → ErAt (upd (upd (upd H3 du (.lst (wsV v u c.2.2))) t (.tup [.ref m, .ref n, .ref f, .ref du])) l (.lst (ps.map (fun p => V.ref p.1) ++ [.ref t]))) a (cA c.2.1) fs' := fun {a fs'} z => by
        rcases z with ⟨z1, z2⟩ | ⟨d, z1, z2⟩
        · exact .inl ⟨z1, e6 _ _ (fun y => by rw [y, hl3] at z2; exact absurd (Option.some.inj z2).symm (ext_nl _)) z2⟩
        · exact .inr ⟨d, e6 _ _ (fun y => by rw [y, hl3] at z1; exact absurd (Option.some.inj z1).symm (ext_nl _)) z1, e6 _ _ (fun y => by rw [y, hl3] at z2; exact absurd (Option.some.inj z2).symm (ext_nl _)) z2⟩
      refine ⟨m, n, f, mk c', body, ?_, up m3, up n3, e6 _ _ (fun y => by rw [y, hl3] at f1; exact absurd (Option.some.inj f1).symm (ext_nl _)) f1, ?_, G f c', ?_⟩
      · rw [upd_ne lt.symm, upd_same]
      · rw [(hmk c').1, (hmk c').2]
        exact e6 _ _ (fun y => by rw [y, hl3] at c1; exact absurd (Option.some.inj c1).symm (ext_nl _)) c1
      · rw [upd_ne ldu.symm, upd_ne dt, upd_same]
end K00
namespace K00
open PySem PySem.Spec PyProof.Rows L2 LamX NdefX

/-! ### the form of the rows -/
abbrev rowStm (e1 e2 lam e4 : Expr) (k : Nat) (p1 p2 p3 p4 p5 : Pos) : Stmt := .Expr (.Call (.Attribute (.Name "found" p1) "append" p2) [.Tuple [e1, e2, lam, e4] k p3] [] p4) p5
def BaseAt (f : Str) (p : Pos) : Prop := ∀ X : Cx, attributeBase (.Name "e" p) f X.env (eval (.Name "e" p) X.env) = eval (.Name "e" p) X.env
def RowSh (c : Er) (st : Stmt) : Prop := match c.2.2 with
  | [] => ∃ (k : Nat) (p1 p2 p3 p4 p5 a1 a2 b1 b2 l1 l2 l3 m1 : Pos), (p2.endLine == p4.line) = true ∧
      st = rowStm (.Call (.Name c.2.1 a1) [] [] a2) (.Call (.Name c.2.1 b1) [] [] b2) (.Lambda (lamAr l1) (.List [] l2) lamSc l3) (.List [] m1) k p1 p2 p3 p4 p5
  | [f] => ∃ (k : Nat) (p1 p2 p3 p4 p5 a1 a2 a3 b1 b2 b3 b4 l1 l2 l3 l4 l5 m1 m2 : Pos), (p2.endLine == p4.line) = true ∧ BaseAt f l4 ∧
      st = rowStm (.Call (.Name c.2.1 a1) [.Name "x" a2] [] a3) (.Call (.Name c.2.1 b1) [] [⟨some f, .Name "x" b2, b3⟩] b4) (.Lambda (lamAr l1) (.List [.Attribute (.Name "e" l4) f l5] l2) lamSc l3) (.List [.Name "x" m1] m2) k p1 p2 p3 p4 p5
  | [f, g] => ∃ (k : Nat) (p1 p2 p3 p4 p5 a1 a2 a3 a4 b1 b2 b3 b4 b5 b6 l1 l2 l3 l4 l5 l6 l7 m1 m2 m3 : Pos), (p2.endLine == p4.line) = true ∧ (f == g) = false ∧ BaseAt f l4 ∧ BaseAt g l6 ∧
      st = rowStm (.Call (.Name c.2.1 a1) [.Name "x" a2, .Name "y" a3] [] a4) (.Call (.Name c.2.1 b1) [] [⟨some f, .Name "x" b2, b3⟩, ⟨some g, .Name "y" b4, b5⟩] b6)
        (.Lambda (lamAr l1) (.List [.Attribute (.Name "e" l4) f l5, .Attribute (.Name "e" l6) g l7] l2) lamSc l3) (.List [.Name "x" m1, .Name "y" m2] m3) k p1 p2 p3 p4 p5
  | _ => False
def RowsSh : List Er → List Stmt → Prop
  | [], sts => ∃ p1 p2 : Pos, sts = [.Return (some (.Name "found" p1)) p2]
  | c :: cs, st :: sts => RowSh c st ∧ RowsSh cs sts
  | _ :: _, [] => False
def MadeSh (cs : List Er) (b : List Stmt) : Prop := ∃ (p1 p2 p3 : Pos) (sts : List Stmt), b = .Assign [.Name "found" p1] (.List [] p2) p3 :: sts ∧ RowsSh cs sts
theorem madeA : MadeSh ersA (defBody (top 61)) := by
  refine ⟨_, _, _, _, rfl, ?_⟩
  unfold ersA
  repeat' (first | exact ⟨_, _, rfl⟩ | refine And.intro ?_ ?_)
  all_goals exact ⟨_, _, _, _, _, _, _, _, _, _, _, _, _, _, _, _, _, _, _, _, rfl, fun _ => rfl, rfl⟩
theorem madeB : MadeSh ersB (defBody (top 62)) := by
  refine ⟨_, _, _, _, rfl, ?_⟩
  unfold ersB
  repeat' (first | exact ⟨_, _, rfl⟩ | refine And.intro ?_ ?_)
  all_goals first
    | exact ⟨_, _, _, _, _, _, _, _, _, _, _, _, _, _, _, _, _, _, _, _, rfl, fun _ => rfl, rfl⟩
    | exact ⟨_, _, _, _, _, _, _, _, _, _, _, _, _, _, rfl, rfl⟩
    | exact ⟨_, _, _, _, _, _, _, _, _, _, _, _, _, _, _, _, _, _, _, _, _, _, _, _, _, _, rfl, by decide, fun _ => rfl, fun _ => rfl, rfl⟩
/-! ### how arguments reach an __init__ -/
def ArgSh (c : Er) : Prop := ∀ (body : List Stmt) (scope : Scope) (kV doc pm : Value) (an : Option Addr) (cdv ct : Value), match c.2.2 with
  | [] => ∀ a : Value, bindArgs (PySem.W.fnOf "__init__" (c.2.1 ++ ".__init__") (defArgs (sIni c.1)) body scope .none kV doc pm an cdv ct) ⟨[a], []⟩ = pure [(("self" : Str), a)]
  | [f] => ∀ a v : Value, bindArgs (PySem.W.fnOf "__init__" (c.2.1 ++ ".__init__") (defArgs (sIni c.1)) body scope .none kV doc pm an cdv ct) ⟨[a, v], []⟩ = pure [(("self" : Str), a), (f, v)] ∧
      bindArgs (PySem.W.fnOf "__init__" (c.2.1 ++ ".__init__") (defArgs (sIni c.1)) body scope .none kV doc pm an cdv ct) ⟨[a], [(f, v)]⟩ = pure [(("self" : Str), a), (f, v)]
  | [f, g] => ∀ a v u : Value, bindArgs (PySem.W.fnOf "__init__" (c.2.1 ++ ".__init__") (defArgs (sIni c.1)) body scope .none kV doc pm an cdv ct) ⟨[a, v, u], []⟩ = pure [(("self" : Str), a), (f, v), (g, u)] ∧
      bindArgs (PySem.W.fnOf "__init__" (c.2.1 ++ ".__init__") (defArgs (sIni c.1)) body scope .none kV doc pm an cdv ct) ⟨[a], [(f, v), (g, u)]⟩ = pure [(("self" : Str), a), (f, v), (g, u)]
  | _ => False
theorem argA : ∀ c ∈ ersA, ArgSh c := by
  unfold ersA
  repeat' (first | exact fun _ z => absurd z List.not_mem_nil | refine List.forall_mem_cons.mpr ⟨?_, ?_⟩)
  all_goals exact fun _ _ _ _ _ _ _ _ _ _ => ⟨rfl, rfl⟩
theorem argB : ∀ c ∈ ersB, ArgSh c := by
  unfold ersB
  repeat' (first | exact fun _ z => absurd z List.not_mem_nil | refine List.forall_mem_cons.mpr ⟨?_, ?_⟩)
  all_goals first
    | exact fun _ _ _ _ _ _ _ _ _ _ => ⟨rfl, rfl⟩
    | exact fun _ _ _ _ _ _ _ _ _ => rfl
    | exact fun _ _ _ _ _ _ _ _ _ _ _ => ⟨rfl, rfl⟩
theorem argSh : ∀ c ∈ ers, ArgSh c := fun c hc => (List.mem_append.mp hc).elim (argA c) (argB c)
end K00
namespace K00
open PySem PySem.Spec PyProof.Rows L2 LamX NdefX
theorem ini_binds {K : PySem.W.Frag} {c : Er} (hc : c ∈ ers) {f : Addr} {fd : FuncData} {body : List Stmt} {scope : Scope} (F : FunD K "__init__" (c.2.1 ++ ".__init__") (defArgs (sIni c.1)) body scope [] [] f fd) :
    (∀ (s' : Shared) (a : Addr) (us : List Value), us.length + 1 = (("self" : Str) :: c.2.2).length → BindsTo s' fd ⟨.ref a :: us, []⟩ ((("self" : Str) :: c.2.2).zip (.ref a :: us))) ∧
    (∀ (s' : Shared) (a : Addr) (ws : List Value), ws.length + 1 = (("self" : Str) :: c.2.2).length → BindsTo s' fd ⟨[.ref a], c.2.2.zip ws⟩ ((("self" : Str) :: c.2.2).zip (.ref a :: ws))) := by
  have sh := argSh c hc
  obtain ⟨n, x, fs⟩ := c
  obtain ⟨oc, od, dV, kV, doc, pm, an, cdv, ct, osl, rfl, lk, hcd, hD, hK⟩ := F.ex
  rcases hD with ⟨_, rfl⟩ | ⟨e, _⟩
  · have sh := sh body scope kV doc pm an cdv ct
    match fs, sh with
    | [], sh =>
      refine ⟨fun s' a us hl => ?_, fun s' a us hl => ?_⟩
      · obtain rfl : us = [] := List.length_eq_zero_iff.mp (by simpa using hl)
        exact .of_eq (sh _)
      · obtain rfl : us = [] := List.length_eq_zero_iff.mp (by simpa using hl)
        exact .of_eq (sh _)
    | [g], sh =>
      refine ⟨fun s' a us hl => ?_, fun s' a us hl => ?_⟩
      · obtain ⟨v, rfl⟩ : ∃ v, us = [v] := List.length_eq_one_iff.mp (by simpa using hl)
        exact .of_eq (sh _ _).1
      · obtain ⟨v, rfl⟩ : ∃ v, us = [v] := List.length_eq_one_iff.mp (by simpa using hl)
        exact .of_eq (sh _ _).2
    | [g, h], sh =>
      have two : ∀ us : List Value, us.length + 1 = 3 → ∃ v u, us = [v, u] := fun us hl => match us, hl with | [v, u], _ => ⟨v, u, rfl⟩
      refine ⟨fun s' a us hl => ?_, fun s' a us hl => ?_⟩
      · obtain ⟨v, u, rfl⟩ := two us (by simpa using hl)
        exact .of_eq (sh _ _ _).1
      · obtain ⟨v, u, rfl⟩ := two us (by simpa using hl)
        exact .of_eq (sh _ _ _).2
    | _ :: _ :: _ :: _, sh => exact (show False from sh).elim
  · exact absurd rfl e
/-! ### a row's statement -/
section
variable {X : Cx} {CP : Addr} {cA iA fA dA tA : Str → Addr} {T : List (Addr × Str)} {q : Str} {cc P' : Addr}
theorem row_ps (Fx : Fx X.K CP cA iA fA dA tA) (gP : X.mg ("PageError" : Str) = some (.ref CP)) {c : Er} (hc : c ∈ ers) (gm : X.mg c.2.1 = some (.ref (cA c.2.1))) (hg : Gl X c.2.1) (hr : Room 2 X.A)
    (TB : TabB X.base X.mg cc P') (hcode : X.env.code = .ref cc) (hq : X.env.qual ++ "<lambda>" = q) (hm2 : (P', q) ∈ T) (hu : ∀ p ∈ T, p.1 = P' → p.2 = q)
    (N0 : X.N[0]? = some ("x" : Str)) (N1 : X.N[1]? = some ("y" : Str)) (N2 : X.N[2]? = some ("found" : Str)) (v0 : Vis X.env.scope ("x" : Str)) (v1 : Vis X.env.scope ("y" : Str)) (v2 : Vis X.env.scope ("found" : Str))
    (hd : (c.2.1 == ("__debug__" : Str)) = false) {st : Stmt} (sh : RowSh c st) :
    ∃ (pl : Pos) (body : Expr) (ta : TA), PS X st (tRow X.K (cA c.2.1) c.2.2 T q (lamNF q pl) body ta) ∧ (∀ (v u : V) (l : Addr) (H : Hp) (Q : List V → Hp → Prop), Q (wsV v u c.2.2) H → ta [some v, some u, some (.ref l)] H Q) ∧
      (∀ v u : V, (wsV v u c.2.2).length = c.2.2.length) ∧ ∀ f c', LamG X.prog X.w X.K X.mg X.base 2 f (lamNF q pl c') body (spLam X.K (cA c.2.1) c.2.2) := by
  obtain ⟨fd, F⟩ := Fx.ini c hc
  obtain ⟨E, _, _⟩ := Fx.err c hc
  have G := ok_ini (P := X.prog) (w := X.w) (base := X.base) Fx gP hc F
  obtain ⟨b1, b2⟩ := ini_binds hc F
  obtain ⟨n, x, fs⟩ := c
  have hfr : ∀ y ∈ lamSc.names, y.2 ≠ .free := by decide
  match fs, sh, G, b1, b2 with
  | [], ⟨k, p1, p2, p3, p4, p5, a1, a2, c1, c2, l1, l2, l3, m1, hl, e⟩, G, b1, b2 =>
    subst e
    refine ⟨l1, .List [] l2, tNil, ps_expr (pe_bm PySem.F.plainAttrs_list PySem.F.slot_list_append PySem.F.type_list_append mt_append (pe_var N2 v2)
      (pa_cons (pe_tup (pa_cons (pe_mkE0 E G hr hg gm (fun s' a => b1 s' a [] rfl) hd) (pa_cons (pe_mkE0 E G hr hg gm (fun s' a => b1 s' a [] rfl) hd)
        (pa_cons (pe_lamN TB hcode hq hm2 hu rfl hfr rfl) (pa_cons (pe_lst pa_nil) pa_nil))))) pa_nil) (hline := hl)), fun v u l H Q z => z, fun v u => rfl, fun f c' => lam0⟩
  | [f], ⟨k, p1, p2, p3, p4, p5, a1, a2, a3, c1, c2, c3, c4, l1, l2, l3, l4, l5, m1, m2, hl, hb, e⟩, G, b1, b2 =>
    subst e
    refine ⟨l1, .List [.Attribute (.Name "e" l4) f l5] l2, tCons (tVar 0) tNil, ps_expr (pe_bm PySem.F.plainAttrs_list PySem.F.slot_list_append PySem.F.type_list_append mt_append (pe_var N2 v2)
      (pa_cons (pe_tup (pa_cons (pe_mkE E G hr hg gm (pa_cons (pe_var N0 v0) pa_nil) b1 hd) (pa_cons (pe_mkEK (ks := [f]) E G hr hg gm (pk_cons (pe_var N0 v0) pk_nil) b2 rfl rfl hd)
        (pa_cons (pe_lamN TB hcode hq hm2 hu rfl hfr rfl) (pa_cons (pe_lst (pa_cons (pe_var N0 v0) pa_nil)) pa_nil))))) pa_nil) (hline := hl)), fun v u l H Q z => ⟨v, rfl, z⟩, fun v u => rfl, fun f' c' => lam1 hb⟩
  | [f, g], ⟨k, p1, p2, p3, p4, p5, a1, a2, a3, a4, c1, c2, c3, c4, c5, c6, l1, l2, l3, l4, l5, l6, l7, m1, m2, m3, hl, hfg, hb, hb2, e⟩, G, b1, b2 =>
    subst e
    refine ⟨l1, .List [.Attribute (.Name "e" l4) f l5, .Attribute (.Name "e" l6) g l7] l2, tCons (tVar 0) (tCons (tVar 1) tNil), ps_expr (pe_bm PySem.F.plainAttrs_list PySem.F.slot_list_append PySem.F.type_list_append mt_append (pe_var N2 v2)
      (pa_cons (pe_tup (pa_cons (pe_mkE E G hr hg gm (pa_cons (pe_var N0 v0) (pa_cons (pe_var N1 v1) pa_nil)) b1 hd) (pa_cons (pe_mkEK (ks := [f, g]) E G hr hg gm (pk_cons (pe_var N0 v0) (pk_cons (pe_var N1 v1) pk_nil)) b2 rfl rfl hd)
        (pa_cons (pe_lamN TB hcode hq hm2 hu rfl hfr rfl) (pa_cons (pe_lst (pa_cons (pe_var N0 v0) (pa_cons (pe_var N1 v1) pa_nil))) pa_nil))))) pa_nil) (hline := hl)), fun v u l H Q z => ⟨v, rfl, u, rfl, z⟩, fun v u => rfl, fun f' c' => lam2 hfg hb hb2⟩
  | _ :: _ :: _ :: _, sh, _, _, _ => exact (show False from sh).elim
/-- all the rows, then the list is given -/
theorem made_go (Fx : Fx X.K CP cA iA fA dA tA) (gP : X.mg ("PageError" : Str) = some (.ref CP)) (gm : ∀ c ∈ ers, X.mg c.2.1 = some (.ref (cA c.2.1))) (hr : Room 2 X.A)
    (TB : TabB X.base X.mg cc P') (hcode : X.env.code = .ref cc) (hq : X.env.qual ++ "<lambda>" = q) (hm2 : (P', q) ∈ T) (hu : ∀ p ∈ T, p.1 = P' → p.2 = q)
    (N0 : X.N[0]? = some ("x" : Str)) (N1 : X.N[1]? = some ("y" : Str)) (N2 : X.N[2]? = some ("found" : Str)) (v0 : Vis X.env.scope ("x" : Str)) (v1 : Vis X.env.scope ("y" : Str)) (v2 : Vis X.env.scope ("found" : Str)) :
    ∀ (cs pre : List Er) (sts : List Stmt), RowsSh cs sts → (∀ c ∈ cs, c ∈ ers ∧ Gl X c.2.1 ∧ (c.2.1 == ("__debug__" : Str)) = false) → pre.length + cs.length ≤ 60 →
    ∃ t, PSs X sts t ∧ ∀ (D : Ends) (H : Hp) (v u : V) (l : Addr), RowsAt X.prog X.w X.K X.mg X.base H cA (wsV v u) l pre → Tabs T H →
      (∀ H', RowsAt X.prog X.w X.K X.mg X.base H' cA (wsV v u) l (pre ++ cs) → ExtM [l] H H' → Tabs T H' → D.rt (.ref l) H') → t D [some v, some u, some (.ref l)] H
  | [], pre, sts, sh, _, _ => by
    obtain ⟨p1, p2, rfl⟩ := sh
    refine ⟨_, pss_one (ps_ret (pe_var N2 v2)), fun D H v u l R tT k => ⟨_, rfl, ?_⟩⟩
    refine k H ?_ (fun b o _ h _ => h) tT
    rw [List.append_nil]
    exact R
  | c :: cs, pre, [], sh, _, _ => (show False from sh).elim
  | c :: cs, pre, st :: sts, sh, hc, hn => by
    obtain ⟨h1, h2⟩ := sh
    obtain ⟨c1, c2, c3⟩ := hc c List.mem_cons_self
    have hn2 : (pre ++ [c]).length + cs.length ≤ 60 := by
      rw [List.length_append]
      simp only [List.length_cons, List.length_nil] at hn ⊢
      omega
    obtain ⟨t2, ps2, k2⟩ := made_go Fx gP gm hr TB hcode hq hm2 hu N0 N1 N2 v0 v1 v2 cs (pre ++ [c]) sts h2 (fun d hd => hc d (List.mem_cons_of_mem _ hd)) hn2
    obtain ⟨pl, body, ta, ps1, ht, hw, GL⟩ := row_ps Fx gP c1 (gm c c1) c2 hr TB hcode hq hm2 hu N0 N1 N2 v0 v1 v2 c3 h1
    refine ⟨_, pss_cons ps1 ps2, fun D H v u l R tT k => ?_⟩
    refine row_go (D := { D with nx := t2 D }) (ht v u l) (hw v u) (fun c' => ⟨rfl, rfl⟩) GL R tT (by omega) fun H1 R1 e1 T1 => ?_
    refine k2 D H1 v u l R1 T1 fun H2 R2 e2 T2 => ?_
    refine k H2 ?_ (e1.trans e2) T2
    rw [List.append_assoc] at R2
    exact R2
end
/-! ### the two defs that make the rows -/
def qLam (x : Str) : Str := (x ++ ".<locals>.") ++ "<lambda>"
def spMade (P : Program) (w : World) (K : PySem.W.Frag) (mg : Str → Option Value) (base : Heap) (cA : Str → Addr) (T : List (Addr × Str)) (cs : List Er) : Sp := fun vs H Q _ => ∃ v u : V, vs = [v, u] ∧ Tabs T H ∧
  ∀ (l : Addr) (H' : Hp), RowsAt P w K mg base H' cA (wsV v u) l cs → ExtN H H' → Tabs T H' → H l = none → Q (.ref l) H'
def scP (N P : List Str) (sc : Scope) : Bool :=
  decide (sc.kind = .function) && (!sc.isCoroutine && (!sc.isGenerator && (decide N.Nodup && (decide (N.take P.length = P) && (P.all (fun x => decide (sc.names.lookup x = some .local) || decide (sc.names.lookup x = some .cell)) && sc.names.all (fun y => !decide (y.2 = .free)))))))
theorem scP_ok {N P : List Str} {sc : Scope} (h : scP N P sc = true) : FnScope N P sc := by
  unfold scP at h
  simp only [Bool.and_eq_true, Bool.not_eq_true', decide_eq_true_eq, List.all_eq_true, Bool.or_eq_true, decide_eq_false_iff_not] at h
  obtain ⟨h1, h2, h3, h4, h5, h6, h7⟩ := h
  exact ⟨h1, h2, h3, h4, h5, h6, h7⟩
def madeOkB (cs : List Er) (sc : Scope) : Bool := scP ["x", "y", "found"] ["x", "y"] sc && (decide (sc.names.lookup ("x" : Str) = some .local) && (decide (sc.names.lookup ("y" : Str) = some .local) && (decide (sc.names.lookup ("found" : Str) = some .local) &&
  (cs.all fun c => decide (sc.names.lookup c.2.1 = some .globalImplicit) && !(c.2.1 == ("__debug__" : Str))))))
theorem madeOkA : madeOkB ersA (defScope (top 61)) = true := by decide +kernel
theorem madeOkB' : madeOkB ersB (defScope (top 62)) = true := by decide +kernel
theorem ok_made {P : Program} {w : World} {K : PySem.W.Frag} {mg : Str → Option Value} {base : Heap} {CP : Addr} {cA iA fA dA tA : Str → Addr} {T : List (Addr × Str)} (Fx : Fx K CP cA iA fA dA tA) (gP : mg ("PageError" : Str) = some (.ref CP)) (gm : ∀ c ∈ ers, mg c.2.1 = some (.ref (cA c.2.1)))
    {x : Str} {i : Nat} {cs : List Er} {fd : FuncData} {f : Addr} (hcs : ∀ c ∈ cs, c ∈ ers) (hlen : cs.length ≤ 60) (hok : madeOkB cs (defScope (top i)) = true) (sh : MadeSh cs (defBody (top i))) (hcd : fd.code = .ref (dA x)) (F : FunD K x x (defArgs (top i)) (defBody (top i)) (defScope (top i)) [] [] f fd)
    (TB : TabB base mg (dA x) (tA x)) (hm2 : (tA x, qLam x) ∈ T) (hu : ∀ p ∈ T, p.1 = tA x → p.2 = qLam x) : FnOk P w K mg base CX0 3 f fd ["x", "y"] (spMade P w K mg base cA T cs) := by
  obtain ⟨o1, o⟩ := He.ba hok
  obtain ⟨o2, o⟩ := He.ba o
  obtain ⟨o3, o⟩ := He.ba o
  obtain ⟨o4, o5⟩ := He.ba o
  have S := scP_ok o1
  have hx : (defScope (top i)).names.lookup ("x" : Str) = some .local := of_decide_eq_true o2
  have hy : (defScope (top i)).names.lookup ("y" : Str) = some .local := of_decide_eq_true o3
  have hf : (defScope (top i)).names.lookup ("found" : Str) = some .local := of_decide_eq_true o4
  have hgl : ∀ c ∈ cs, (defScope (top i)).names.lookup c.2.1 = some .globalImplicit ∧ (c.2.1 == ("__debug__" : Str)) = false := fun c hc => by
    have z := List.all_eq_true.mp o5 c hc
    obtain ⟨z1, z2⟩ := He.ba z
    exact ⟨of_decide_eq_true z1, by simpa using z2⟩
  obtain ⟨oc, od, dV, kV, doc, pm, an, cdv, ct, osl, rfl, lk, hcd2, _, _⟩ := F.ex
  have hcdv : cdv = .ref (dA x) := hcd
  refine fn_of lk hcd2 S (fun vs H Q E h => ?_) fun A outer s H vs Q E hr h => ?_
  · obtain ⟨v, u, rfl, _⟩ := h
    rfl
  · obtain ⟨v, u, rfl, tT, k⟩ := h
    obtain ⟨p1, p2, p3, sts, e, rows⟩ := sh
    rw [e]
    obtain ⟨t, ps, go⟩ := made_go (X := cxOf CX0 P w K mg base ["x", "y", "found"] x (defScope (top i)) f cdv A outer s H E) (T := T) (q := qLam x) Fx gP gm hr TB hcdv rfl hm2 hu rfl rfl rfl (.inl hx) (.inl hy) (.inl hf) cs [] sts rows
      (fun c hc => ⟨hcs c hc, (hgl c hc).1, (hgl c hc).2⟩) (by simpa using hlen)
    refine ⟨_, pss_cons (ps_set (i := 2) S.nd rfl (.inl hf) (pe_lst pa_nil)) ps, ?_⟩
    refine ⟨Nat.zero_le _, fun l hl => ?_⟩
    show t _ [some v, some u, some (.ref l)] _
    have ex : ∀ b o, H b = some o → upd H l (.lst []) b = some o := fun b o h => by
      rw [upd_ne (ne_of_none h hl)]
      exact h
    refine go _ _ v u l ⟨[], upd_same, rfl, fun p hp => absurd hp List.not_mem_nil, fun i c p hc _ => by simp at hc⟩ (tT.ext ex) fun H' R e' T' => ?_
    exact k l H' R (fun b o h n => e' b o (fun z => ne_of_none h hl (List.mem_singleton.mp z)) (ex b o h) n) T' hl
end K00
namespace K00
open PySem PySem.Spec PyProof.Rows L2 LamX NdefX

/-! ### which of the errors a value is -/
abbrev isX (x : Str) (p1 p2 p3 p4 : Pos) : Expr := .Call (.Name "isinstance" p1) [.Name "e" p2, .Name x p3] [] p4
abbrev kindStm (es : List Expr) (p1 p2 p3 p4 p5 : Pos) : Stmt := .Assign [.Name "found" p1] (.BinOp (.Name "found" p2) .Add (.List es p3) p4) p5
def KindSh : List Er → List Stmt → Prop
  | [], sts => ∃ p1 p2 : Pos, sts = [.Return (some (.Name "found" p1)) p2]
  | [c], [s1, s2] => ∃ (p1 p2 p3 p4 p5 q1 q2 q3 q4 r1 r2 : Pos), s1 = kindStm [isX c.2.1 q1 q2 q3 q4] p1 p2 p3 p4 p5 ∧ s2 = .Return (some (.Name "found" r1)) r2
  | c :: d :: cs, st :: sts => (∃ (p1 p2 p3 p4 p5 q1 q2 q3 q4 r1 r2 r3 r4 : Pos), st = kindStm [isX c.2.1 q1 q2 q3 q4, isX d.2.1 r1 r2 r3 r4] p1 p2 p3 p4 p5) ∧ KindSh cs sts
  | _, _ => False
def KindsSh (cs : List Er) (b : List Stmt) : Prop := ∃ (p1 p2 p3 : Pos) (sts : List Stmt), b = .Assign [.Name "found" p1] (.List [] p2) p3 :: sts ∧ KindSh cs sts
theorem kindsA : KindsSh ersA (defBody (top 63)) := by
  refine ⟨_, _, _, _, rfl, ?_⟩
  unfold ersA
  repeat' (first | exact ⟨_, _, rfl⟩ | exact ⟨_, _, _, _, _, _, _, _, _, _, _, rfl, rfl⟩ | refine And.intro ⟨_, _, _, _, _, _, _, _, _, _, _, _, _, rfl⟩ ?_)
theorem kindsB : KindsSh ersB (defBody (top 64)) := by
  refine ⟨_, _, _, _, rfl, ?_⟩
  unfold ersB
  repeat' (first | exact ⟨_, _, rfl⟩ | exact ⟨_, _, _, _, _, _, _, _, _, _, _, rfl, rfl⟩ | refine And.intro ⟨_, _, _, _, _, _, _, _, _, _, _, _, _, rfl⟩ ?_)
abbrev Kp (H H' : Hp) : Prop := ∀ b o, H b = some o → H' b = some o
theorem kp_new {H : Hp} {l : Addr} {o : HO} (h : H l = none) : Kp H (upd H l o) := fun b u e => by
  rw [upd_ne (ne_of_none e h)]
  exact e
theorem ErAt.kp {H H' : Hp} {a C : Addr} {fs : List (Str × V)} (h : ErAt H a C fs) (k : Kp H H') : ErAt H' a C fs := h.ext (.of k)
def kV1 (cA : Str → Addr) (C : Addr) (c : Er) : V := .bl (decide (C = cA c.2.1))
/-- an error -/
def Own (K : PySem.W.Frag) (P C : Addr) : Prop := ∃ fI, ErrC K C fI ∧ clsB K P C = true
def spKind (K : PySem.W.Frag) (P : Addr) (cA : Str → Addr) (cs : List Er) : Sp := fun vs H Q _ => ∃ (a C : Addr) (fs : List (Str × V)), vs = [.ref a] ∧ Own K P C ∧ ErAt H a C fs ∧
  ∀ (l : Addr) (H' : Hp), H' l = some (.lst (cs.map (kV1 cA C))) → Kp H H' → Q (.ref l) H'
section
variable {X : Cx} {CP : Addr} {cA iA fA dA tA : Str → Addr}
theorem cls_ne (Fx : Fx X.K CP cA iA fA dA tA) {c : Er} (hc : c ∈ ers) : cA c.2.1 ≠ CP := fun z => by
  have n := (List.nodup_cons.mp Fx.nd).1
  exact n (List.mem_map.mpr ⟨c, hc, z⟩)
/-- isinstance(e, c) -/
theorem isx_pe (gm : ∀ c ∈ ers, X.mg c.2.1 = some (.ref (cA c.2.1))) (gi : X.mg ("isinstance" : Str) = none) (g0 : Gl X ("isinstance" : Str)) (N0 : X.N[0]? = some ("e" : Str)) (v0 : Vis X.env.scope ("e" : Str))
    {c : Er} (hc : c ∈ ers) (hg : Gl X c.2.1) (hd : (c.2.1 == ("__debug__" : Str)) = false) {p1 p2 p3 p4 : Pos} : PE X (isX c.2.1 p1 p2 p3 p4) (tCB (rIsX X.K) (tCons (tVar 0) (tCons (tC (.ref (cA c.2.1))) tNil))) :=
  pe_callB call_isx g0 gi rfl (pa_cons (pe_var N0 v0) (pa_cons (pe_glob hg (gm c hc) rfl hd) pa_nil))
theorem isx_go (Fx : Fx X.K CP cA iA fA dA tA) {c : Er} (hc : c ∈ ers) {a C : Addr} {fs : List (Str × V)} (O : Own X.K CP C) {H : Hp} (ha : ErAt H a C fs) {σ : L2.St} {Q : VK} (h : Q (kV1 cA C c) H) :
    tCB (rIsX X.K) (tCons (tVar 0) (tCons (tC (.ref (cA c.2.1))) tNil)) (some (.ref a) :: σ) H Q := by
  obtain ⟨fI, E, cb⟩ := O
  obtain ⟨_, c2, _⟩ := Fx.err c hc
  refine ⟨_, rfl, a, C, fI, fs, _, _, _, rfl, E, ha, ClsV.own _, kit_ref cb (cls_is c2) (ty_in c2), ?_⟩
  have e : (decide (cA c.2.1 = CP)) = false := decide_eq_false (cls_ne Fx hc)
  rw [e, Bool.or_false]
  exact h
theorem kind_go (Fx : Fx X.K CP cA iA fA dA tA) (gm : ∀ c ∈ ers, X.mg c.2.1 = some (.ref (cA c.2.1))) (gi : X.mg ("isinstance" : Str) = none) (g0 : Gl X ("isinstance" : Str)) (hN : X.N.Nodup) (hfn : X.fn ("found" : Str) = true)
    (N0 : X.N[0]? = some ("e" : Str)) (N1 : X.N[1]? = some ("found" : Str)) (v0 : Vis X.env.scope ("e" : Str)) (v1 : X.env.scope.names.lookup ("found" : Str) = some .local) :
    ∀ (n : Nat) (cs pre : List Er) (sts : List Stmt), cs.length ≤ n → KindSh cs sts → (∀ c ∈ cs, c ∈ ers ∧ Gl X c.2.1 ∧ (c.2.1 == ("__debug__" : Str)) = false) → pre.length + cs.length ≤ 60 →
    ∃ t, PSs X sts t ∧ ∀ (D : Ends) (H : Hp) (a C : Addr) (fs : List (Str × V)) (l : Addr), Own X.K CP C → ErAt H a C fs → H l = some (.lst (pre.map (kV1 cA C))) →
      (∀ (l' : Addr) (H' : Hp), H' l' = some (.lst ((pre ++ cs).map (kV1 cA C))) → Kp H H' → D.rt (.ref l') H') → t D [some (.ref a), some (.ref l)] H
  | n, [], pre, sts, _, sh, _, _ => by
    obtain ⟨p1, p2, rfl⟩ := sh
    refine ⟨_, pss_one (ps_ret (pe_var N1 (.inl v1))), fun D H a C fs l O ha hl k => ⟨_, rfl, ?_⟩⟩
    refine k l H ?_ (fun b o h => h)
    rw [List.append_nil]
    exact hl
  | n, [c], pre, [s1, s2], _, sh, hc, hn => by
    obtain ⟨p1, p2, p3, p4, p5, q1, q2, q3, q4, r1, r2, rfl, rfl⟩ := sh
    obtain ⟨c1, c2, c3⟩ := hc c List.mem_cons_self
    refine ⟨_, pss_cons (ps_set (i := 1) hN N1 (.inl v1) (pe_op op_cat (pe_var N1 (.inl v1)) (pe_lst (pa_cons (isx_pe gm gi g0 N0 v0 c1 c2 c3) pa_nil))) rfl (.inl hfn)) (pss_one (ps_ret (pe_var N1 (.inl v1)))), fun D H a C fs l O ha hl k => ?_⟩
    refine ⟨_, rfl, isx_go Fx c1 O ha ⟨by show 1 ≤ sizeLine; decide, fun m hm => ?_⟩⟩
    have e1 : Kp H (upd H m (.lst [kV1 cA C c])) := kp_new hm
    refine ⟨l, m, _, _, rfl, rfl, e1 _ _ hl, upd_same, ?_, fun p hp => ?_⟩
    · rw [List.length_map]
      have z : 100 ≤ sizeLine := by decide
      simp only [List.length_cons, List.length_nil] at hn ⊢
      omega
    · refine ⟨_, rfl, k p _ ?_ (fun b o h => kp_new hp _ _ (e1 _ _ h))⟩
      rw [upd_same, List.map_append]
      rfl
  | n + 1, c :: d :: cs, pre, st :: sts, hlen, sh, hc, hn => by
    obtain ⟨⟨p1, p2, p3, p4, p5, q1, q2, q3, q4, r1, r2, r3, r4, rfl⟩, sh2⟩ := sh
    obtain ⟨c1, c2, c3⟩ := hc c List.mem_cons_self
    obtain ⟨d1, d2, d3⟩ := hc d (List.mem_cons_of_mem _ List.mem_cons_self)
    have hn2 : (pre ++ [c, d]).length + cs.length ≤ 60 := by
      rw [List.length_append]
      simp only [List.length_cons, List.length_nil] at hn ⊢
      omega
    obtain ⟨t2, ps2, k2⟩ := kind_go Fx gm gi g0 hN hfn N0 N1 v0 v1 n cs (pre ++ [c, d]) sts (by simp only [List.length_cons] at hlen; omega) sh2 (fun x hx => hc x (List.mem_cons_of_mem _ (List.mem_cons_of_mem _ hx))) hn2
    refine ⟨_, pss_cons (ps_set (i := 1) hN N1 (.inl v1) (pe_op op_cat (pe_var N1 (.inl v1)) (pe_lst (pa_cons (isx_pe gm gi g0 N0 v0 c1 c2 c3) (pa_cons (isx_pe gm gi g0 N0 v0 d1 d2 d3) pa_nil)))) rfl (.inl hfn)) ps2, fun D H a C fs l O ha hl k => ?_⟩
    refine ⟨_, rfl, isx_go Fx c1 O ha (isx_go Fx d1 O ha ⟨by show 2 ≤ sizeLine; decide, fun m hm => ?_⟩)⟩
    have e1 : Kp H (upd H m (.lst [kV1 cA C c, kV1 cA C d])) := kp_new hm
    refine ⟨l, m, _, _, rfl, rfl, e1 _ _ hl, upd_same, ?_, fun p hp => ?_⟩
    · rw [List.length_map]
      have z : 100 ≤ sizeLine := by decide
      simp only [List.length_cons, List.length_nil] at hn ⊢
      omega
    · have e2 : Kp H (upd (upd H m (.lst [kV1 cA C c, kV1 cA C d])) p (.lst (pre.map (kV1 cA C) ++ [kV1 cA C c, kV1 cA C d]))) := fun b o h => kp_new hp _ _ (e1 _ _ h)
      refine k2 D _ a C fs p O (ha.kp e2) (by rw [upd_same, List.map_append]; rfl) fun l' H' hl' e' => ?_
      refine k l' H' ?_ (fun b o h => e' _ _ (e2 _ _ h))
      rw [List.append_assoc] at hl'
      exact hl'
  | 0, _ :: _ :: _, _, _, hlen, _, _, _ => by
    simp only [List.length_cons] at hlen
    omega
  | _, [c], _, [], _, sh, _, _ => (show False from sh).elim
  | _, [c], _, [_], _, sh, _, _ => (show False from sh).elim
  | _, [c], _, _ :: _ :: _ :: _, _, sh, _, _ => (show False from sh).elim
  | _, _ :: _ :: _, _, [], _, sh, _, _ => (show False from sh).elim
end
def kindOkB (cs : List Er) (sc : Scope) : Bool := scP ["e", "found"] ["e"] sc && (decide (sc.names.lookup ("e" : Str) = some .local) && (decide (sc.names.lookup ("found" : Str) = some .local) && (decide (sc.names.lookup ("isinstance" : Str) = some .globalImplicit) &&
  (cs.all fun c => decide (sc.names.lookup c.2.1 = some .globalImplicit) && !(c.2.1 == ("__debug__" : Str))))))
theorem kindOkA : kindOkB ersA (defScope (top 63)) = true := by decide +kernel
theorem kindOkB' : kindOkB ersB (defScope (top 64)) = true := by decide +kernel
theorem ok_kind {P : Program} {w : World} {K : PySem.W.Frag} {mg : Str → Option Value} {base : Heap} {CP : Addr} {cA iA fA dA tA : Str → Addr} (Fx : Fx K CP cA iA fA dA tA) (gm : ∀ c ∈ ers, mg c.2.1 = some (.ref (cA c.2.1))) (gi : mg ("isinstance" : Str) = none)
    {x : Str} {i : Nat} {cs : List Er} {fd : FuncData} {f : Addr} (hcs : ∀ c ∈ cs, c ∈ ers) (hlen : cs.length ≤ 60) (hok : kindOkB cs (defScope (top i)) = true) (sh : KindsSh cs (defBody (top i))) (F : FunD K x x (defArgs (top i)) (defBody (top i)) (defScope (top i)) [] [] f fd) :
    FnOk P w K mg base CX0 1 f fd ["e"] (spKind K CP cA cs) := by
  obtain ⟨o1, o⟩ := He.ba hok
  obtain ⟨o2, o⟩ := He.ba o
  obtain ⟨o3, o⟩ := He.ba o
  obtain ⟨o4, o5⟩ := He.ba o
  have S := scP_ok o1
  have hx : (defScope (top i)).names.lookup ("e" : Str) = some .local := of_decide_eq_true o2
  have hf : (defScope (top i)).names.lookup ("found" : Str) = some .local := of_decide_eq_true o3
  have hi : (defScope (top i)).names.lookup ("isinstance" : Str) = some .globalImplicit := of_decide_eq_true o4
  have hgl : ∀ c ∈ cs, (defScope (top i)).names.lookup c.2.1 = some .globalImplicit ∧ (c.2.1 == ("__debug__" : Str)) = false := fun c hc => by
    have z := List.all_eq_true.mp o5 c hc
    obtain ⟨z1, z2⟩ := He.ba z
    exact ⟨of_decide_eq_true z1, by simpa using z2⟩
  refine F.ok S (fun vs H Q E h => ?_) fun cdv A outer s H vs Q E hr h => ?_
  · obtain ⟨a, C, fs, rfl, _⟩ := h
    rfl
  · obtain ⟨a, C, fs, rfl, O, ha, k⟩ := h
    obtain ⟨p1, p2, p3, sts, e, rows⟩ := sh
    rw [e]
    obtain ⟨t, ps, go⟩ := kind_go (X := cxOf CX0 P w K mg base ["e", "found"] x (defScope (top i)) f cdv A outer s H E) Fx gm gi hi S.nd rfl rfl rfl (.inl hx) hf cs.length cs [] sts (Nat.le_refl _) rows
      (fun c hc => ⟨hcs c hc, (hgl c hc).1, (hgl c hc).2⟩) (by simpa using hlen)
    refine ⟨_, pss_cons (ps_set (i := 1) S.nd rfl (.inl hf) (pe_lst pa_nil)) ps, ?_⟩
    refine ⟨Nat.zero_le _, fun l hl => ?_⟩
    show t _ [some (.ref a), some (.ref l)] _
    refine go _ _ a C fs l O (ha.kp (kp_new hl)) upd_same fun l' H' hl' e' => ?_
    exact k l' H' hl' (fun b o h => e' _ _ (kp_new hl _ _ h))
end K00
namespace K00
open PySem PySem.Spec PyProof.Rows L2 LamX NdefX

/-! ### is it the class that stands at this place, and no other -/
theorem iteT {p q : Prop} {b : Bool} (h : b = true) (hp : p) : if b = true then p else q := by
  subst h
  exact hp
theorem iteF {p q : Prop} {b : Bool} (h : b = false) (hq : q) : if b = true then p else q := by
  subst h
  exact hq
theorem ers_len : ers.length = 53 := by rfl
def placeL (n : Nat) : List V := (List.range 53).map fun k : Nat => V.bl (decide ((0 + (k : Int)) = (n : Int)))
theorem own_list {K : PySem.W.Frag} {CP : Addr} {cA iA fA dA tA : Str → Addr} (Fx : Fx K CP cA iA fA dA tA) {n : Nat} {c : Er} (hc : ers[n]? = some c) : ersA.map (kV1 cA (cA c.2.1)) ++ ersB.map (kV1 cA (cA c.2.1)) = placeL n := by
  rw [← List.map_append]
  show ers.map (kV1 cA (cA c.2.1)) = placeL n
  unfold placeL
  have nd := (List.nodup_cons.mp Fx.nd).2
  refine List.ext_getElem (by rw [List.length_map, List.length_map, List.length_range, ers_len]) fun i h1 h2 => ?_
  rw [List.getElem_map, List.getElem_map, List.getElem_range]
  unfold kV1
  congr 1
  have hi : i < ers.length := by simpa using h1
  obtain ⟨hn, en⟩ := List.getElem?_eq_some_iff.mp hc
  have hi' : i < (ers.map fun c => cA c.2.1).length := by rw [List.length_map]; exact hi
  have hn' : n < (ers.map fun c => cA c.2.1).length := by rw [List.length_map]; exact hn
  have key : (ers.map fun c => cA c.2.1)[n] = (ers.map fun c => cA c.2.1)[i] ↔ n = i := List.getElem_inj nd
  rw [List.getElem_map, List.getElem_map, en] at key
  refine decide_eq_decide.mpr ⟨fun z => ?_, fun z => ?_⟩
  · have e := key.mp z
    omega
  · exact key.mpr (by omega)
def spOwn (K : PySem.W.Frag) (P : Addr) (cA : Str → Addr) : Sp := fun vs H Q _ => ∃ (a : Addr) (n : Nat) (c : Er) (fs : List (Str × V)), vs = [.ref a, .int n] ∧ ers[n]? = some c ∧ ErAt H a (cA c.2.1) fs ∧
  ∀ H' : Hp, Kp H H' → Q (.bl true) H'
theorem scOwn : FnScope ["e", "at", "k"] ["e", "at"] (defScope (top 65)) := scP_ok (by decide +kernel)
theorem ok_own {P : Program} {w : World} {K : PySem.W.Frag} {mg : Str → Option Value} {base : Heap} {CP : Addr} {cA iA fA dA tA : Str → Addr} (Fx : Fx K CP cA iA fA dA tA) (gP : mg ("PageError" : Str) = some (.ref CP)) (gi : mg ("isinstance" : Str) = none)
    (gV : mg ("ValueError" : Str) = none) (gL : mg ("LookupError" : Str) = none) (gR : mg ("range" : Str) = none) {fd fda fdb : FuncData} {f fa fb : Addr} (ga : mg ("_law_kinds_a" : Str) = some (.ref fa)) (gb : mg ("_law_kinds_b" : Str) = some (.ref fb))
    (GA : FnOk P w K mg base CX0 1 fa fda ["e"] (spKind K CP cA ersA)) (GB : FnOk P w K mg base CX0 1 fb fdb ["e"] (spKind K CP cA ersB)) (ka : PySem.W.keepIn K (.ref fa) = true) (kb : PySem.W.keepIn K (.ref fb) = true) (ba : Binds K fda ["e"] []) (bb : Binds K fdb ["e"] [])
    {x : Str} (F : FunD K x x (defArgs (top 65)) (defBody (top 65)) (defScope (top 65)) [] [] f fd) : FnOk P w K mg base CX0 2 f fd ["e", "at"] (spOwn K CP cA) := by
  refine F.ok scOwn (fun vs H Q E h => ?_) fun cdv A outer s H vs Q E hr h => ?_
  · obtain ⟨a, n, c, fs, rfl, _⟩ := h
    rfl
  · have hu : (A.deeper (envOfC x (defScope (top 65)) s.heap.objs.size f cdv)).units + 64 < cLine := by
      have := hr.un
      omega
    obtain ⟨a, n, c, fs, rfl, hc, ha, k⟩ := h
    have cm : c ∈ ers := List.mem_of_getElem? hc
    obtain ⟨E1, cb, _⟩ := Fx.err c cm
    have O : Own K CP (cA c.2.1) := ⟨_, E1, cb⟩
    have kP : PySem.W.kitOne K (.ref (cA c.2.1)) (.ref CP) = some true := by
      rw [kit_ref cb Fx.pc Fx.pt]
      simp
    have kVE : PySem.W.kitOne K (.ref (cA c.2.1)) (.type "ValueError") = some true := by
      rw [kit_ty cb "ValueError" (by decide +kernel)]
      decide +kernel
    have kLE : PySem.W.kitOne K (.ref (cA c.2.1)) (.type "LookupError") = some false := by
      rw [kit_ty cb "LookupError" (by decide +kernel)]
      decide +kernel
    refine ⟨_, pss_cons (ps_if (PW.pt (pw_or (pt_not (pt_val (pe_callB call_isx rfl gi rfl (pa_cons (pv 0) (pa_cons (pe_glob (v := .ref CP) rfl gP rfl) pa_nil))))) (pw_or (pt_not (pt_val (pe_callB call_isx rfl gi rfl (pa_cons (pv 0) (pa_cons (pe_bltn (v := .ty "ValueError") rfl gV rfl rfl) pa_nil)))))
      (pw_or1 (pt_val (pe_callB call_isx rfl gi rfl (pa_cons (pv 0) (pa_cons (pe_bltn (v := .ty "LookupError") rfl gL rfl rfl) pa_nil)))))))) pss_never pss_nil)
      (pss_one (ps_ret (pe_cmpR (op_eqS hu) (pe_op op_cat (pe_call GA hr rfl ga ka ba .nil pass0 (pa_cons (pv 0) pa_nil)) (pe_call GB hr rfl gb kb bb .nil pass0 (pa_cons (pv 0) pa_nil)))
        (pe_lc (own := [("k", 2)]) (g := gName 2) (tt := tYes) rfl scOwn.nd (pi_range1 rfl gR (pa_cons pe_int pa_nil)) (blkOk_by (N := ["e", "at", "k"]) (sc := defScope (top 65)) (by decide +kernel)) (fun _ _ _ _ _ => pg_name (i := 2) scOwn.nd rfl (Or.inl rfl))
          (fun _ _ _ _ _ => pts_nil) (fun _ _ _ _ _ => pe_cmp (pc_eqI (pv 2) (pv 1)))) (nomark _)))), ?_⟩
    refine ⟨_, rfl, a, _, _, fs, _, _, _, rfl, E1, ha, ClsV.own _, kP, ⟨_, rfl, ?_⟩⟩
    refine iteF rfl ?_
    refine ⟨_, rfl, a, _, _, fs, _, _, _, rfl, E1, ha, ClsV.ty _, kVE, ⟨_, rfl, ?_⟩⟩
    refine iteF rfl ?_
    refine ⟨_, rfl, a, _, _, fs, _, _, _, rfl, E1, ha, ClsV.ty _, kLE, ⟨_, rfl, ?_⟩⟩
    refine iteF rfl ?_
    refine ⟨_, rfl, a, _, fs, rfl, O, ha, fun la H1 hla e1 => ?_⟩
    refine ⟨_, rfl, a, _, fs, rfl, O, ha.kp e1, fun lb H2 hlb e2 => ?_⟩
    refine ⟨la, lb, _, _, rfl, rfl, e2 _ _ hla, hlb, by rw [List.length_map, List.length_map]; decide, fun p hp => ?_⟩
    have e3 : Kp H (upd H2 p (.lst (ersA.map (kV1 cA (cA c.2.1)) ++ ersB.map (kV1 cA (cA c.2.1))))) := fun b o h => kp_new hp _ _ (e2 _ _ (e1 _ _ h))
    have hp3 : upd H2 p (.lst (ersA.map (kV1 cA (cA c.2.1)) ++ ersB.map (kV1 cA (cA c.2.1)))) p = some (.lst (ersA.map (kV1 cA (cA c.2.1)) ++ ersB.map (kV1 cA (cA c.2.1)))) := upd_same
    generalize upd H2 p (.lst (ersA.map (kV1 cA (cA c.2.1)) ++ ersB.map (kV1 cA (cA c.2.1)))) = H3 at e3 hp3
    refine ⟨53, rfl, by decide, by decide, fun D hD => ?_⟩
    refine lc_range (lo := 0) (n := 53) (fun i H' => H' D = some (.lst ((List.range i).map fun k : Nat => V.bl (decide ((0 + (k : Int)) = (n : Int))))) ∧ Kp H3 H') ⟨upd_same, kp_new hD⟩ (fun i H' hi h => ?_) fun H' h => ?_
    · obtain ⟨h1, h2⟩ := h
      refine ⟨rfl, _, rfl, _, rfl, _, _, rfl, rfl, _, h1, ?_, ?_, fun b o z => ?_⟩
      · rw [List.length_map, List.length_range]
        exact Nat.lt_trans hi (by decide)
      · rw [upd_same, List.range_succ, List.map_append]
        rfl
      · rw [upd_ne (ne_of_none z hD)]
        exact h2 _ _ z
    · obtain ⟨h1, h2⟩ := h
      have e4 := own_list Fx hc
      rw [e4] at hp3
      refine ⟨p, D, placeL n, rfl, rfl, h2 _ _ hp3, h1, fun v hv => ?_, k H' fun b o z => h2 _ _ (e3 _ _ z)⟩
      obtain ⟨i, _, rfl⟩ := List.mem_map.mp hv
      rfl
/-! ### the same by repr and by == -/
def spSame : Sp := fun vs H Q _ => ∃ (a b : Addr) (xs : List V) (d : PyData), vs = [.ref a, .ref b] ∧ H a = some (.lst xs) ∧ H b = some (.lst xs) ∧ (∀ v ∈ xs, flatV v = true) ∧ Dd H (.ref a) d ∧ Dd H (.ref b) d ∧ d.showable = true ∧ d.depth ≤ 10 ∧ d.shown.length ≤ sizeLine ∧
  Q (.bl true) H
theorem scSame : FnScope ["found", "due"] ["found", "due"] (defScope (top 66)) := scP_ok (by decide +kernel)
theorem ok_same {P : Program} {w : World} {K : PySem.W.Frag} {mg : Str → Option Value} {base : Heap} {CP : Addr} {cA iA fA dA tA : Str → Addr} (Fx : Fx K CP cA iA fA dA tA) (gR : mg ("repr" : Str) = none) {fd : FuncData} {f : Addr}
    {x : Str} (F : FunD K x x (defArgs (top 66)) (defBody (top 66)) (defScope (top 66)) [] [] f fd) : FnOkG P w K mg base 1 f fd ["found", "due"] spSame := by
  refine fng_of F scSame (fun vs H Q E h => ?_) fun cdv A outer s H vs Q hgd hr h => ?_
  · obtain ⟨a, b, xs, d, rfl, _⟩ := h
    rfl
  · have hu : (A.deeper (envOfC x (defScope (top 66)) s.heap.objs.size f cdv)).units + 64 < cLine := by
      have := hr.un
      omega
    obtain ⟨o, hs⟩ := Fx.sys
    obtain ⟨a, b, xs, d, rfl, ha, hb, fl, da, db, sh, dp, sz, q⟩ := h
    refine ⟨_, pss_one (ps_ret (pe_and (pe_cmpR op_eq (pe_callB (call_reprD hs hgd hu) rfl gR rfl (pa_cons (pv 0) pa_nil)) (pe_callB (call_reprD hs hgd hu) rfl gR rfl (pa_cons (pv 1) pa_nil)) (nomark _)) (pe_one (pe_cmpR (op_eqS hu) (pv 0) (pv 1) (nomark _))))), ?_⟩
    refine ⟨_, rfl, a, d, rfl, da, sh, dp, sz, ⟨_, rfl, b, d, rfl, db, sh, dp, sz, rfl, _, rfl, ?_⟩⟩
    refine iteT (decide_eq_true rfl) ?_
    exact ⟨_, rfl, _, rfl, a, b, xs, rfl, rfl, ha, hb, fl, q⟩
end K00
namespace K00
open PySem PySem.Spec PyProof.Rows L2 LamX NdefX

/-! ### the stream of numbers -/
structure StAt (H : Hp) (s l : Addr) (ns : List Int) (v cnt mem : Int) : Prop where
  h1 : H s = some (.lst [.ref l, .int v, .int cnt, .int mem])
  h2 : H l = some (.lst (ns.map V.int))
  ne : s ≠ l
  v0 : 0 ≤ v
  c0 : 0 ≤ cnt
  m0 : 0 ≤ mem
  m1 : mem < 2147483647
/-- but the stream's two lists all stays -/
def KpS (s l : Addr) (H H' : Hp) : Prop := ∀ b o, b ≠ s → b ≠ l → H b = some o → H' b = some o
theorem KpS.trans {s l : Addr} {H H1 H2 : Hp} (a : KpS s l H H1) (b : KpS s l H1 H2) : KpS s l H H2 := fun c o h1 h2 e => b c o h1 h2 (a c o h1 h2 e)
theorem KpS.put {s l : Addr} {H : Hp} {o : HO} : KpS s l H (upd H s o) := fun b u h1 _ e => by
  rw [upd_ne h1]
  exact e
theorem KpS.putL {s l : Addr} {H : Hp} {o : HO} : KpS s l H (upd H l o) := fun b u _ h2 e => by
  rw [upd_ne h2]
  exact e
theorem KpS.of {s l : Addr} {H H' : Hp} (k : Kp H H') : KpS s l H H' := fun b o _ _ e => k b o e
section
variable {H : Hp} {s l : Addr} {ns : List Int} {v cnt mem : Int}
theorem StAt.put (S : StAt H s l ns v cnt mem) {v' c' m' : Int} (a : 0 ≤ v') (b : 0 ≤ c') (c : 0 ≤ m') (d : m' < 2147483647) : StAt (upd H s (.lst [.ref l, .int v', .int c', .int m'])) s l ns v' c' m' :=
  ⟨upd_same, by rw [upd_ne S.ne.symm]; exact S.h2, S.ne, a, b, c, d⟩
theorem StAt.putL (S : StAt H s l ns v cnt mem) (ms : List Int) : StAt (upd H l (.lst (ms.map V.int))) s l ms v cnt mem :=
  ⟨by rw [upd_ne S.ne]; exact S.h1, upd_same, S.ne, S.v0, S.c0, S.m0, S.m1⟩
theorem StAt.kp (S : StAt H s l ns v cnt mem) {H' : Hp} (k : Kp H H') : StAt H' s l ns v cnt mem := ⟨k _ _ S.h1, k _ _ S.h2, S.ne, S.v0, S.c0, S.m0, S.m1⟩
end
def spStream (K : PySem.W.Frag) : Sp := fun vs H Q _ => ∃ (a : Addr) (ns : List Int), vs = [.ref a] ∧ SqL K H a (ns.map V.int) ∧ ∀ (s l : Addr) (H' : Hp), StAt H' s l ns 0 0 17 → Kp H H' → H s = none → H l = none → Q (.ref s) H'
theorem scStream : FnScope ["script"] ["script"] (defScope (top 57)) := scP_ok (by decide +kernel)
theorem ok_stream {P : Program} {w : World} {K : PySem.W.Frag} {mg : Str → Option Value} {base : Heap} (gl : mg ("list" : Str) = none) {fd : FuncData} {f : Addr}
    {x : Str} (F : FunD K x x (defArgs (top 57)) (defBody (top 57)) (defScope (top 57)) [] [] f fd) : FnOk P w K mg base CX0 1 f fd ["script"] (spStream K) := by
  refine F.ok scStream (fun vs H Q E h => ?_) fun cdv A outer s H vs Q E hr h => ?_
  · obtain ⟨a, ns, rfl, _⟩ := h
    rfl
  · obtain ⟨a, ns, rfl, hS, k⟩ := h
    refine ⟨_, pss_one (ps_ret (pe_lst (pa_cons (pe_callTy call_list_of rfl gl rfl (pa_cons (pv 0) pa_nil)) (pa_cons pe_int (pa_cons pe_int (pa_cons pe_int pa_nil)))))), ?_⟩
    refine ⟨_, rfl, a, _, rfl, .inl hS, fun l hl => ⟨by show 4 ≤ sizeLine; decide, fun q hq => ?_⟩⟩
    have ne : q ≠ l := fun z => by
      rw [z, upd_same] at hq
      cases hq
    have hq0 : H q = none := by
      rw [upd_ne ne] at hq
      exact hq
    refine k q l _ ⟨upd_same, ?_, ne, by decide, by decide, by decide, by decide⟩ (fun b o e => kp_new hq _ _ (kp_new hl _ _ e)) hq0 hl
    rw [upd_ne ne.symm, upd_same]
theorem dp_ints {K : PySem.W.Frag} {H : Hp} : ∀ ns : List Int, DpAll K H (ns.map V.int) (ns.map PyData.int)
  | [] => .nil
  | n :: r => .cons (.int n) (dp_ints r)
theorem sh_ints (ns : List Int) : SeqAt.shaped (.list (ns.map PyData.int)) = true := by
  induction ns with
  | nil => rfl
  | cons n r ih => exact ih
theorem iteB {p q : Prop} {b : Bool} (hp : b = true → p) (hq : b = false → q) : if b = true then p else q := by
  cases b with
  | true => exact hp rfl
  | false => exact hq rfl
def spDraw : Sp := fun vs H Q _ => ∃ (s l : Addr) (m : Int) (ns : List Int) (v cnt mem : Int), vs = [.ref s, .int m] ∧ 0 < m ∧ m < 1000000 ∧ StAt H s l ns v cnt mem ∧ cnt ≤ 100000 ∧
  ∀ (r : Int) (H' : Hp) (ns' : List Int) (v' mem' : Int), 0 ≤ r → r < m → StAt H' s l ns' v' (cnt + 1) mem' → KpS s l H H' → Q (.int r) H'
theorem scDraw : FnScope ["stream", "many", "cell", "digit", "mixed"] ["stream", "many"] (defScope (top 58)) := scP_ok (by decide +kernel)
/-- what follows the loop -/
theorem draw_tail {P : Program} {w : World} {K : PySem.W.Frag} {mg : Str → Option Value} {base : Heap} (gi : mg ("int" : Str) = none) {f : Addr} {x : Str} {cdv : Value} {A : Around} {outer : List Env} {s0 : Shared} {H0 : Hp} {E : XK}
    {s l : Addr} {m cnt : Int} (m0 : 0 < m) (m1 : m < 1000000) (cb : 0 ≤ cnt) (hc : cnt ≤ 100000) : ∃ t, PSs (cxOf CX0 P w K mg base ["stream", "many", "cell", "digit", "mixed"] x (defScope (top 58)) f cdv A outer s0 H0 E).nox ((defBody (top 58)).drop 2) t ∧
      ∀ (D : Ends) (H H' : Hp) (c0 : Option V) (ns : List Int) (v mem : Int), StAt H' s l ns v (cnt + 1) mem → KpS s l H H' →
        (∀ (r : Int) (H' : Hp) (ns' : List Int) (v' mem' : Int), 0 ≤ r → r < m → StAt H' s l ns' v' (cnt + 1) mem' → KpS s l H H' → D.rt (.int r) H') → t D [some (.ref s), some (.int m), c0, none, none] H' := by
  refine ⟨_, pss_cons (ps_if (pt_cmp (pc_gt (pe_ix ix_list (pv 0) pe_int (fun _ _ => rfl)) pe_int))
          (pss_cons (ps_set (i := 3) scDraw.nd rfl (.inl rfl) (pe_op op_mod (pe_callTy call_int1 rfl gi rfl (pa_cons (pe_ix ix_list (pv 0) pe_int (fun _ _ => rfl)) pa_nil)) (pv 1)))
            (pss_cons (ps_asg (pe_op op_fdiv (pe_ix ix_list (pv 0) pe_int (fun _ _ => rfl)) (pv 1)) (pg_sub (pv 0) pe_int set_list)) (pss_one (ps_ret (pv 3))))) pss_nil)
          (pss_cons (ps_set (i := 4) scDraw.nd rfl (.inl rfl) (pe_op op_mod (pe_callTy call_int1 rfl gi rfl (pa_cons (pe_op op_pow (pe_op op_add (pe_op op_add (pe_ix ix_list (pv 0) pe_int (fun _ _ => rfl)) (pe_op op_mul pe_int (pe_ix ix_list (pv 0) pe_int (fun _ _ => rfl)))) pe_int) pe_int) pa_nil)) pe_int))
            (pss_one (ps_ret (pe_op op_mod (pe_op op_mod (pe_callTy call_int1 rfl gi rfl (pa_cons (pe_op op_pow (pe_op op_add (pe_op op_add (pe_op op_mul (pv 4) pe_int) (pe_op op_mul pe_int (pe_ix ix_list (pv 0) pe_int (fun _ _ => rfl)))) pe_int) pe_int) pa_nil)) pe_int) (pv 1))))), fun D H H' c0 ns v mem S kk k => ?_⟩
  have v0 := S.v0
  have q0 := S.m0
  have q1 := S.m1
  refine ⟨_, rfl, s, _, 1, _, rfl, rfl, SqL.of S.h1, rfl, _, _, rfl, rfl, ⟨_, rfl, iteB (fun hb => ?_) fun hb => ?_⟩⟩
  · refine ⟨_, rfl, s, _, 1, _, rfl, rfl, SqL.of S.h1, rfl, .inl ⟨_, rfl, ⟨_, rfl, _, _, rfl, rfl, m0, ?_⟩⟩⟩
    refine ⟨_, rfl, s, _, 1, _, rfl, rfl, SqL.of S.h1, rfl, ⟨_, rfl, _, _, rfl, rfl, ⟨m0, by omega⟩, ⟨_, rfl, s, _, 1, 1, rfl, rfl, S.h1, rfl, ⟨_, rfl, ?_⟩⟩⟩⟩
    exact k (v % m) _ ns (v / m) mem (Int.emod_nonneg _ (by omega)) (Int.emod_lt_of_pos _ m0) (S.put (Int.ediv_nonneg v0 (by omega)) (by omega) q0 q1) (kk.trans KpS.put)
  · refine ⟨_, rfl, s, _, 3, _, rfl, rfl, SqL.of S.h1, rfl, ⟨_, rfl, s, _, 2, _, rfl, rfl, SqL.of S.h1, rfl, _, _, rfl, rfl, .inl ⟨by decide, by decide⟩, _, _, rfl, rfl, _, _, rfl, rfl, _, _, rfl, rfl, ⟨by decide, by decide, by omega⟩, .inl ⟨_, rfl, _, _, rfl, rfl, (show (0 : Int) < 2147483629 by decide), ?_⟩⟩⟩
    have b0 := Int.emod_nonneg ((mem + 7919 * (cnt + 1) + 104729) ^ (5 : Int).toNat) (show (2147483629 : Int) ≠ 0 by decide)
    have b1 := Int.emod_lt_of_pos ((mem + 7919 * (cnt + 1) + 104729) ^ (5 : Int).toNat) (show (0 : Int) < 2147483629 by decide)
    generalize (mem + 7919 * (cnt + 1) + 104729) ^ (5 : Int).toNat % 2147483629 = mx at b0 b1
    refine ⟨_, rfl, _, _, rfl, rfl, .inl ⟨by omega, by omega⟩, ⟨_, rfl, s, _, 2, _, rfl, rfl, SqL.of S.h1, rfl, _, _, rfl, rfl, .inl ⟨by decide, by decide⟩, _, _, rfl, rfl, _, _, rfl, rfl, _, _, rfl, rfl, ⟨by decide, by decide, by omega⟩, .inl ⟨_, rfl, _, _, rfl, rfl, (show (0 : Int) < 1000000007 by decide), ⟨_, rfl, _, _, rfl, rfl, m0, ?_⟩⟩⟩⟩
    exact k _ H' ns v mem (Int.emod_nonneg _ (by omega)) (Int.emod_lt_of_pos _ m0) S kk
theorem ok_draw {P : Program} {w : World} {K : PySem.W.Frag} {mg : Str → Option Value} {base : Heap} (gi : mg ("int" : Str) = none) (ga : mg ("abs" : Str) = none) {fd : FuncData} {f : Addr}
    {x : Str} (F : FunD K x x (defArgs (top 58)) (defBody (top 58)) (defScope (top 58)) [] [] f fd) : FnOk P w K mg base CX0 1 f fd ["stream", "many"] spDraw := by
  refine F.ok scDraw (fun vs H Q E h => ?_) fun cdv A outer s0 H vs Q E hr h => ?_
  · obtain ⟨s, l, m, ns, v, cnt, mem, rfl, _⟩ := h
    rfl
  · have hu : (A.deeper (envOfC x (defScope (top 58)) s0.heap.objs.size f cdv)).units + 64 < cLine := by
      have := hr.un
      omega
    obtain ⟨s, l, m, ns, v, cnt, mem, rfl, m0, m1, S, hc, k⟩ := h
    have cb : 0 ≤ cnt := S.c0
    obtain ⟨t2, ps2, go2⟩ := draw_tail (P := P) (w := w) (K := K) (mg := mg) (base := base) gi (f := f) (x := x) (cdv := cdv) (A := A) (outer := outer) (s0 := s0) (H0 := H) (E := E) (s := s) (l := l) m0 m1 cb hc
    refine ⟨_, PSs.nox (pss_cons (ps_asg (pe_op op_add (pe_ix ix_list (pv 0) pe_int (fun _ _ => rfl)) pe_int) (pg_sub (pv 0) pe_int set_list))
      (pss_cons (ps_while PassesOwn.never (PW.pt (pw_and (pt_cmp (pc_eqI (pe_ix ix_list (pv 0) pe_int (fun _ _ => rfl)) pe_int)) (pw_and1 (pt_cmpR (op_neD hu) (pe_ix ix_list (pv 0) pe_int (fun _ _ => rfl)) (pe_lst pa_nil) (nomark _)))))
        (pss_cons (ps_set (i := 2) scDraw.nd rfl (.inl rfl) (pe_callB call_abs rfl ga rfl (pa_cons (pe_bm PySem.F.plainAttrs_list PySem.F.slot_list_pop PySem.F.type_list_pop mt_popAt (pe_ix ix_list (pv 0) pe_int (fun _ _ => rfl)) (pa_cons pe_int pa_nil)) pa_nil)))
          (pss_cons (ps_asg (pe_op op_mod (pe_callTy call_int1 rfl gi rfl (pa_cons (pe_op op_add (pe_op op_add (pe_op op_mul (pe_ix ix_list (pv 0) pe_int (fun _ _ => rfl)) pe_int) (pv 2)) pe_int) pa_nil)) pe_int) (pg_sub (pv 0) pe_int set_list))
            (pss_one (ps_asg (pe_ifExp (pt_cmp (pc_ge (pv 2) (pe_op op_pow pe_int pe_int))) (pv 2) pe_int) (pg_sub (pv 0) pe_int set_list)))))) ps2)), ?_⟩
    refine ⟨_, rfl, s, _, 2, _, rfl, rfl, SqL.of S.h1, rfl, _, _, rfl, rfl, ⟨_, rfl, s, _, 2, 2, rfl, rfl, S.h1, rfl, ?_⟩⟩
    have S1 : StAt (upd H s (.lst [.ref l, .int v, .int (cnt + 1), .int mem])) s l ns v (cnt + 1) mem := S.put S.v0 (by omega) S.m0 S.m1
    refine ⟨fun m' σ H' => ∃ (c0 : Option V) (ns : List Int) (v mem : Int), σ = [some (.ref s), some (.int m), c0, none, none] ∧ ns.length = m' ∧ StAt H' s l ns v (cnt + 1) mem ∧ KpS s l H H', ⟨_, _, _, _, _, rfl, rfl, S1, KpS.put⟩, fun m' σ H' hW => ?_⟩
    clear S S1
    obtain ⟨c0, ns, v, mem, rfl, rfl, S, kk⟩ := hW
    refine ⟨_, rfl, s, _, 1, _, rfl, rfl, SqL.of S.h1, rfl, _, _, rfl, rfl, ⟨_, rfl, iteB (fun hb => ?_) fun hb => ?_⟩⟩
    · refine ⟨_, rfl, s, _, 0, _, rfl, rfl, SqL.of S.h1, rfl, ⟨Nat.zero_le _, fun e he => ?_⟩⟩
      have S2 : StAt (upd H' e (.lst [])) s l ns v (cnt + 1) mem := S.kp (kp_new he)
      refine ⟨_, _, .lst (SqL.of S2.h2) (dp_ints ns), .lst (SqL.of upd_same) .nil, sh_ints ns, rfl, ⟨_, rfl, ?_⟩⟩
      have k2 : KpS s l H (upd H' e (.lst [])) := kk.trans (.of (kp_new he))
      generalize upd H' e (.lst []) = H2 at S2 k2
      match ns, S2 with
      | [], S2 => exact go2 _ H H2 c0 [] v mem S2 k2 k
      | n :: r, S2 =>
        have v0 := S2.v0
        have q0 := S2.m0
        have q1 := S2.m1
        refine ⟨fun σ' H' => ∃ m', m' < (n :: r).length ∧ ∃ (c0 : Option V) (ns : List Int) (v mem : Int), σ' = [some (.ref s), some (.int m), c0, none, none] ∧ ns.length = m' ∧ StAt H' s l ns v (cnt + 1) mem ∧ KpS s l H H', fun σ' H' z => z, ?_⟩
        refine ⟨_, rfl, s, _, 0, _, rfl, rfl, SqL.of S2.h1, rfl, .inl ⟨rfl, _, SqL.of S2.h2⟩, l, _, 0, 0, _, rfl, rfl, S2.h2, by decide, by decide, ?_, rfl, ⟨_, rfl, ?_⟩⟩
        · simp [seqIndex?]
        · have a0 : (0 : Int) ≤ (if n < 0 then -n else n) := by split <;> omega
          generalize (if n < 0 then -n else n) = cell at a0
          have S3 : StAt (upd H2 l (.lst (r.map V.int))) s l r v (cnt + 1) mem := S2.putL r
          have k3 : KpS s l H (upd H2 l (.lst (r.map V.int))) := k2.trans KpS.putL
          show tSeq _ _ _ [some (.ref s), some (.int m), some (.int cell), none, none] (upd H2 l (.lst (r.map V.int)))
          generalize upd H2 l (.lst (r.map V.int)) = H3 at S3 k3
          refine ⟨_, rfl, s, _, 3, _, rfl, rfl, SqL.of S3.h1, rfl, _, _, rfl, rfl, .inl ⟨by omega, by omega⟩, ⟨_, rfl, _, _, rfl, rfl, _, _, rfl, rfl, .inl ⟨_, rfl, _, _, rfl, rfl, (show (0 : Int) < 2147483647 by decide), ⟨_, rfl, s, _, 3, 3, rfl, rfl, S3.h1, rfl, ?_⟩⟩⟩⟩
          have b0 := Int.emod_nonneg (mem * 8191 + cell + 3) (show (2147483647 : Int) ≠ 0 by decide)
          have b1 := Int.emod_lt_of_pos (mem * 8191 + cell + 3) (show (0 : Int) < 2147483647 by decide)
          have S4 : StAt (upd H3 s (.lst [.ref l, .int v, .int (cnt + 1), .int ((mem * 8191 + cell + 3) % 2147483647)])) s l r v (cnt + 1) ((mem * 8191 + cell + 3) % 2147483647) := S3.put v0 (by omega) b0 b1
          have k4 : KpS s l H (upd H3 s (.lst [.ref l, .int v, .int (cnt + 1), .int ((mem * 8191 + cell + 3) % 2147483647)])) := k3.trans KpS.put
          refine ⟨_, rfl, _, _, rfl, rfl, ⟨by decide, by decide, by decide⟩, _, _, rfl, rfl, ⟨_, rfl, iteB (fun hb2 => ?_) fun hb2 => ?_⟩⟩
          · refine ⟨_, rfl, ⟨_, rfl, s, _, 1, 1, rfl, rfl, S4.h1, rfl, r.length, Nat.lt_succ_self _, some (.int cell), r, cell, _, rfl, rfl, S4.put a0 (by omega) b0 b1, k4.trans KpS.put⟩⟩
          · refine ⟨_, rfl, s, _, 1, 1, rfl, rfl, S4.h1, rfl, r.length, Nat.lt_succ_self _, some (.int cell), r, 0, _, rfl, rfl, S4.put (by decide) (by omega) b0 b1, k4.trans KpS.put⟩
    · exact go2 _ H H' c0 ns v mem S kk k
end K00
namespace K00
open PySem PySem.Spec PyProof.Rows L2 LamX NdefX

/-! ### the things in another order -/
def spMixed : Sp := fun vs H Q _ => ∃ (s l t : Addr) (ns : List Int) (v cnt mem : Int) (xs : List V), vs = [.ref s, .ref t] ∧ StAt H s l ns v cnt mem ∧ cnt ≤ 1000 ∧ H t = some (.lst xs) ∧ xs.length ≤ 20 ∧
  ∀ (r : Addr) (H' : Hp) (ns' : List Int) (v' mem' : Int) (ys : List V), ys.length = xs.length → (∀ y ∈ ys, y ∈ xs) → H' r = some (.lst ys) → H r = none → StAt H' s l ns' v' (cnt + xs.length) mem' → KpS s l H H' → Q (.ref r) H'
theorem scMixed : FnScope ["stream", "things", "left", "k"] ["stream", "things"] (defScope (top 60)) := scP_ok (by decide +kernel)
theorem ok_mixed {P : Program} {w : World} {K : PySem.W.Frag} {mg : Str → Option Value} {base : Heap} (gl : mg ("list" : Str) = none) (gn : mg ("len" : Str) = none) (gR : mg ("range" : Str) = none) {fd fdD : FuncData} {f fD : Addr} (gD : mg ("_law_draw" : Str) = some (.ref fD))
    (GD : FnOk P w K mg base CX0 1 fD fdD ["stream", "many"] spDraw) (kD : PySem.W.keepIn K (.ref fD) = true) (bD : Binds K fdD ["stream", "many"] [])
    {x : Str} (F : FunD K x x (defArgs (top 60)) (defBody (top 60)) (defScope (top 60)) [] [] f fd) : FnOk P w K mg base CX0 2 f fd ["stream", "things"] spMixed := by
  refine F.ok scMixed (fun vs H Q E h => ?_) fun cdv A outer s0 H vs Q E hr h => ?_
  · obtain ⟨s, l, t, ns, v, cnt, mem, xs, rfl, _⟩ := h
    rfl
  · obtain ⟨s, l, t, ns, v, cnt, mem, xs, rfl, S, hc, hT, hl, k⟩ := h
    refine ⟨_, pss_cons (ps_set (i := 2) scMixed.nd rfl (.inr rfl) (pe_callTy call_list_of rfl gl rfl (pa_cons (pv 1) pa_nil)))
      (pss_one (ps_ret (pe_lc (own := [("k", 3)]) (g := gName 3) (tt := tYes) (te := tBM K "list" rPopAt (tVar 2) (tCons (tCall spDraw [] E0 (tCons (tVar 0) (tCons (tCB (fun xs H Q => ∃ x n, xs = [x] ∧ LenV K x H n ∧ Q (.int n) H) (tCons (tVar 2) tNil)) tNil))) tNil)) rfl scMixed.nd (pi_range1 rfl gR (pa_cons (pe_callB call_len rfl gn rfl (pa_cons (pv 2) pa_nil)) pa_nil)) (blkOk_by (N := ["stream", "things", "left", "k"]) (sc := defScope (top 60)) (by decide +kernel))
        (fun _ _ _ _ _ => pg_name (i := 3) scMixed.nd rfl (Or.inl rfl)) (fun _ _ _ _ _ => pts_nil)
        (fun _ _ _ _ _ => pe_bm PySem.F.plainAttrs_list PySem.F.slot_list_pop PySem.F.type_list_pop mt_popAt (pv 2) (pa_cons (pe_call GD hr rfl gD kD bD .nil pass0 (pa_cons (pv 0) (pa_cons (pe_callB call_len rfl gn rfl (pa_cons (pv 2) pa_nil)) pa_nil))) pa_nil))))), ?_⟩
    refine ⟨_, rfl, t, xs, rfl, .inl (SqL.of hT), fun L hL => ?_⟩
    have e1 : Kp H (upd H L (.lst xs)) := kp_new hL
    have sL : s ≠ L := ne_of_none S.h1 hL
    have lL : l ≠ L := ne_of_none S.h2 hL
    have hL1 : upd H L (.lst xs) L = some (.lst xs) := upd_same
    have S1 := S.kp e1
    generalize upd H L (.lst xs) = H1 at e1 hL1 S1
    refine ⟨_, rfl, _, _, rfl, .inl ⟨_, SqL.of hL1, rfl⟩, ?_⟩
    refine ⟨(xs.length : Int), rfl, by omega, by omega, fun D hD => ?_⟩
    have sD : s ≠ D := ne_of_none S1.h1 hD
    have lD : l ≠ D := ne_of_none S1.h2 hD
    have LD : L ≠ D := ne_of_none hL1 hD
    refine lc_range (lo := 0) (n := xs.length) (fun i H' => ∃ (ls ys : List V) (ns : List Int) (v mem : Int), H' L = some (.lst ls) ∧ ls.length + i = xs.length ∧ H' D = some (.lst ys) ∧ ys.length = i ∧ (∀ y ∈ ls, y ∈ xs) ∧ (∀ y ∈ ys, y ∈ xs) ∧ StAt H' s l ns v (cnt + (i : Int)) mem ∧ KpS s l H H')
      ⟨xs, [], ns, v, mem, by rw [upd_ne LD]; exact hL1, rfl, upd_same, rfl, fun y hy => hy, fun y hy => absurd hy List.not_mem_nil, by rw [show cnt + ((0 : Nat) : Int) = cnt by omega]; exact S1.kp (kp_new hD), .of fun b o h => kp_new hD _ _ (e1 _ _ h)⟩ (fun i H' hi h => ?_) fun H' h => ?_
    · obtain ⟨ls, ys, ns, v, mem, h1, h2, h3, h4, h5, h6, S2, k2⟩ := h
      refine ⟨rfl, _, rfl, .inl ⟨rfl, _, SqL.of h1⟩, _, rfl, _, rfl, _, _, rfl, .inl ⟨_, SqL.of h1, rfl⟩, s, l, _, ns, v, _, mem, rfl, ?_, ?_, S2, by omega, fun r H2 ns' v' mem' r0 r1 S3 k3 => ?_⟩
      · show (0 : Int) < (ls.length : Int)
        omega
      · show (ls.length : Int) < 1000000
        omega
      · have r1' : r < (ls.length : Int) := r1
        have hr2 : r.toNat < ls.length := by omega
        have g1 : ls[r.toNat]? = some ls[r.toNat] := List.getElem?_eq_getElem hr2
        have L2' : H2 L = some (.lst ls) := k3 _ _ sL.symm lL.symm h1
        have D2 : H2 D = some (.lst ys) := k3 _ _ sD.symm lD.symm h3
        refine ⟨L, ls, r, r.toNat, ls[r.toNat], rfl, rfl, L2', by omega, by omega, (ixN_seq (by unfold ixN; rw [if_pos r0, if_pos r1'])).1, g1, ?_⟩
        refine ⟨ys, by rw [upd_ne LD.symm]; exact D2, ?_, ls.eraseIdx r.toNat, ys ++ [ls[r.toNat]], ns', v', mem', ?_, ?_, upd_same, ?_, fun y hy => h5 y (List.mem_of_mem_eraseIdx hy), fun y hy => ?_, ?_, ?_⟩
        · have z : 100 ≤ sizeLine := by decide
          omega
        · rw [upd_ne LD, upd_same]
        · rw [List.length_eraseIdx_of_lt hr2]
          omega
        · rw [List.length_append]
          show ys.length + 1 = i + 1
          omega
        · rcases List.mem_append.mp hy with z | z
          · exact h6 y z
          · rw [List.mem_singleton.mp z]
            exact h5 _ (List.getElem_mem hr2)
        · have S4 : StAt (upd (upd H2 L (.lst (ls.eraseIdx r.toNat))) D (.lst (ys ++ [ls[r.toNat]]))) s l ns' v' (cnt + (i : Int) + 1) mem' :=
            ⟨by rw [upd_ne sD, upd_ne sL]; exact S3.h1, by rw [upd_ne lD, upd_ne lL]; exact S3.h2, S3.ne, S3.v0, S3.c0, S3.m0, S3.m1⟩
          rw [show cnt + ((i + 1 : Nat) : Int) = cnt + (i : Int) + 1 by omega]
          exact S4
        · intro b o n1 n2 hb
          have bL : b ≠ L := ne_of_none hb hL
          have bD : b ≠ D := fun z => by
            rw [← z] at hD
            rw [e1 _ _ hb] at hD
            cases hD
          rw [upd_ne bD, upd_ne bL]
          exact k3 _ _ n1 n2 (k2 _ _ n1 n2 hb)
    · obtain ⟨ls, ys, ns, v, mem, h1, h2, h3, h4, h5, h6, S2, k2⟩ := h
      have hD0 : H D = none := by
        cases z : H D with
        | none => rfl
        | some o =>
          rw [e1 _ _ z] at hD
          cases hD
      exact k D H' ns v mem ys h4 h6 h3 hD0 S2 k2
end K00
namespace K00
open PySem PySem.Spec PyProof.Rows L2 LamX NdefX

/-! ### the things that errors keep here -/
def menu : List PyData := [.none, .int 5, .int (-1), .bool true, .str "a", .str "", .list [.int 1, .str "b"], .tuple [.int 2, .none], .dict [(.str "a", .int 1)], .list [.list [.str "x"]], .int (10 ^ 17), .tuple [.str "s", .int 3], .bool false, .int 0, .int 1,
  .list [.str "v", .str "late"], .dict [(.str "w", .int 1), (.str "late", .int 2)]]
def okD (d : PyData) : Bool := d.showable && (decide (d.depth ≤ 10) && decide (d.shown.length ≤ sizeLine))
theorem menu0 : okD (.list []) = true := by decide +kernel
theorem menu1 : (menu.all fun d => okD (.list [d])) = true := by decide +kernel
theorem menu2 : (menu.all fun d => menu.all fun e => okD (.list [d, e])) = true := by decide +kernel
def GoodV (H : Hp) (v : V) : Prop := flatV v = true ∧ ∃ d, d ∈ menu ∧ Dd H v d
theorem GoodV.ext {H H' : Hp} {v : V} (g : GoodV H v) (e : ExtN H H') : GoodV H' v := by
  obtain ⟨f, d, m, h⟩ := g
  exact ⟨f, d, m, h.ext e⟩
theorem ws_ok {H : Hp} {v u : V} (gv : GoodV H v) (gu : GoodV H u) (fs : List Str) : (∀ w ∈ wsV v u fs, flatV w = true) ∧ ∃ ds, DdAll H (wsV v u fs) ds ∧ okD (.list ds) = true := by
  obtain ⟨f1, d, m1, h1⟩ := gv
  obtain ⟨f2, e, m2, h2⟩ := gu
  match fs with
  | [] => exact ⟨fun w hw => absurd hw List.not_mem_nil, [], .nil, menu0⟩
  | [_] => exact ⟨fun w hw => by rw [List.mem_singleton.mp (show w ∈ [v] from hw)]; exact f1, [d], .cons h1 .nil, List.all_eq_true.mp menu1 d m1⟩
  | _ :: _ :: r =>
    have e0 : wsV v u (‹Str› :: ‹Str› :: r) = [v, u] := by
      unfold wsV
      exact List.take_of_length_le (by simp)
    refine ⟨fun w hw => ?_, [d, e], ?_, List.all_eq_true.mp (List.all_eq_true.mp menu2 d m1) e m2⟩
    · have hw' : w ∈ [v, u] := List.mem_of_mem_take hw
      simp only [List.mem_cons, List.not_mem_nil, or_false] at hw'
      rcases hw' with z | z <;> rw [z]
      · exact f1
      · exact f2
    · have e1 : wsV v u (‹_› :: ‹_› :: r) = [v, u] := List.take_of_length_le (by simp)
      show DdAll H ([v, u].take (r.length + 1 + 1)) [d, e]
      rw [List.take_of_length_le (by simp)]
      exact .cons h1 (.cons h2 .nil)
/-! ### a row's checks -/
section
variable {P : Program} {w : World} {K : PySem.W.Frag} {mg : Str → Option Value} {base : Heap}
def tSame (P : Program) (w : World) (K : PySem.W.Frag) (mg : Str → Option Value) (base : Heap) (j : Nat) : TE := tCall spSame [] E0 (tCons (tLamC P w K mg base 2 10 (tCons (tVar j) tNil)) (tCons (tVar 11) tNil))
theorem same_go {σ : L2.St} {H : Hp} {Q : VK} {j : Nat} {C fI e f du : Addr} {fs : List Str} {v u : V} {F : NF} {body : Expr} (E : ErrC K C fI) (no : ∀ x ∈ fs, PySem.W.findIn K (.ref C) x = some none) (hl : (wsV v u fs).length = fs.length) (gv : GoodV H v) (gu : GoodV H u)
    (he : ErAt H e C (fs.zip (wsV v u fs)).reverse) (hf : H f = some (LamO f F body)) (hc : H F.c = some (CodeO F.c F.qual)) (G : LamG P w K mg base 2 f F body (spLam K C fs)) (hd : H du = some (.lst (wsV v u fs)))
    (sj : σ[j]? = some (some (.ref e))) (s10 : σ[10]? = some (some (.ref f))) (s11 : σ[11]? = some (some (.ref du))) (k : ∀ H', Kp H H' → Q (.bl true) H') : tSame P w K mg base j σ H Q := by
  refine ⟨f, F, body, _, s10, hf, G, _, sj, hf, hc, e, fI, wsV v u fs, rfl, hl, E, no, he, fun l hl => ?_⟩
  obtain ⟨fl, ds, hds, ok⟩ := ws_ok gv gu fs
  obtain ⟨o1, o2⟩ := He.ba ok
  obtain ⟨o2, o3⟩ := He.ba o2
  have k1 : Kp H (upd H l (.lst (wsV v u fs))) := kp_new hl
  exact ⟨_, s11, l, du, wsV v u fs, .list ds, rfl, upd_same, k1 _ _ hd, fl, .lst upd_same (hds.ext (.of k1)), .lst (k1 _ _ hd) (hds.ext (.of k1)), o1, of_decide_eq_true o2, of_decide_eq_true o3, k _ k1⟩
def tChk (P : Program) (w : World) (K : PySem.W.Frag) (mg : Str → Option Value) (base : Heap) : TS := tIfS (tOr (tNot (tB (tSame P w K mg base 8))) (tNot (tB (tSame P w K mg base 9)))) tNever tNext
theorem chk_go {σ : L2.St} {H : Hp} {D : Ends} {C fI m n f du : Addr} {fs : List Str} {v u : V} {F : NF} {body : Expr} (E : ErrC K C fI) (no : ∀ x ∈ fs, PySem.W.findIn K (.ref C) x = some none) (hl : (wsV v u fs).length = fs.length) (gv : GoodV H v) (gu : GoodV H u)
    (hm : ErAt H m C (fs.zip (wsV v u fs)).reverse) (hn : ErAt H n C (fs.zip (wsV v u fs)).reverse) (hf : H f = some (LamO f F body)) (hc : H F.c = some (CodeO F.c F.qual)) (G : LamG P w K mg base 2 f F body (spLam K C fs)) (hd : H du = some (.lst (wsV v u fs)))
    (s8 : σ[8]? = some (some (.ref m))) (s9 : σ[9]? = some (some (.ref n))) (s10 : σ[10]? = some (some (.ref f))) (s11 : σ[11]? = some (some (.ref du))) (k : ∀ H', Kp H H' → D.nx σ H') : tChk P w K mg base D σ H := by
  refine same_go (σ := σ) E no hl gv gu hm hf hc G hd s8 s10 s11 fun H1 k1 => ⟨true, rfl, iteF rfl ?_⟩
  refine same_go (σ := σ) E no hl (gv.ext (.of k1)) (gu.ext (.of k1)) (hn.kp k1) (k1 _ _ hf) (k1 _ _ hc) G (k1 _ _ hd) s9 s10 s11 fun H2 k2 => ⟨true, rfl, iteF rfl ?_⟩
  exact k H2 fun b o h => k2 _ _ (k1 _ _ h)
def tOwn (K : PySem.W.Frag) (CP : Addr) (cA : Str → Addr) (j : Nat) : TE := tCall (spOwn K CP cA) [] E0 (tCons (tVar j) (tCons (tVar 7) tNil))
def tMine (K : PySem.W.Frag) (CP : Addr) (cA : Str → Addr) : TS := tIfS (tOr (tNot (tB (tOwn K CP cA 8))) (tNot (tB (tOwn K CP cA 9)))) tNever tNext
theorem mine_go {CP : Addr} {cA : Str → Addr} {σ : L2.St} {H : Hp} {D : Ends} {m n : Addr} {i : Nat} {c : Er} {fs : List (Str × V)} (hc : ers[i]? = some c) (hm : ErAt H m (cA c.2.1) fs) (hn : ErAt H n (cA c.2.1) fs)
    (s7 : σ[7]? = some (some (.int i))) (s8 : σ[8]? = some (some (.ref m))) (s9 : σ[9]? = some (some (.ref n))) (k : ∀ H', Kp H H' → D.nx σ H') : tMine K CP cA D σ H := by
  refine ⟨_, s8, _, s7, m, i, c, fs, rfl, hc, hm, fun H1 k1 => ⟨true, rfl, iteF rfl ?_⟩⟩
  refine ⟨_, s9, _, s7, n, i, c, fs, rfl, hc, hn.kp k1, fun H2 k2 => ⟨true, rfl, iteF rfl ?_⟩⟩
  exact k H2 fun b o h => k2 _ _ (k1 _ _ h)
/-! ### all rows in one list -/
theorem rows_ext {cA : Str → Addr} {wsOf : List Str → List V} {H H' : Hp} {l : Addr} {cs : List Er} (R : RowsAt P w K mg base H cA wsOf l cs) (D : List Addr) (hD : ∀ b ∈ D, Mu H b) (hl : l ∉ D) (hw : ∀ b ∈ D, ∀ fs, H b ≠ some (.lst (wsOf fs))) (e : ExtM D H H') :
    RowsAt P w K mg base H' cA wsOf l cs := by
  obtain ⟨ps, h1, h2, h3, h4⟩ := R.ex
  refine ⟨ps, e _ _ hl h1 (fun _ z => by cases z), h2, h3, fun i c p hc hp => ?_⟩
  have r := h4 i c p hc hp
  refine r.extM hD (fun z => ?_) e
  obtain ⟨m, n, f, F, body, _, _, _, _, _, _, h7⟩ := r.ex
  exact hw _ z _ h7
theorem rows_cat {cA : Str → Addr} {wsOf : List Str → List V} {H : Hp} {la lb p : Addr} {as bs : List Er} {xs ys : List V} (A : RowsAt P w K mg base H cA wsOf la as) (B : RowsAt P w K mg base H cA wsOf lb bs) (ha : H la = some (.lst xs)) (hb : H lb = some (.lst ys))
    (hp : H p = none) : RowsAt P w K mg base (upd H p (.lst (xs ++ ys))) cA wsOf p (as ++ bs) := by
  obtain ⟨ps, a1, a2, a3, a4⟩ := A.ex
  obtain ⟨qs, b1, b2, b3, b4⟩ := B.ex
  have ex : xs = ps.map fun p => V.ref p.1 := by
    rw [ha] at a1
    cases a1
    rfl
  have ey : ys = qs.map fun p => V.ref p.1 := by
    rw [hb] at b1
    cases b1
    rfl
  have e : ExtN H (upd H p (.lst (xs ++ ys))) := .of (kp_new hp)
  refine ⟨ps ++ qs, by rw [upd_same, List.map_append, ex, ey], by rw [List.length_append, List.length_append, a2, b2], fun q hq z => ?_, fun i c q hc hq => ?_⟩
  · have duN : ∀ {cs : List Er} {rs : List (Addr × Addr)}, rs.length = cs.length → (∀ (i : Nat) (c : Er) (p : Addr × Addr), cs[i]? = some c → rs[i]? = some p → RowAt P w K mg base H (cA c.2.1) c.2.2 (wsOf c.2.2) p.1 p.2) → q ∈ rs → False := fun {cs rs} hl hr hm => by
      obtain ⟨i, hi⟩ := List.mem_iff_getElem?.mp hm
      obtain ⟨hi2, _⟩ := List.getElem?_eq_some_iff.mp hi
      have hc : cs[i]? = some cs[i] := List.getElem?_eq_getElem (by omega)
      obtain ⟨m, n, f, F, body, _, _, _, _, _, _, h7⟩ := (hr i _ q hc hi).ex
      rw [z, hp] at h7
      cases h7
    rcases List.mem_append.mp hq with y | y
    · exact duN a2 a4 y
    · exact duN b2 b4 y
  · by_cases hi : i < as.length
    · rw [List.getElem?_append_left hi] at hc
      rw [List.getElem?_append_left (by omega)] at hq
      exact (a4 i c q hc hq).ext e
    · rw [List.getElem?_append_right (by omega)] at hc
      rw [List.getElem?_append_right (by omega), a2] at hq
      exact (b4 _ c q hc hq).ext e
def tBoth (P : Program) (w : World) (K : PySem.W.Frag) (mg : Str → Option Value) (base : Heap) (cA : Str → Addr) (T : List (Addr × Str)) (i j : Nat) : TE :=
  tOp rCat (tCall (spMade P w K mg base cA T ersA) [] E0 (tCons (tVar i) (tCons (tVar j) tNil))) (tCall (spMade P w K mg base cA T ersB) [] E0 (tCons (tVar i) (tCons (tVar j) tNil)))
theorem both_go {cA : Str → Addr} {T : List (Addr × Str)} {i j : Nat} {σ : L2.St} {H : Hp} {Q : VK} {v u : V} (si : σ[i]? = some (some v)) (sj : σ[j]? = some (some u)) (hT : Tabs T H)
    (k : ∀ (p : Addr) (H' : Hp), RowsAt P w K mg base H' cA (wsV v u) p ers → ExtN H H' → Tabs T H' → (∀ b o, H b = some o → (∀ ps, o ≠ .tbl ps) → b ≠ p) → Q (.ref p) H') : tBoth P w K mg base cA T i j σ H Q := by
  refine ⟨_, si, _, sj, v, u, rfl, hT, fun la H1 RA e1 T1 na => ?_⟩
  refine ⟨_, si, _, sj, v, u, rfl, T1, fun lb H2 RB e2 T2 nb => ?_⟩
  have RA2 : RowsAt P w K mg base H2 cA (wsV v u) la ersA := rows_ext RA [] (fun b z => absurd z List.not_mem_nil) List.not_mem_nil (fun b z => absurd z List.not_mem_nil) (.of e2)
  obtain ⟨ps, a1, a2, _, _⟩ := RA2.ex
  obtain ⟨qs, b1, b2, _, _⟩ := RB.ex
  refine ⟨la, lb, _, _, rfl, rfl, a1, b1, ?_, fun p hp => ?_⟩
  · rw [List.length_map, List.length_map, a2, b2]
    decide
  · have e3 : ExtN H (upd H2 p (.lst ((ps.map fun p => V.ref p.1) ++ qs.map fun p => V.ref p.1))) := fun b o h n => kp_new hp _ _ (e2 _ _ (e1 _ _ h n) n)
    exact k p _ (rows_cat RA2 RB a1 b1 hp) e3 (T2.ext (kp_new hp)) fun b o z nt => ne_of_none (e2 _ _ (e1 _ _ z nt) nt) hp
end
theorem for_enum {K : PySem.W.Frag} {a : Addr} {xs : List V} {g : TG} {tb : TS} {D : Ends} {σ : L2.St} {H : Hp} (Pv : Nat → L2.St → Hp → Prop) (h0 : Pv 0 σ H) (hl : ∀ i σ H, i ≤ xs.length → Pv i σ H → SqL K H a xs)
    (hs : ∀ i x σ H T, xs[i]? = some x → Pv i σ H → H T = none → g (.ref T) σ (upd H T (.tup [.int (i : Nat), x])) fun σ2 H2 => tb { D with nx := Pv (i + 1), ct := Pv (i + 1), bk := D.nx } σ2 H2) (hd : ∀ σ H, Pv xs.length σ H → D.nx σ H) :
    ∃ W : Nat → Nat → L2.St → Hp → Prop, (∃ m, W 0 m σ H) ∧ ∀ i m σ H, W i m σ H →
      ((Ite K a).stop i H ∧ D.nx σ H) ∨ ((Ite K a).go i H ∧ ∃ N : L2.St → Hp → Prop, (∀ σ' H', N σ' H' → ∃ m', m' < m ∧ W (i + 1) m' σ' H') ∧ ∀ x H', (Ite K a).yld i H x H' → g x σ H' fun σ2 H2 => tb { D with nx := N, ct := N, bk := D.nx } σ2 H2) := by
  refine ⟨fun i m σ H => m = xs.length - i ∧ i ≤ xs.length ∧ Pv i σ H, ⟨xs.length, by simp, Nat.zero_le _, h0⟩, ?_⟩
  rintro i m σ H ⟨rfl, hi, p⟩
  have q := hl i σ H hi p
  by_cases hlt : i < xs.length
  · refine .inr ⟨⟨xs, xs[i], q, by simp [hlt]⟩, Pv (i + 1), fun σ' H' p' => ⟨xs.length - (i + 1), by omega, rfl, hlt, p'⟩, fun x H' y => ?_⟩
    obtain ⟨T, x0, rfl, hT, rfl, y⟩ := y
    exact hs i x0 σ H T (y xs q) p hT
  · have e : i = xs.length := by omega
    subst e
    exact .inl ⟨⟨xs, q, Nat.le_refl _⟩, hd σ H p⟩
theorem cut2 (y0 y1 : V) (r : List V) : cutV (y0 :: y1 :: r) none (some 2) = [y0, y1] := by
  unfold cutV
  have e : HT.sIx (y0 :: y1 :: r).length (y0 :: y1 :: r).length (some ((2 : Nat) : Int)) = min 2 (y0 :: y1 :: r).length := HT.sIx_nat _ _ _
  have e2 : HT.sIx (y0 :: y1 :: r).length (y0 :: y1 :: r).length (some 2) = 2 := by
    show HT.sIx (y0 :: y1 :: r).length (y0 :: y1 :: r).length (some ((2 : Nat) : Int)) = 2
    rw [e]
    simp only [List.length_cons]
    omega
  rw [e2]
  rfl
end K00
namespace K00
open PySem PySem.Spec PyProof.Rows L2 LamX NdefX

/-! ### the law -/
abbrev NL : List Str := ["script", "stream", "some", "turn", "x", "y", "made", "at", "mine", "twin", "field", "due", "held", "other"]
theorem scLaw : FnScope NL ["script"] (defScope (top 67)) := scP_ok (by decide +kernel)
theorem TabsK.kps {T : List (Addr × Str)} {H H' : Hp} {s l : Addr} {xs ys : List V} (h : Tabs T H) (hs : H s = some (.lst xs)) (hl : H l = some (.lst ys)) (e : KpS s l H H') : Tabs T H' := fun p hp => by
  obtain ⟨ps, h1, h2, h3⟩ := h p hp
  have ne : ∀ {b : Addr} {o : HO}, H b = some o → (∀ ys, o ≠ .lst ys) → b ≠ s ∧ b ≠ l := fun {b o} q n => ⟨fun z => by
    rw [z, hs] at q
    exact n xs (Option.some.inj q).symm, fun z => by
    rw [z, hl] at q
    exact n ys (Option.some.inj q).symm⟩
  have n1 := ne h1 fun _ z => by cases z
  refine ⟨ps, e _ _ n1.1 n1.2 h1, h2, fun pos cv hc => ?_⟩
  obtain ⟨c, e1, e2⟩ := h3 pos cv hc
  have n2 := ne e2 ext_nl
  exact ⟨c, e1, e _ _ n2.1 n2.2 e2⟩
/-- the things of the law's list -/
structure MenuAt (H : Hp) (s l p1 p2 p3 p4 p5 p6 : Addr) : Prop where
  h1 : H p1 = some (.lst [.int 1, .str "b"])
  h2 : H p2 = some (.tup [.int 2, .non])
  h3 : H p3 = some (.dK [(.inr "a", .int 1)])
  h4 : H p4 = some (.lst [.str "x"])
  h5 : H p5 = some (.lst [.ref p4])
  h6 : H p6 = some (.tup [.str "s", .int 3])
  n1 : p1 ∉ [s, l]
  n2 : p2 ∉ [s, l]
  n3 : p3 ∉ [s, l]
  n4 : p4 ∉ [s, l]
  n5 : p5 ∉ [s, l]
  n6 : p6 ∉ [s, l]
theorem MenuAt.ext {H H' : Hp} {s l p1 p2 p3 p4 p5 p6 : Addr} (m : MenuAt H s l p1 p2 p3 p4 p5 p6) (e : ExtM [s, l] H H') : MenuAt H' s l p1 p2 p3 p4 p5 p6 :=
  ⟨e _ _ m.n1 m.h1 (fun _ z => by cases z), e _ _ m.n2 m.h2 (fun _ z => by cases z), e _ _ m.n3 m.h3 (fun _ z => by cases z), e _ _ m.n4 m.h4 (fun _ z => by cases z), e _ _ m.n5 m.h5 (fun _ z => by cases z), e _ _ m.n6 m.h6 (fun _ z => by cases z),
    m.n1, m.n2, m.n3, m.n4, m.n5, m.n6⟩
def things (p1 p2 p3 p5 p6 : Addr) : List V := [.non, .int 5, .int (-1), .bl true, .str "a", .str "", .ref p1, .ref p2, .ref p3, .ref p5, .int (10 ^ (17 : Int).toNat), .ref p6, .bl false, .int 0, .int 1]
theorem MenuAt.good {H : Hp} {s l p1 p2 p3 p4 p5 p6 : Addr} (m : MenuAt H s l p1 p2 p3 p4 p5 p6) : ∀ v ∈ things p1 p2 p3 p5 p6, GoodV H v := by
  have ix : ∀ (i : Nat) (d : PyData), menu[i]? = some d → d ∈ menu := fun i d h => List.mem_of_getElem? h
  unfold things
  repeat' (first | exact fun _ z => absurd z List.not_mem_nil | refine List.forall_mem_cons.mpr ⟨?_, ?_⟩)
  · exact ⟨rfl, _, ix 0 _ rfl, .non⟩
  · exact ⟨rfl, _, ix 1 _ rfl, .int 5⟩
  · exact ⟨rfl, _, ix 2 _ rfl, .int (-1)⟩
  · exact ⟨rfl, _, ix 3 _ rfl, .bl true⟩
  · exact ⟨rfl, _, ix 4 _ rfl, .str "a"⟩
  · exact ⟨rfl, _, ix 5 _ rfl, .str ""⟩
  · exact ⟨rfl, _, ix 6 _ rfl, .lst m.h1 (.cons (.int 1) (.cons (.str "b") .nil))⟩
  · exact ⟨rfl, _, ix 7 _ rfl, .tup m.h2 (.cons (.int 2) (.cons .non .nil))⟩
  · exact ⟨rfl, _, ix 8 _ rfl, .dic m.h3 (.cons (.int 1) .nil)⟩
  · exact ⟨rfl, _, ix 9 _ rfl, .lst m.h5 (.cons (.lst m.h4 (.cons (.str "x") .nil)) .nil)⟩
  · exact ⟨rfl, _, ix 10 _ rfl, .int _⟩
  · exact ⟨rfl, _, ix 11 _ rfl, .tup m.h6 (.cons (.str "s") (.cons (.int 3) .nil))⟩
  · exact ⟨rfl, _, ix 12 _ rfl, .bl false⟩
  · exact ⟨rfl, _, ix 13 _ rfl, .int 0⟩
  · exact ⟨rfl, _, ix 14 _ rfl, .int 1⟩
theorem le_sz {n : Nat} (h : Nat.ble n 100 = true) : n ≤ sizeLine := Nat.le_trans (Nat.le_of_ble_eq_true h) (by decide)
abbrev hM1 (H : Hp) (p1 : Addr) : Hp := upd H p1 (.lst [.int 1, .str "b"])
abbrev hM2 (H : Hp) (p1 p2 : Addr) : Hp := upd (hM1 H p1) p2 (.tup [.int 2, .non])
abbrev hM3 (H : Hp) (p1 p2 p3 : Addr) : Hp := upd (upd (hM2 H p1 p2) p3 (.dK [])) p3 (.dK (mergeK [] [(.inr "a", .int 1)]))
abbrev hM4 (H : Hp) (p1 p2 p3 p4 : Addr) : Hp := upd (hM3 H p1 p2 p3) p4 (.lst [.str "x"])
abbrev hM5 (H : Hp) (p1 p2 p3 p4 p5 : Addr) : Hp := upd (hM4 H p1 p2 p3 p4) p5 (.lst [.ref p4])
abbrev hM6 (H : Hp) (p1 p2 p3 p4 p5 p6 : Addr) : Hp := upd (hM5 H p1 p2 p3 p4 p5) p6 (.tup [.str "s", .int 3])
abbrev hM7 (H : Hp) (p1 p2 p3 p4 p5 p6 t : Addr) : Hp := upd (hM6 H p1 p2 p3 p4 p5 p6) t (.lst (things p1 p2 p3 p5 p6))
theorem kp_new2 {H : Hp} {l : Addr} {o u : HO} (h : H l = none) : Kp H (upd (upd H l o) l u) := fun b z e => by
  have nb := ne_of_none e h
  rw [upd_ne nb, upd_ne nb]
  exact e
theorem menu_mk {H : Hp} {s l p1 p2 p3 p4 p5 p6 t : Addr} {ns : List Int} {v cnt mem : Int} (S : StAt H s l ns v cnt mem) (n1 : H p1 = none) (n2 : hM1 H p1 p2 = none) (n3 : hM2 H p1 p2 p3 = none) (n4 : hM3 H p1 p2 p3 p4 = none) (n5 : hM4 H p1 p2 p3 p4 p5 = none) (n6 : hM5 H p1 p2 p3 p4 p5 p6 = none) (n7 : hM6 H p1 p2 p3 p4 p5 p6 t = none) :
    MenuAt (hM7 H p1 p2 p3 p4 p5 p6 t) s l p1 p2 p3 p4 p5 p6 ∧ Kp H (hM7 H p1 p2 p3 p4 p5 p6 t) ∧ hM7 H p1 p2 p3 p4 p5 p6 t t = some (.lst (things p1 p2 p3 p5 p6)) ∧ t ∉ [s, l] := by
  have e1 : Kp H (hM1 H p1) := kp_new n1
  have e2 : Kp (hM1 H p1) (hM2 H p1 p2) := kp_new n2
  have e3 : Kp (hM2 H p1 p2) (hM3 H p1 p2 p3) := kp_new2 n3
  have e4 : Kp (hM3 H p1 p2 p3) (hM4 H p1 p2 p3 p4) := kp_new n4
  have e5 : Kp (hM4 H p1 p2 p3 p4) (hM5 H p1 p2 p3 p4 p5) := kp_new n5
  have e6 : Kp (hM5 H p1 p2 p3 p4 p5) (hM6 H p1 p2 p3 p4 p5 p6) := kp_new n6
  have e7 : Kp (hM6 H p1 p2 p3 p4 p5 p6) (hM7 H p1 p2 p3 p4 p5 p6 t) := kp_new n7
  have k2 : Kp H (hM2 H p1 p2) := fun b o h => e2 _ _ (e1 _ _ h)
  have k3 : Kp H (hM3 H p1 p2 p3) := fun b o h => e3 _ _ (k2 _ _ h)
  have k4 : Kp H (hM4 H p1 p2 p3 p4) := fun b o h => e4 _ _ (k3 _ _ h)
  have k5 : Kp H (hM5 H p1 p2 p3 p4 p5) := fun b o h => e5 _ _ (k4 _ _ h)
  have k6 : Kp H (hM6 H p1 p2 p3 p4 p5 p6) := fun b o h => e6 _ _ (k5 _ _ h)
  have nin : ∀ {H' : Hp} {q : Addr}, Kp H H' → H' q = none → q ∉ [s, l] := fun {H' q} k n z => by
    simp only [List.mem_cons, List.not_mem_nil, or_false] at z
    rcases z with z | z
    · rw [z, k _ _ S.h1] at n
      cases n
    · rw [z, k _ _ S.h2] at n
      cases n
  refine ⟨⟨e7 _ _ (e6 _ _ (e5 _ _ (e4 _ _ (e3 _ _ (e2 _ _ upd_same))))), e7 _ _ (e6 _ _ (e5 _ _ (e4 _ _ (e3 _ _ upd_same)))), e7 _ _ (e6 _ _ (e5 _ _ (e4 _ _ upd_same))), e7 _ _ (e6 _ _ (e5 _ _ upd_same)), e7 _ _ (e6 _ _ upd_same), e7 _ _ upd_same,
    nin (fun b o h => h) n1, nin e1 n2, nin k2 n3, nin k3 n4, nin k4 n5, nin k5 n6⟩, fun b o h => e7 _ _ (k6 _ _ h), upd_same, nin k6 n7⟩
abbrev hP1 (H : Hp) (h : Addr) : Hp := upd H h (.lst [.str "v"])
abbrev hP2 (H : Hp) (h o : Addr) : Hp := upd (upd (hP1 H h) o (.dK [])) o (.dK (mergeK [] [(.inr "w", .int 1)]))
theorem ers_small : (ers.all fun c => decide (c.2.2.length ≤ 2)) = true := by decide +kernel
theorem ers_ws (c : Er) (hc : c ∈ ers) (v u : V) : (wsV v u c.2.2).length = c.2.2.length := by
  have z : c.2.2.length ≤ 2 := of_decide_eq_true (List.all_eq_true.mp ers_small c hc)
  unfold wsV
  rw [List.length_take]
  exact Nat.min_eq_left z
def spLaw (K : PySem.W.Frag) (T : List (Addr × Str)) : Sp := fun vs H Q _ => ∃ (a : Addr) (ns : List Int), vs = [.ref a] ∧ SqL K H a (ns.map V.int) ∧ Tabs T H ∧ ∀ H' : Hp, Q (.bl true) H'
/-- the law's own defs, as its body takes them -/
structure LawFns (P : Program) (w : World) (K : PySem.W.Frag) (mg : Str → Option Value) (base : Heap) (CP : Addr) (cA fA : Str → Addr) (T : List (Addr × Str)) : Prop where
  stream : ∃ fd, FnOk P w K mg base CX0 1 (fA "_law_stream") fd ["script"] (spStream K) ∧ Binds K fd ["script"] []
  mixed : ∃ fd, FnOk P w K mg base CX0 2 (fA "_law_mixed") fd ["stream", "things"] spMixed ∧ Binds K fd ["stream", "things"] []
  mkA : ∃ fd, FnOk P w K mg base CX0 3 (fA "_law_made_a") fd ["x", "y"] (spMade P w K mg base cA T ersA) ∧ Binds K fd ["x", "y"] []
  mkB : ∃ fd, FnOk P w K mg base CX0 3 (fA "_law_made_b") fd ["x", "y"] (spMade P w K mg base cA T ersB) ∧ Binds K fd ["x", "y"] []
  own : ∃ fd, FnOk P w K mg base CX0 2 (fA "_law_is_own") fd ["e", "at"] (spOwn K CP cA) ∧ Binds K fd ["e", "at"] []
  same : ∃ fd, FnOkG P w K mg base 1 (fA "_law_same") fd ["found", "due"] spSame ∧ Binds K fd ["found", "due"] []
  keep : ∀ d ∈ dfs, PySem.W.keepIn K (.ref (fA d.2)) = true
  glo : ∀ d ∈ dfs, mg d.2 = some (.ref (fA d.2))
  fr : ∀ x ∈ freeN, mg x = none
theorem ok_law {P : Program} {w : World} {K : PySem.W.Frag} {mg : Str → Option Value} {base : Heap} {CP : Addr} {cA iA fA dA tA : Str → Addr} {T : List (Addr × Str)} (Fx : Fx K CP cA iA fA dA tA) (L : LawFns P w K mg base CP cA fA T) {fd : FuncData} {f : Addr}
    {x : Str} (F : FunD K x x (defArgs (top 67)) (defBody (top 67)) (defScope (top 67)) [] [] f fd) : FnOkG P w K mg base 4 f fd ["script"] (spLaw K T) := by
  obtain ⟨fd1, G1, b1⟩ := L.stream
  obtain ⟨fd2, G2, b2⟩ := L.mixed
  obtain ⟨fd3, G3, b3⟩ := L.mkA
  obtain ⟨fd4, G4, b4⟩ := L.mkB
  obtain ⟨fd5, G5, b5⟩ := L.own
  obtain ⟨fd6, G6, b6⟩ := L.same
  have kp : ∀ (i : Nat) (d : Df), dfs[i]? = some d → PySem.W.keepIn K (.ref (fA d.2)) = true ∧ mg d.2 = some (.ref (fA d.2)) := fun i d h => ⟨L.keep d (List.mem_of_getElem? h), L.glo d (List.mem_of_getElem? h)⟩
  have fr : ∀ (i : Nat) (x : Str), freeN[i]? = some x → mg x = none := fun i x h => L.fr x (List.mem_of_getElem? h)
  have gR : mg ("range" : Str) = none := fr 1 _ rfl
  have gE : mg ("enumerate" : Str) = none := fr 2 _ rfl
  refine fng_of F scLaw (fun vs H Q E h => ?_) fun cdv A outer s0 H vs Q hgd hr h => ?_
  · obtain ⟨a, ns, rfl, _⟩ := h
    rfl
  · have hu : (A.deeper (envOfC x (defScope (top 67)) s0.heap.objs.size f cdv)).units + 64 < cLine := by
      have := hr.un
      omega
    have hu1 : (A.deeper (envOfC x (defScope (top 67)) s0.heap.objs.size f cdv)).units + 1 < cLine := by omega
    have hr1 := hr.mono (j := 1) (by decide)
    have hr2 := hr.mono (j := 2) (by decide)
    obtain ⟨a, ns, rfl, hS, tT, k⟩ := h
    have kS := kp 0 _ rfl
    have kM := kp 2 _ rfl
    have kA := kp 3 _ rfl
    have kB := kp 4 _ rfl
    have kO := kp 7 _ rfl
    have kQ := kp 8 _ rfl
    refine ⟨_, PSs.nox (pss_cons (ps_set (i := 1) scLaw.nd rfl (.inl rfl) (pe_call G1 hr1 rfl kS.2 kS.1 b1 .nil pass0 (pa_cons (pv 0) pa_nil)))
      (pss_cons (ps_set (i := 2) scLaw.nd rfl (.inl rfl) (pe_lst (pa_cons pe_non (pa_cons pe_int (pa_cons (pe_un un_neg pe_int) (pa_cons pe_bl (pa_cons pe_str (pa_cons pe_str (pa_cons (pe_lst (pa_cons pe_int (pa_cons pe_str pa_nil)))
        (pa_cons (pe_tup (pa_cons pe_int (pa_cons pe_non pa_nil))) (pa_cons (pe_disp (pps_cons pe_str pe_int pps_nil) rfl rfl (fun z => by cases z) (by decide)) (pa_cons (pe_lst (pa_cons (pe_lst (pa_cons pe_str pa_nil)) pa_nil)) (pa_cons (pe_op op_pow pe_int pe_int)
        (pa_cons (pe_tup (pa_cons pe_str (pa_cons pe_int pa_nil))) (pa_cons pe_bl (pa_cons pe_int (pa_cons pe_int pa_nil)))))))))))))))))
      (pss_cons (ps_for PassesOwn.never rfl (pi_range1 rfl gR (pa_cons pe_int pa_nil)) (pg_name (i := 3) scLaw.nd rfl (.inl rfl))
        (pss_cons (ps_asg (pe_slice sl_list (pe_call G2 hr2 rfl kM.2 kM.1 b2 .nil pass0 (pa_cons (pv 1) (pa_cons (pv 2) pa_nil))) po_none (po_some pe_int)) (pg_unl rfl (pgs_cons (pg_name (i := 4) scLaw.nd rfl (.inl rfl)) (pgs_cons (pg_name (i := 5) scLaw.nd rfl (.inl rfl)) pgs_nil))))
          (pss_cons (ps_set (i := 6) scLaw.nd rfl (.inl rfl) (pe_op op_cat (pe_call G3 hr rfl kA.2 kA.1 b3 .nil pass0 (pa_cons (pv 4) (pa_cons (pv 5) pa_nil))) (pe_call G4 hr rfl kB.2 kB.1 b4 .nil pass0 (pa_cons (pv 4) (pa_cons (pv 5) pa_nil)))))
            (pss_one (ps_for PassesOwn.never rfl (pi_enum rfl gE (pa_cons (pv 6) pa_nil)) (pg_tup rfl (pgs_cons (pg_name (i := 7) scLaw.nd rfl (.inl rfl)) (pgs_cons (pg_tup rfl (pgs_cons (pg_name (i := 8) scLaw.nd rfl (.inl rfl)) (pgs_cons (pg_name (i := 9) scLaw.nd rfl (.inl rfl)) (pgs_cons (pg_name (i := 10) scLaw.nd rfl (.inl rfl)) (pgs_cons (pg_name (i := 11) scLaw.nd rfl (.inl rfl)) pgs_nil))))) pgs_nil)))
              (pss_cons (ps_if (PW.pt (pw_or (pt_not (pt_val (pe_call G5 hr2 rfl kO.2 kO.1 b5 .nil pass0 (pa_cons (pv 8) (pa_cons (pv 7) pa_nil))))) (pw_or1 (pt_not (pt_val (pe_call G5 hr2 rfl kO.2 kO.1 b5 .nil pass0 (pa_cons (pv 9) (pa_cons (pv 7) pa_nil)))))))) pss_never pss_nil)
                (pss_one (ps_if (PW.pt (pw_or (pt_not (pt_val (pe_callG G6 hgd hr1 rfl kQ.2 kQ.1 b6 (pa_cons (pe_lamC (i := 10) hr2 rfl (.inl rfl) (pa_cons (pv 8) pa_nil)) (pa_cons (pv 11) pa_nil)))))
                  (pw_or1 (pt_not (pt_val (pe_callG G6 hgd hr1 rfl kQ.2 kQ.1 b6 (pa_cons (pe_lamC (i := 10) hr2 rfl (.inl rfl) (pa_cons (pv 9) pa_nil)) (pa_cons (pv 11) pa_nil)))))))) pss_never pss_nil))))))))
      (pss_cons (ps_par (i := 12) (j := 13) rfl scLaw.nd rfl rfl (by decide) rfl rfl (pa_cons (pe_lst (pa_cons pe_str pa_nil)) (pa_cons (pe_disp (pps_cons pe_str pe_int pps_nil) rfl rfl (fun z => by cases z) (by decide)) pa_nil)) (by rfl))
      (pss_cons (ps_set (i := 6) scLaw.nd rfl (.inl rfl) (pe_op op_cat (pe_call G3 hr rfl kA.2 kA.1 b3 .nil pass0 (pa_cons (pv 12) (pa_cons (pv 13) pa_nil))) (pe_call G4 hr rfl kB.2 kB.1 b4 .nil pass0 (pa_cons (pv 12) (pa_cons (pv 13) pa_nil)))))
      (pss_cons (ps_expr (pe_bm PySem.F.plainAttrs_list PySem.F.slot_list_append PySem.F.type_list_append mt_append (pv 12) (pa_cons pe_str pa_nil)))
      (pss_cons (ps_dput hu1 (pv 13) pe_str pe_int rfl)
      (pss_cons (ps_for PassesOwn.never rfl (pi_list (pv 6)) (pg_tup rfl (pgs_cons (pg_name (i := 8) scLaw.nd rfl (.inl rfl)) (pgs_cons (pg_name (i := 9) scLaw.nd rfl (.inl rfl)) (pgs_cons (pg_name (i := 10) scLaw.nd rfl (.inl rfl)) (pgs_cons (pg_name (i := 11) scLaw.nd rfl (.inl rfl)) pgs_nil)))))
        (pss_one (ps_if (PW.pt (pw_or (pt_not (pt_val (pe_callG G6 hgd hr1 rfl kQ.2 kQ.1 b6 (pa_cons (pe_lamC (i := 10) hr2 rfl (.inl rfl) (pa_cons (pv 8) pa_nil)) (pa_cons (pv 11) pa_nil)))))
                  (pw_or1 (pt_not (pt_val (pe_callG G6 hgd hr1 rfl kQ.2 kQ.1 b6 (pa_cons (pe_lamC (i := 10) hr2 rfl (.inl rfl) (pa_cons (pv 9) pa_nil)) (pa_cons (pv 11) pa_nil)))))))) pss_never pss_nil)))
      (pss_one (ps_ret pe_bl)))))))))), ?_⟩
    refine ⟨_, rfl, a, ns, rfl, hS, fun s l H1 S1 k1 _ _ => ?_⟩
    refine ⟨_, rfl, le_sz rfl, fun p1 n1 => ⟨le_sz rfl, fun p2 n2 p3 n3 => ⟨upd_same, [(.inr "a", .int 1)], rfl, by decide, ⟨le_sz rfl, fun p4 n4 => ⟨le_sz rfl, fun p5 n5 => ⟨_, _, rfl, rfl, ⟨by decide, by decide, by decide⟩, ⟨le_sz rfl, fun p6 n6 => ⟨le_sz rfl, fun t nt => ?_⟩⟩⟩⟩⟩⟩⟩⟩
    obtain ⟨M0, kM0, ht0, tn⟩ := menu_mk S1 n1 n2 n3 n4 n5 n6 nt
    refine ⟨2, rfl, by decide, by decide, ?_⟩
    refine for_range (lo := 0) (n := 2) (fun i σ H' => ∃ o3 o4 o5 o6 o7 o8 o9 o10 o11 o12 o13 : Option V, σ = [some (.ref a), some (.ref s), some (.ref t), o3, o4, o5, o6, o7, o8, o9, o10, o11, o12, o13] ∧ ∃ (ns : List Int) (v cnt mem : Int), StAt H' s l ns v cnt mem ∧ cnt ≤ 15 * (i : Int) ∧ Tabs T H' ∧ ExtM [s, l] (hM7 H1 p1 p2 p3 p4 p5 p6 t) H')
      ⟨none, none, none, none, none, none, none, none, none, none, none, rfl, ns, 0, 0, 17, S1.kp kM0, by omega, (tT.ext k1).ext kM0, fun b o _ h _ => h⟩ (fun i σ H' hi hP => ?_) (fun σ H' hP => ?_)
    · obtain ⟨o3, o4, o5, o6, o7, o8, o9, o10, o11, o12, o13, rfl, ns, v, cnt, mem, S, hc, tT, eM⟩ := hP
      have ht : H' t = some (.lst (things p1 p2 p3 p5 p6)) := eM _ _ tn ht0 (fun _ z => by cases z)
      refine ⟨_, rfl, _, rfl, s, l, t, ns, v, cnt, mem, _, rfl, S, by omega, ht, (show 15 ≤ 20 by decide), fun r H2 ns' v' mem' ys yl yin hr2 hr0 S2 k2 => ?_⟩
      obtain ⟨y0, y1, yr, rfl⟩ : ∃ y0 y1 yr, ys = y0 :: y1 :: yr := by
        match ys, yl with
        | y0 :: y1 :: yr, _ => exact ⟨y0, y1, yr, rfl⟩
        | [], yl => cases yl
        | [_], yl => cases yl
      refine ⟨2, rfl, r, _, rfl, SqL.of hr2, fun q hq => ?_⟩
      rw [cut2]
      refine ⟨q, _, rfl, SqL.of upd_same, rfl, y0, _, rfl, y1, _, rfl, rfl, ?_⟩
      have kq : Kp H2 (upd H2 q (.lst [y0, y1])) := kp_new hq
      have S3 := S2.kp kq
      have T3 : Tabs T (upd H2 q (.lst [y0, y1])) := (TabsK.kps tT S.h1 S.h2 k2).ext kq
      have e3 : ExtM [s, l] H' (upd H2 q (.lst [y0, y1])) := fun b o hb h _ => kq _ _ (k2 _ _ (fun z => hb (by rw [z]; simp)) (fun z => hb (by rw [z]; simp)) h)
      have M3 := M0.ext (eM.trans e3)
      have g0 := M3.good y0 (yin y0 (by simp))
      have g1 := M3.good y1 (yin y1 (by simp))
      refine both_go (i := 4) (j := 5) (v := y0) (u := y1) rfl rfl T3 fun p H4 R4 e4 T4 _ => ?_
      obtain ⟨ps, hp, plen, _, rows⟩ := R4.ex
      refine ⟨_, rfl, p, _, rfl, SqL.of hp, ?_⟩
      refine for_enum (fun j σ H' => ∃ o7 o8 o9 o10 o11 : Option V, σ = [some (.ref a), some (.ref s), some (.ref t), some (.int (0 + (i : Int))), some y0, some y1, some (.ref p), o7, o8, o9, o10, o11, o12, o13] ∧ Kp H4 H') ⟨o7, o8, o9, o10, o11, rfl, fun b o h => h⟩
        (fun j σ H5 _ hP => by obtain ⟨_, _, _, _, _, _, k5⟩ := hP; exact SqL.of (k5 _ _ hp)) (fun j x0 σ H5 tt hx hP hT => ?_) (fun σ H5 hP => ?_)
      · obtain ⟨o7, o8, o9, o10, o11, rfl, k5⟩ := hP
        have hj : j < ps.length := by
          have z := (List.getElem?_eq_some_iff.mp hx).1
          rwa [List.length_map] at z
        have hpj : ps[j]? = some ps[j] := List.getElem?_eq_getElem hj
        have hcj : ers[j]? = some (ers[j]'(by omega)) := List.getElem?_eq_getElem (by omega)
        have ex0 : x0 = .ref ps[j].1 := by
          rw [List.getElem?_map, hpj] at hx
          exact (Option.some.inj hx).symm
        subst ex0
        have k6 : Kp H4 (upd H5 tt (.tup [.int (j : Nat), .ref ps[j].1])) := fun b o h => kp_new hT _ _ (k5 _ _ h)
        obtain ⟨m, n, ff, FF, body, r1, r2, r3, r4, r5, r6, r7⟩ := ((rows j _ _ hcj hpj).ext (.of k6)).ex
        obtain ⟨E1, _, no⟩ := Fx.err _ (List.mem_of_getElem? hcj)
        have wl : (wsV y0 y1 (ers[j]'(by omega)).2.2).length = (ers[j]'(by omega)).2.2.length := ers_ws _ (List.mem_of_getElem? hcj) y0 y1
        have g0' := g0.ext (e4.trans (.of k6))
        have g1' := g1.ext (e4.trans (.of k6))
        refine ⟨tt, _, rfl, SqT.of upd_same, rfl, _, _, rfl, _, _, rfl, _, _, rfl, SqT.of r1, rfl, _, _, rfl, _, _, rfl, _, _, rfl, _, _, rfl, rfl, rfl, ?_⟩
        refine mine_go hcj r2 r3 rfl rfl rfl fun H7 k7 => ?_
        refine chk_go E1 no wl (g0'.ext (.of k7)) (g1'.ext (.of k7)) (r2.kp k7) (r3.kp k7) (k7 _ _ r4) (k7 _ _ r5) r6 (k7 _ _ r7) rfl rfl rfl rfl fun H8 k8 => ?_
        exact ⟨_, _, _, _, _, rfl, fun b o h => k8 _ _ (k7 _ _ (k6 _ _ h))⟩
      · obtain ⟨o7, o8, o9, o10, o11, rfl, k5⟩ := hP
        have eN : ExtN (upd H2 q (.lst [y0, y1])) H5 := e4.trans (.of k5)
        have S5 : StAt H5 s l ns' v' (cnt + 15) mem' := ⟨eN _ _ S3.h1 (fun _ z => by cases z), eN _ _ S3.h2 (fun _ z => by cases z), S3.ne, S3.v0, S3.c0, S3.m0, S3.m1⟩
        exact ⟨_, _, _, _, _, _, _, _, _, _, _, rfl, ns', v', cnt + 15, mem', S5, by omega, T4.ext k5, (eM.trans e3).trans (.of eN)⟩
    · obtain ⟨o3, o4, o5, o6, o7, o8, o9, o10, o11, o12, o13, rfl, ns, v, cnt, mem, S, hc, tT, eM⟩ := hP
      refine ⟨le_sz rfl, fun h nh o no => ⟨upd_same, [(.inr "w", .int 1)], rfl, by decide, _, _, rfl, ?_⟩⟩
      have kh : Kp H' (hP1 H' h) := kp_new nh
      have ko : Kp (hP1 H' h) (hP2 H' h o) := kp_new2 no
      have fh : hP2 H' h o h = some (.lst [.str "v"]) := ko _ _ upd_same
      have fo : hP2 H' h o o = some (.dK [(.inr "w", .int 1)]) := upd_same
      have ho : h ≠ o := ne_of_none upd_same no
      have T2 : Tabs T (hP2 H' h o) := (tT.ext kh).ext ko
      refine both_go (i := 12) (j := 13) (v := .ref h) (u := .ref o) rfl rfl T2 fun p H3 R3 e3 T3 np => ?_
      have ph : h ≠ p := np _ _ fh (fun _ z => by cases z)
      have po : o ≠ p := np _ _ fo (fun _ z => by cases z)
      have fh3 : H3 h = some (.lst [.str "v"]) := e3 _ _ fh (fun _ z => by cases z)
      have fo3 : H3 o = some (.dK [(.inr "w", .int 1)]) := e3 _ _ fo (fun _ z => by cases z)
      refine ⟨_, rfl, .inl ⟨rfl, _, SqL.of fh3⟩, h, _, _, rfl, rfl, fh3, (show 1 < sizeLine by decide), ?_⟩
      have fo4 : upd H3 h (.lst [.str "v", .str "late"]) o = some (.dK [(.inr "w", .int 1)]) := by rw [upd_ne ho.symm]; exact fo3
      refine ⟨_, rfl, o, _, rfl, DPut.k (k := .inr "late") fo4 (show 1 < sizeLine by decide), ?_⟩
      have eM5 : ExtM [h, o] H3 (upd (upd H3 h (.lst [.str "v", .str "late"])) o (.dK [(.inr "w", .int 1), (.inr "late", .int 2)])) := fun b u hb z _ => by
        have b1 : b ≠ h := fun y => hb (by rw [y]; simp)
        have b2 : b ≠ o := fun y => hb (by rw [y]; simp)
        rw [upd_ne b2, upd_ne b1]
        exact z
      have R5 : RowsAt P w K mg base (upd (upd H3 h (.lst [.str "v", .str "late"])) o (.dK [(.inr "w", .int 1), (.inr "late", .int 2)])) cA (wsV (.ref h) (.ref o)) p ers := by
        refine rows_ext R3 [h, o] (fun b hb => ?_) (fun z => ?_) (fun b hb fs z => ?_) eM5
        · simp only [List.mem_cons, List.not_mem_nil, or_false] at hb
          rcases hb with y | y <;> rw [y]
          · exact .inl ⟨_, fh3⟩
          · exact .inr ⟨_, fo3⟩
        · simp only [List.mem_cons, List.not_mem_nil, or_false] at z
          rcases z with y | y
          · exact ph y.symm
          · exact po y.symm
        · simp only [List.mem_cons, List.not_mem_nil, or_false] at hb
          rcases hb with y | y
          · rw [y, fh3] at z
            have z2 : [V.str "v"] = wsV (.ref h) (.ref o) fs := HO.lst.inj (Option.some.inj z)
            unfold wsV at z2
            match fs, z2 with
            | [], z2 => cases z2
            | _ :: _, z2 =>
              rw [List.length_cons, List.take_succ_cons] at z2
              cases z2
          · rw [y, fo3] at z
            cases Option.some.inj z
      have fh5 : upd (upd H3 h (.lst [.str "v", .str "late"])) o (.dK [(.inr "w", .int 1), (.inr "late", .int 2)]) h = some (.lst [.str "v", .str "late"]) := by rw [upd_ne ho, upd_same]
      have fo5 : upd (upd H3 h (.lst [.str "v", .str "late"])) o (.dK [(.inr "w", .int 1), (.inr "late", .int 2)]) o = some (.dK [(.inr "w", .int 1), (.inr "late", .int 2)]) := upd_same
      have ix : ∀ (i : Nat) (d : PyData), menu[i]? = some d → d ∈ menu := fun i d h => List.mem_of_getElem? h
      have g0 : GoodV (upd (upd H3 h (.lst [.str "v", .str "late"])) o (.dK [(.inr "w", .int 1), (.inr "late", .int 2)])) (.ref h) := ⟨rfl, _, ix 15 _ rfl, .lst fh5 (.cons (.str "v") (.cons (.str "late") .nil))⟩
      have g1 : GoodV (upd (upd H3 h (.lst [.str "v", .str "late"])) o (.dK [(.inr "w", .int 1), (.inr "late", .int 2)])) (.ref o) := ⟨rfl, _, ix 16 _ rfl, .dic fo5 (.cons (.int 1) (.cons (.int 2) .nil))⟩
      obtain ⟨ps, hp, plen, _, rows⟩ := R5.ex
      refine ⟨_, rfl, p, rfl, ⟨_, SqL.of hp⟩, ?_⟩
      refine for_list (fun j σ H' => ∃ o8 o9 o10 o11 : Option V, σ = [some (.ref a), some (.ref s), some (.ref t), o3, o4, o5, some (.ref p), o7, o8, o9, o10, o11, some (.ref h), some (.ref o)] ∧ Kp (upd (upd H3 h (.lst [.str "v", .str "late"])) o (.dK [(.inr "w", .int 1), (.inr "late", .int 2)])) H')
        ⟨o8, o9, o10, o11, rfl, fun b o h => h⟩ (fun j σ H5 _ hP => by obtain ⟨_, _, _, _, _, k5⟩ := hP; exact SqL.of (k5 _ _ hp)) (fun j x0 σ H5 hx hP => ?_) (fun σ H5 hP => k H5)
      obtain ⟨o8, o9, o10, o11, rfl, k6⟩ := hP
      have hj : j < ps.length := by
        have z := (List.getElem?_eq_some_iff.mp hx).1
        rwa [List.length_map] at z
      have hpj : ps[j]? = some ps[j] := List.getElem?_eq_getElem hj
      have hcj : ers[j]? = some (ers[j]'(by omega)) := List.getElem?_eq_getElem (by omega)
      have ex0 : x0 = .ref ps[j].1 := by
        rw [List.getElem?_map, hpj] at hx
        exact (Option.some.inj hx).symm
      subst ex0
      obtain ⟨m, n, ff, FF, body, r1, r2, r3, r4, r5, r6, r7⟩ := ((rows j _ _ hcj hpj).ext (.of k6)).ex
      obtain ⟨E1, _, no2⟩ := Fx.err _ (List.mem_of_getElem? hcj)
      have wl : (wsV (.ref h) (.ref o) (ers[j]'(by omega)).2.2).length = (ers[j]'(by omega)).2.2.length := ers_ws _ (List.mem_of_getElem? hcj) _ _
      refine ⟨_, _, rfl, SqT.of r1, rfl, _, _, rfl, _, _, rfl, _, _, rfl, _, _, rfl, rfl, ?_⟩
      refine chk_go E1 no2 wl (g0.ext (.of k6)) (g1.ext (.of k6)) r2 r3 r4 r5 r6 r7 rfl rfl rfl rfl fun H8 k8 => ?_
      exact ⟨_, _, _, _, rfl, fun b o h => k8 _ _ (k6 _ _ h)⟩
end K00
namespace K00
open PySem PySem.Spec PyProof.Rows L2 LamX NdefX

/-! ### all of it, behind the head -/
def Tq (tA : Str → Addr) : List (Addr × Str) := tabN.map fun x => (tA x, qLam x)
def Cs (dA tA : Str → Addr) : List (Addr × Addr) := tabN.map fun x => (dA x, tA x)
section
variable {P : Program} {w : World} {K : PySem.W.Frag} {mg : Str → Option Value} {base : Heap} {CP : Addr} {cA iA fA dA tA : Str → Addr}
theorem law_fns (Fx : Fx K CP cA iA fA dA tA) (gP : mg ("PageError" : Str) = some (.ref CP)) (gm : ∀ c ∈ ers, mg c.2.1 = some (.ref (cA c.2.1))) (gd : ∀ d ∈ dfs, mg d.2 = some (.ref (fA d.2))) (fr : ∀ x ∈ freeN, mg x = none)
    (TB : ∀ p ∈ Cs dA tA, TabB base mg p.1 p.2) : LawFns P w K mg base CP cA fA (Tq tA) := by
  have df : ∀ (i : Nat) (d : Df), dfs[i]? = some d → d ∈ dfs := fun i d h => List.mem_of_getElem? h
  have fr' : ∀ (i : Nat) (x : Str), freeN[i]? = some x → mg x = none := fun i x h => fr x (List.mem_of_getElem? h)
  have g_len : mg ("len" : Str) = none := fr' 0 _ rfl
  have g_range : mg ("range" : Str) = none := fr' 1 _ rfl
  have g_isi : mg ("isinstance" : Str) = none := fr' 3 _ rfl
  have g_repr : mg ("repr" : Str) = none := fr' 4 _ rfl
  have g_abs : mg ("abs" : Str) = none := fr' 5 _ rfl
  have g_int : mg ("int" : Str) = none := fr' 6 _ rfl
  have g_list : mg ("list" : Str) = none := fr' 7 _ rfl
  have g_ve : mg ("ValueError" : Str) = none := fr' 8 _ rfl
  have g_le : mg ("LookupError" : Str) = none := fr' 9 _ rfl
  obtain ⟨f0, _, F0⟩ := Fx.dfn _ (df 0 _ rfl)
  obtain ⟨f1, _, F1⟩ := Fx.dfn _ (df 1 _ rfl)
  obtain ⟨f2, _, F2⟩ := Fx.dfn _ (df 2 _ rfl)
  obtain ⟨f3, c3, F3⟩ := Fx.dfn _ (df 3 _ rfl)
  obtain ⟨f4, c4, F4⟩ := Fx.dfn _ (df 4 _ rfl)
  obtain ⟨f5, _, F5⟩ := Fx.dfn _ (df 5 _ rfl)
  obtain ⟨f6, _, F6⟩ := Fx.dfn _ (df 6 _ rfl)
  obtain ⟨f7, _, F7⟩ := Fx.dfn _ (df 7 _ rfl)
  obtain ⟨f8, _, F8⟩ := Fx.dfn _ (df 8 _ rfl)
  have one : ∀ {α : Type} {us : List α}, us.length = 1 → ∃ u, us = [u] := fun h => List.length_eq_one_iff.mp h
  have B1 : Binds K f1 ["stream", "many"] [] := F1.bindsN fun _ _ _ _ _ _ us hl => match us, hl with | [_, _], _ => rfl
  have B5 : Binds K f5 ["e"] [] := F5.bindsN fun _ _ _ _ _ _ us hl => match us, hl with | [_], _ => rfl
  have B6 : Binds K f6 ["e"] [] := F6.bindsN fun _ _ _ _ _ _ us hl => match us, hl with | [_], _ => rfl
  have G1 : FnOk P w K mg base CX0 1 (fA "_law_draw") f1 ["stream", "many"] spDraw := ok_draw g_int g_abs F1
  have G5 : FnOk P w K mg base CX0 1 (fA "_law_kinds_a") f5 ["e"] (spKind K CP cA ersA) := ok_kind Fx gm g_isi (fun c hc => List.mem_append.mpr (.inl hc)) (by decide) kindOkA kindsA F5
  have G6 : FnOk P w K mg base CX0 1 (fA "_law_kinds_b") f6 ["e"] (spKind K CP cA ersB) := ok_kind Fx gm g_isi (fun c hc => List.mem_append.mpr (.inr hc)) (by decide) kindOkB' kindsB F6
  have inT : ∀ (i : Nat) (x : Str), tabN[i]? = some x → x ∈ tabN := fun i x h => List.mem_of_getElem? h
  have tb : ∀ x ∈ tabN, TabB base mg (dA x) (tA x) := fun x hx => TB _ (List.mem_map.mpr ⟨x, hx, rfl⟩)
  have mt : ∀ x ∈ tabN, (tA x, qLam x) ∈ Tq tA := fun x hx => List.mem_map.mpr ⟨x, hx, rfl⟩
  have uA : ∀ p ∈ Tq tA, p.1 = tA "_law_made_a" → p.2 = qLam "_law_made_a" := fun p hp e => by
    have hp' : p ∈ [(tA "_law_made_a", qLam "_law_made_a"), (tA "_law_made_b", qLam "_law_made_b")] := hp
    simp only [List.mem_cons, List.not_mem_nil, or_false] at hp'
    rcases hp' with z | z
    · rw [z]
    · rw [z] at e
      exact absurd e.symm Fx.tabNe
  have uB : ∀ p ∈ Tq tA, p.1 = tA "_law_made_b" → p.2 = qLam "_law_made_b" := fun p hp e => by
    have hp' : p ∈ [(tA "_law_made_a", qLam "_law_made_a"), (tA "_law_made_b", qLam "_law_made_b")] := hp
    simp only [List.mem_cons, List.not_mem_nil, or_false] at hp'
    rcases hp' with z | z
    · rw [z] at e
      exact absurd e Fx.tabNe
    · rw [z]
  refine ⟨⟨f0, ok_stream g_list F0, F0.bindsN fun _ _ _ _ _ _ us hl => match us, hl with | [_], _ => rfl⟩, ⟨f2, ok_mixed g_list g_len g_range (gd _ (df 1 _ rfl)) G1 F1.kp B1 F2, F2.bindsN fun _ _ _ _ _ _ us hl => match us, hl with | [_, _], _ => rfl⟩,
    ⟨f3, ok_made Fx gP gm (fun c hc => List.mem_append.mpr (.inl hc)) (by decide) madeOkA madeA c3 F3 (tb _ (inT 0 _ rfl)) (mt _ (inT 0 _ rfl)) uA, F3.bindsN fun _ _ _ _ _ _ us hl => match us, hl with | [_, _], _ => rfl⟩,
    ⟨f4, ok_made Fx gP gm (fun c hc => List.mem_append.mpr (.inr hc)) (by decide) madeOkB' madeB c4 F4 (tb _ (inT 1 _ rfl)) (mt _ (inT 1 _ rfl)) uB, F4.bindsN fun _ _ _ _ _ _ us hl => match us, hl with | [_, _], _ => rfl⟩,
    ⟨f7, ok_own Fx gP g_isi g_ve g_le g_range (gd _ (df 5 _ rfl)) (gd _ (df 6 _ rfl)) G5 G6 F5.kp F6.kp B5 B6 F7, F7.bindsN fun _ _ _ _ _ _ us hl => match us, hl with | [_, _], _ => rfl⟩,
    ⟨f8, ok_same Fx g_repr F8, F8.bindsN fun _ _ _ _ _ _ us hl => match us, hl with | [_, _], _ => rfl⟩, fun d hd => ?_, gd, fr⟩
  obtain ⟨_, _, F⟩ := Fx.dfn d hd
  exact F.kp
theorem tabs0 {H : Hp} (h : ∀ p ∈ Cs dA tA, H p.2 = some (.tbl #[])) : Tabs (Tq tA) H := fun p hp => by
  obtain ⟨x, hx, rfl⟩ := List.mem_map.mp hp
  refine ⟨#[], h (dA x, tA x) (List.mem_map.mpr ⟨x, hx, rfl⟩), trivial, fun pos cv hc => ?_⟩
  cases hc
theorem law_at {l : PySem.W.OpenLaw} {h : Heap} {fa : Addr} (X : K.In h) (G : h.Ns mainGlobals mg) (Fx : Fx K CP cA iA fA dA tA) (hT : ∀ x ∈ tabN, h.get? (tA x) = some { cls := .none, data := .fields #[] }) (hmg : mg ("law" : Str) = some (.ref fa)) :
    LawAtG l w K 4 63 "script" mg fa h := by
  have gP : mg ("PageError" : Str) = some (.ref CP) := PySem.W.mg_of X G Fx.gloP
  have gm : ∀ c ∈ ers, mg c.2.1 = some (.ref (cA c.2.1)) := fun c hc => PySem.W.mg_of X G (Fx.gloE c hc)
  have gd : ∀ d ∈ dfs, mg d.2 = some (.ref (fA d.2)) := fun d hd => PySem.W.mg_of X G (Fx.gloD d hd)
  have fr : ∀ x ∈ freeN, mg x = none := fun x hx => PySem.W.mg_none_of X G (Fx.free x hx)
  have dl : ((67, "law") : Df) ∈ dfs := List.mem_of_getElem? (i := 9) rfl
  obtain ⟨fd, _, F⟩ := Fx.dfn _ dl
  have ef : fa = fA "law" := by
    have z := hmg.symm.trans (gd _ dl)
    cases z
    rfl
  subst ef
  refine ⟨fd, Cs dA tA, spLaw K (Tq tA), fun p hp => ?_, fun p hp => ?_, fun p hp => ?_, fun s u => ?_, fun H a ns _ hH hS => ⟨a, ns, rfl, hS, tabs0 hH, fun _ => rfl⟩, fun base _ _ TB => ok_law Fx (law_fns Fx gP gm gd fr TB) F⟩
  · obtain ⟨x, hx, rfl⟩ := List.mem_map.mp hp
    exact hT x hx
  · obtain ⟨x, hx, rfl⟩ := List.mem_map.mp hp
    exact Fx.tabO x hx
  · obtain ⟨x, hx, rfl⟩ := List.mem_map.mp hp
    exact PySem.W.codeHd_of_K X (Fx.tabH x hx)
  · exact FunD.bindsA (ps := ["script"]) F (fun _ _ _ _ _ _ us hl => match us, hl with | [_], _ => rfl) s [u] rfl
end
end K00
open PySem PySem.W PySem.Calls PyProof.Rows
theorem PySem.Challenge.cw_pagefall_k00_errors_made_holds : PySem.Challenge.rw_pagefall_k00_errors_made.Holds := by
  w_on; o_law
  refine HandSHeadRun.head_any (r := OpenLaw.row PySem.Challenge.rw_pagefall_k00_errors_made) (q := view (OpenLaw.row PySem.Challenge.rw_pagefall_k00_errors_made).prog [67]) (H := K00.hk) (ob := K00.ob) (M := 20000) (loose := K00.loose)
    (d := HandSHeadRun.topDef (OpenLaw.row PySem.Challenge.rw_pagefall_k00_errors_made).prog 67) (kwd := []) K00.ob_eq
    (by kernel_rfl) (fun s => by kernel_rfl) K00.run (by kernel_rfl) (by kernel_rfl) (by kernel_rfl) (by rfl) (by first | assumption | decide +kernel) (by decide +kernel) ⟨rfl, rfl, rfl, rfl, rfl, by decide +kernel⟩ ?hw ?hc
  case hw => w_witness2
  case hc =>
    refine K00.walkG (l := PySem.Challenge.rw_pagefall_k00_errors_made) (n := 63) (k := 4) (x := "script") rfl (by decide) (by kernel_rfl) ⟨rfl, by decide, by decide⟩ ?F
    intro w mg fa h Y G hmg0
    obtain ⟨K, CP, cA, iA, fA, dA, tA, KX, Fx, hT⟩ := Y
    have hmg : mg ("law" : PySem.Str) = some (.ref fa) := by
      have e : (HandSHeadRun.topDef (OpenLaw.row PySem.Challenge.rw_pagefall_k00_errors_made).prog 67).name = ("law" : PySem.Str) := by kernel_rfl
      rw [← e]
      exact hmg0
    exact ⟨K, KX, K00.law_at KX G Fx hT hmg⟩
