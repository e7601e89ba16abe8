import PyProof.Rows.All
import Wide.All
import OpenK.AllK
import Wide.FinOn
import HandS.ForMost
import HandS.Evl
import HandS.Deep
import HandS.Defaults
import HandS.MakeKwOnly
import HandS.IsInst
import HandS.Style
import HandS.SortRule
import HandS.SortInts
import HandS.Wide
import HandS.Rev
import KE.KSortTupAny
import HandS.ExcInit
import HandS.ExcField
import HandS.TryMany
import HandS.WordsExc
import HandS.ExcOwn
import HandS.CallSlots
import HandS.ExcIs
import KE.KExcIs
import HandS.Conv
import HandS.More
import HandS.Zip
import HandS.SetFor
import HandS.OwnEq
import HandS.Walk
import HandS.SetKeys
import KE.SortData
import HandS.TupLe
import HandS.RevRange
import HandS.Small
import HandS.Dict
import HandS.TryOnly
import HandS.DictComp
import HandS.Comp
import HandS.Star
import PyProof.Rows.Range3
import KE.DataMinMax
import KE.KDictDisplayH
import HandS.Property
import HandS.OwnIter
import HandS.IterNext
import HandS.ExcCtx
import HandS.HotCalls
import HandS.IterVal
import KE.GoesComp
import HandS.List
import HandS.TupMul
import HandS.SortKw
import HandS.DictTup
import KE.DatumOrd
import KE.KDictCopyH
import KE.KDictOf
import HandS.TupAny
import KE.LtData
import KE.DataCmp
import HandS.HeadEnd
import HandS.Head0
import HandS.Head1
import HandS.Head2
import HandS.HeadHook1
import HandS.HeadHook2
import HandS.HeadHook3
import HandS.HeadHook4
import KE.KStateDown
import KE.RegKIsAll
import PySem.Challenge.RW_railhouse_k43_all_tables
set_option Elab.async false
set_option linter.all false
set_option maxRecDepth 100000
set_option maxHeartbeats 4000000
/-! the head by facts -/
namespace Lw
open PySem PySem.Spec L2
section
variable {K : PySem.W.Frag}
theorem fdl {x qual : Str} {params : Arguments} {body : List Stmt} {scope : Scope} {kws : List (Str × V)} {f : Addr} (F : ∃ fd, FunD K x qual params body scope [] kws f fd) :
    ∃ (oc : Value) (od : Option Addr) (kV dc pm : Value) (an : Option Addr) (cd ct : Value) (sl : Array (Option Value)), K.lookup f = some ⟨oc, od, .func (PySem.W.fnOf x qual params body scope .none kV dc pm an cd ct), sl⟩ ∧ PySem.W.codeIn K cd qual = true ∧ PySem.W.keepIn K (.ref f) = true := by
  obtain ⟨fd, h, kp⟩ := F
  obtain ⟨oc, od, dV, kV, doc, pm, an, cdv, ct, osl, rfl, lk, hcd, hD, hK⟩ := h
  rcases hD with ⟨_, rfl⟩ | ⟨e, _⟩
  · exact ⟨oc, od, kV, doc, pm, an, cdv, ct, osl, lk, hcd, kp⟩
  · exact absurd rfl e
def exoB (K : PySem.W.Frag) (C : Addr) (bm : List Value) : Bool := match K.lookup C with
  | some ⟨.type "type", _, .cls cd, sl⟩ => (match cd.mro, sl.toList with
    | .ref C' :: bm', [_, _, _, _, some (.builtin n), _] => C' == C && n == "ValueError.__new__" && !cd.hasDel && cd.hasDict && decide (bm' = bm)
    | _, _ => false)
  | _ => false
theorem exo_of {C : Addr} {bm : List Value} (q : exoB K C bm = true) : ∃ nm qn N bs sn sub ab col dd k0 k1 k2 k3 k5, K.lookup C = some (excClassObj nm qn C N bs bm true sn sub ab col dd k0 k1 k2 k3 k5 "ValueError.__new__") := by
  unfold exoB at q
  split at q
  · rename_i dd cd sl ho
    split at q
    · rename_i C' bm' k0 k1 k2 k3 n k5 hm hs
      simp only [Bool.and_eq_true, beq_iff_eq, Bool.not_eq_true', decide_eq_true_eq] at q
      obtain ⟨⟨⟨⟨rfl, rfl⟩, hdel⟩, hdi⟩, rfl⟩ := q
      obtain ⟨nm, bs, mro, ns, qn, hd, sn, sub, ab, col, del⟩ := cd
      dsimp only at hm hdel hdi
      subst hm hdel hdi
      have hsl : sl = #[k0, k1, k2, k3, some (.builtin "ValueError.__new__"), k5] := by
        obtain ⟨l⟩ := sl
        simp only at hs
        rw [hs]
      subst hsl
      exact ⟨nm, qn, ns, bs, sn, sub, ab, col, dd, k0, k1, k2, k3, k5, ho⟩
    · cases q
  · cases q
theorem chk_at {l : List Bool} (h : l.all id = true) (i : Nat) {b : Bool} (e : l[i]? = some b) : b = true := List.all_eq_true.mp h b (List.mem_of_getElem? e)
theorem chk_dec {l : List Bool} (h : l.all id = true) (i : Nat) {p : Prop} [Decidable p] (e : l[i]? = some (decide p)) : p := of_decide_eq_true (chk_at h i e)
end
end Lw
namespace Lw
open PySem PySem.Spec L2
theorem fun_of {K : PySem.W.Frag} {x qual : Str} {st : Stmt} {kws : List (Str × V)} {f : Addr} (F : ∃ fd, FunD K x qual (defArgs st) (defBody st) (defScope st) [] kws f fd) : ∃ fd, Fun K x qual st f fd := by
  obtain ⟨oc, od, kV, dc, pm, an, cd, ct, sl, lk, hc, kp⟩ := fdl F
  exact ⟨_, ⟨oc, od, kV, dc, pm, an, cd, ct, sl, rfl, lk, hc⟩, kp⟩
end Lw
set_option Elab.async false
set_option linter.all false
set_option maxRecDepth 100000
set_option maxHeartbeats 4000000
/-! a smaller part of the heap, forced once -/
namespace Lw
open PySem PySem.Spec L2
def fzA {α : Type} : List Addr → (List Addr → α) → α
  | [], k => k []
  | a :: r, k => HandSHeadRun.frNat a fun a' => fzA r fun r' => k (a' :: r')
theorem fzA_eq {α : Type} : ∀ (l : List Addr) (k : List Addr → α), fzA l k = k l
  | [], k => rfl
  | a :: r, k => by
    unfold fzA
    rw [HandSHeadRun.frNat_eq, fzA_eq r]
def fzO {α : Type} (o : Obj) (k : Obj → α) : α := match o with
  | ⟨c, d, t, s⟩ => k ⟨c, d, t, s⟩
theorem fzO_eq {α : Type} (o : Obj) (k : Obj → α) : fzO o k = k o := by
  cases o
  rfl
def fzK {α : Type} : List (Addr × Obj) → (List (Addr × Obj) → α) → α
  | [], k => k []
  | (a, o) :: r, k => HandSHeadRun.frNat a fun a' => fzO o fun o' => fzK r fun r' => k ((a', o') :: r')
theorem fzK_eq {α : Type} : ∀ (l : List (Addr × Obj)) (k : List (Addr × Obj) → α), fzK l k = k l
  | [], k => rfl
  | (a, o) :: r, k => by
    unfold fzK
    rw [HandSHeadRun.frNat_eq, fzO_eq, fzK_eq r]
def rfs (g : Addr → Option Obj) (a : Addr) : List Addr := match g a with
  | some o => He.refsD o
  | none => []
def clsNs (g : Addr → Option Obj) (a : Addr) : List Addr := match g a with
  | some ⟨_, _, .cls cd, _⟩ => [cd.ns]
  | _ => []
/-- the functions and classes with these names, their code, tables, methods -/
def asF (fs cs : List Str) (g : Addr → Option Obj) : List Addr :=
  fzK (He.frG g [mainGlobals]) fun K0 =>
  fzA (fs.map (He.ga K0)) fun f0 => fzA (cs.map (He.ga K0)) fun c0 =>
  fzA (f0.flatMap (rfs g)) fun f1 => fzA (c0.flatMap (clsNs g)) fun n0 =>
  fzA (n0.flatMap (rfs g)) fun m0 => fzA (m0.flatMap (rfs g)) fun m1 =>
  mainGlobals :: (c0 ++ n0 ++ f0 ++ f1 ++ m0 ++ m1)
abbrev AlN : Type := Bool × List He.FnW
def obsN (fs cs : List Str) (fn : List He.DefD) (ex : PySem.W.Frag → Bool) (g : Addr → Option Obj) : AlN := fzA (asF fs cs g) fun as => fzK (He.frG g as) fun K => (ex K && fn.all fun d => d.ok K, fn.map fun d => He.fnW K d.at_)
structure SaysN (fn : List He.DefD) (ex : PySem.W.Frag → Bool) (K : PySem.W.Frag) : Prop where
  more : ex K = true
  d : He.SaysD [] fn K
theorem saysN_of {fs cs : List Str} {fn : List He.DefD} {ex : PySem.W.Frag → Bool} {g : Addr → Option Obj} (e : obsN fs cs fn ex g = (true, fn.map He.DefD.val)) : SaysN fn ex (He.frG g (asF fs cs g)) := by
  unfold obsN at e
  rw [fzA_eq, fzK_eq] at e
  have e1 : (ex (He.frG g (asF fs cs g)) && fn.all fun d => d.ok (He.frG g (asF fs cs g))) = true := congrArg (fun z : AlN => z.1) e
  have e2 : (fn.map fun d => He.fnW (He.frG g (asF fs cs g)) d.at_) = fn.map He.DefD.val := congrArg (fun z : AlN => z.2) e
  obtain ⟨h1, h2⟩ := He.ba e1
  refine ⟨h1, ?_⟩
  show (((([] : List He.Fa).all fun f => f.ok _) && fn.all fun d => d.ok _, fn.map fun d => He.fnW _ d.at_) : He.AlD) = (true, fn.map He.DefD.val)
  rw [h2, e2]
  rfl
def hookN (fs cs : List Str) (fn : List He.DefD) (ex : PySem.W.Frag → Bool) : PySem.W.Hook where
  α := AlN
  obs := fun s => obsN fs cs fn ex s.heap.get?
  val := fun _ => (true, fn.map He.DefD.val)
  says := fun _ h => ∃ K : PySem.W.Frag, K.In h ∧ SaysN fn ex K
  of := fun _ _ e => ⟨_, He.frG_in, saysN_of e⟩
  keeps := fun _ _ _ ⟨K, hK, c⟩ k => ⟨K, PySem.W.Frag.In.keeps hK k, c⟩
theorem obsN_eq {fs cs : List Str} {fn : List He.DefD} {ex : PySem.W.Frag → Bool} {g : Addr → Option Obj} {s : Shared} (h : ∀ a, g a = s.heap.get? a) : obsN fs cs fn ex g = (hookN fs cs fn ex).obs s := by
  have e : g = s.heap.get? := funext h
  rw [e] <;> rfl
end Lw
namespace Kx
open PySem L2 Lw
def top (i : Nat) : Stmt := PySem.Challenge.pw_railhouse_k43_all_tables.main.body.getD i (.Pass ⟨0, 0, 0, 0⟩)
abbrev s_NoBlock_init : Stmt := inClass (top 4) 0
abbrev s_Layout_contains : Stmt := inClass (top 19) 3
abbrev s_check_block : Stmt := top 20
abbrev s_check_blocks : Stmt := top 21
abbrev s_Layout_joints : Stmt := inClass (top 19) 10
abbrev s_Layoutadd_joint : Stmt := inClass (top 19) 1
abbrev s_Layout_init : Stmt := inClass (top 19) 0
abbrev s_cell : Stmt := top 30
abbrev s_draw : Stmt := top 31
abbrev s_near : Stmt := top 34
abbrev s_parts : Stmt := top 33
abbrev s_meets : Stmt := top 35
abbrev s_number : Stmt := top 36
abbrev s_is_good : Stmt := top 37
abbrev s_BadWay_init : Stmt := inClass (top 7) 0
abbrev s_BadLength_init : Stmt := inClass (top 3) 0
abbrev s_Train_init : Stmt := inClass (top 23) 0
abbrev s_Train_blocks : Stmt := inClass (top 23) 1
abbrev s__check_line : Stmt := top 28
abbrev s_Line_init : Stmt := inClass (top 27) 0
abbrev s_Line_trains : Stmt := inClass (top 27) 1
abbrev s_Line_can_meet : Stmt := inClass (top 27) 2
abbrev s__top_row : Stmt := top 15
abbrev s__may_follow : Stmt := top 17
abbrev s__rows : Stmt := top 16
abbrev s_count_tables : Stmt := top 13
abbrev s_TooMany_init : Stmt := inClass (top 8) 0
abbrev s_all_tables : Stmt := top 14
abbrev s_told : Stmt := top 38
abbrev s_copy : Stmt := top 40
abbrev s_stays : Stmt := top 41
abbrev s_is_right : Stmt := top 39
abbrev s_same : Stmt := top 32
abbrev s_law : Stmt := top 42
end Kx
set_option Elab.async false
set_option linter.all false
set_option maxRecDepth 100000
set_option maxHeartbeats 0
namespace Kx
open PySem PySem.Spec L2 Lw
def ggI (us ws : List Value) : List Value := us ++ ws
def d_Layout_contains : He.DefD := ⟨("Layout", some "__contains__"), "__contains__", "Layout.__contains__", defArgs s_Layout_contains, defBody s_Layout_contains, defScope s_Layout_contains, [], []⟩
def d_NoBlock_init : He.DefD := ⟨("NoBlock", some "__init__"), "__init__", "NoBlock.__init__", defArgs s_NoBlock_init, defBody s_NoBlock_init, defScope s_NoBlock_init, [], []⟩
def d_check_block : He.DefD := ⟨("check_block", none), "check_block", "check_block", defArgs s_check_block, defBody s_check_block, defScope s_check_block, [], []⟩
def d_check_blocks : He.DefD := ⟨("check_blocks", none), "check_blocks", "check_blocks", defArgs s_check_blocks, defBody s_check_blocks, defScope s_check_blocks, [], []⟩
def d_Layout_joints : He.DefD := ⟨("Layout", some "joints"), "joints", "Layout.joints", defArgs s_Layout_joints, defBody s_Layout_joints, defScope s_Layout_joints, [], []⟩
def d_Layoutadd_joint : He.DefD := ⟨("Layout", some "_add_joint"), "_add_joint", "Layout._add_joint", defArgs s_Layoutadd_joint, defBody s_Layoutadd_joint, defScope s_Layoutadd_joint, [], []⟩
def d_Layout_init : He.DefD := ⟨("Layout", some "__init__"), "__init__", "Layout.__init__", defArgs s_Layout_init, defBody s_Layout_init, defScope s_Layout_init, [], []⟩
def d_cell : He.DefD := ⟨("_law_cell", none), "_law_cell", "_law_cell", defArgs s_cell, defBody s_cell, defScope s_cell, [], []⟩
def d_draw : He.DefD := ⟨("_law_draw", none), "_law_draw", "_law_draw", defArgs s_draw, defBody s_draw, defScope s_draw, [], []⟩
def d_near : He.DefD := ⟨("_law_near", none), "_law_near", "_law_near", defArgs s_near, defBody s_near, defScope s_near, [], []⟩
def d_parts : He.DefD := ⟨("_law_parts", none), "_law_parts", "_law_parts", defArgs s_parts, defBody s_parts, defScope s_parts, [], []⟩
def d_meets : He.DefD := ⟨("_law_meets", none), "_law_meets", "_law_meets", defArgs s_meets, defBody s_meets, defScope s_meets, [], []⟩
def d_number : He.DefD := ⟨("_law_number", none), "_law_number", "_law_number", defArgs s_number, defBody s_number, defScope s_number, [], []⟩
def d_is_good : He.DefD := ⟨("_law_is_good", none), "_law_is_good", "_law_is_good", defArgs s_is_good, defBody s_is_good, defScope s_is_good, [], []⟩
def d_BadWay_init : He.DefD := ⟨("BadWay", some "__init__"), "__init__", "BadWay.__init__", defArgs s_BadWay_init, defBody s_BadWay_init, defScope s_BadWay_init, [], []⟩
def d_BadLength_init : He.DefD := ⟨("BadLength", some "__init__"), "__init__", "BadLength.__init__", defArgs s_BadLength_init, defBody s_BadLength_init, defScope s_BadLength_init, [], []⟩
def d_Train_init : He.DefD := ⟨("Train", some "__init__"), "__init__", "Train.__init__", defArgs s_Train_init, defBody s_Train_init, defScope s_Train_init, [], []⟩
def d_Train_blocks : He.DefD := ⟨("Train", some "blocks"), "blocks", "Train.blocks", defArgs s_Train_blocks, defBody s_Train_blocks, defScope s_Train_blocks, [], []⟩
def d__check_line : He.DefD := ⟨("_check_line", none), "_check_line", "_check_line", defArgs s__check_line, defBody s__check_line, defScope s__check_line, [], []⟩
def d_Line_init : He.DefD := ⟨("Line", some "__init__"), "__init__", "Line.__init__", defArgs s_Line_init, defBody s_Line_init, defScope s_Line_init, [], []⟩
def d_Line_trains : He.DefD := ⟨("Line", some "trains"), "trains", "Line.trains", defArgs s_Line_trains, defBody s_Line_trains, defScope s_Line_trains, [], []⟩
def d_Line_can_meet : He.DefD := ⟨("Line", some "can_meet"), "can_meet", "Line.can_meet", defArgs s_Line_can_meet, defBody s_Line_can_meet, defScope s_Line_can_meet, [], []⟩
def d__top_row : He.DefD := ⟨("_top_row", none), "_top_row", "_top_row", defArgs s__top_row, defBody s__top_row, defScope s__top_row, [], []⟩
def d__may_follow : He.DefD := ⟨("_may_follow", none), "_may_follow", "_may_follow", defArgs s__may_follow, defBody s__may_follow, defScope s__may_follow, [], []⟩
def d__rows : He.DefD := ⟨("_rows", none), "_rows", "_rows", defArgs s__rows, defBody s__rows, defScope s__rows, [], []⟩
def d_count_tables : He.DefD := ⟨("count_tables", none), "count_tables", "count_tables", defArgs s_count_tables, defBody s_count_tables, defScope s_count_tables, [], []⟩
def d_TooMany_init : He.DefD := ⟨("TooMany", some "__init__"), "__init__", "TooMany.__init__", defArgs s_TooMany_init, defBody s_TooMany_init, defScope s_TooMany_init, [], []⟩
def d_all_tables : He.DefD := ⟨("all_tables", none), "all_tables", "all_tables", defArgs s_all_tables, defBody s_all_tables, defScope s_all_tables, [], []⟩
def d_told : He.DefD := ⟨("_law_told", none), "_law_told", "_law_told", defArgs s_told, defBody s_told, defScope s_told, [], []⟩
def d_copy : He.DefD := ⟨("_law_copy", none), "_law_copy", "_law_copy", defArgs s_copy, defBody s_copy, defScope s_copy, [], []⟩
def d_stays : He.DefD := ⟨("_law_stays", none), "_law_stays", "_law_stays", defArgs s_stays, defBody s_stays, defScope s_stays, [], []⟩
def d_is_right : He.DefD := ⟨("_law_is_right", none), "_law_is_right", "_law_is_right", defArgs s_is_right, defBody s_is_right, defScope s_is_right, [], []⟩
def d_same : He.DefD := ⟨("_law_same", none), "_law_same", "_law_same", defArgs s_same, defBody s_same, defScope s_same, [], []⟩
def d_law : He.DefD := ⟨("law", none), "law", "law", defArgs s_law, defBody s_law, defScope s_law, [], []⟩
def fnL : List He.DefD := [d_Layout_contains, d_NoBlock_init, d_check_block, d_check_blocks, d_Layout_joints, d_Layoutadd_joint, d_Layout_init, d_cell, d_draw, d_near, d_parts, d_meets, d_number, d_is_good, d_BadWay_init, d_BadLength_init, d_Train_init, d_Train_blocks, d__check_line, d_Line_init, d_Line_trains, d_Line_can_meet, d__top_row, d__may_follow, d__rows, d_count_tables, d_TooMany_init, d_all_tables, d_told, d_copy, d_stays, d_is_right, d_same, d_law]
def tkI (K : PySem.W.Frag) (x : PySem.Str) : PySem.Tok := match PySem.W.nsIn K mainGlobals x with
  | some (some (.int _ t)) => t
  | _ => 0
def chk0 (K : PySem.W.Frag) : List Bool := [decide (PySem.W.plainGet K (He.ga K "Layout") Str.empty = true),
  decide (PySem.W.hasDictIn K (He.ga K "Layout") = true),
  decide (PySem.W.plainOver K (He.ga K "Layout") = true),
  decide (PySem.W.findIn K (.ref (He.ga K "Layout")) "__setattr__" = some (some (.builtin "object.__setattr__"))),
  decide (PySem.W.findIn K (.ref (He.ga K "Layout")) "size" = some none),
  decide (PySem.W.findIn K (.ref (He.ga K "Layout")) "_lengths" = some none),
  decide (PySem.W.findIn K (.ref (He.ga K "Layout")) "_yard_marks" = some none),
  decide (PySem.W.findIn K (.ref (He.ga K "Layout")) "_east" = some none),
  decide (PySem.W.findIn K (.ref (He.ga K "Layout")) "_west" = some none),
  decide (PySem.W.findIn K (.ref (He.ga K "Layout")) "__contains__" = some (some (.ref (He.ma K (He.ga K "Layout") "__contains__")))),
  decide (PySem.W.isFn K (.ref (He.ma K (He.ga K "Layout") "__contains__")) = true),
  decide (PySem.W.nsIn K mainGlobals "NoBlock" = some (some (.ref (He.ga K "NoBlock")))),
  decide (PySem.W.subIn K (.ref (He.ga K "NoBlock")) (.type "BaseException") = some true),
  decide (PySem.W.findIn K (.ref (He.ga K "NoBlock")) "__getattribute__" = some (some (.builtin "BaseException.__getattribute__"))),
  decide (PySem.W.findIn K (.ref (He.ga K "NoBlock")) "__getattr__" = some none),
  decide (PySem.W.hasDictIn K (He.ga K "NoBlock") = true),
  decide (PySem.W.findIn K (.ref (He.ga K "NoBlock")) "__class__" = some (some (.builtin "object.__class__"))),
  decide (PySem.W.mroIn K (He.ga K "NoBlock") (.type "object") = some true),
  decide (PySem.W.specialIn K (.builtin "object.__class__") "__get__" = some (some (.builtin "getset_descriptor.__get__"))),
  decide (PySem.W.takesIn K (.builtin "object.__class__") = some true),
  decide (PySem.W.exmOne K (.ref (He.ga K "NoBlock")) (.ref (He.ga K "NoBlock")) = some true),
  decide (PySem.W.findIn K (.ref (He.ga K "NoBlock")) "block" = some none),
  decide (PySem.W.nsIn K mainGlobals "RailError" = some (some (.ref (He.ga K "RailError")))),
  Lw.exoB K (He.ga K "NoBlock") [.ref (He.ga K "RailError"), .type "ValueError", .type "Exception", .type "BaseException", .type "object"],
  decide (PySem.W.findIn K (.ref (He.ga K "NoBlock")) "__setattr__" = some (some (.builtin "object.__setattr__"))),
  decide (PySem.W.typeIn K (.ref (He.ga K "NoBlock")) = some (.type "type")),
  decide (PySem.W.keepIn K (.ref (He.ga K "NoBlock")) = true),
  decide (PySem.W.findIn K (.ref (He.ga K "NoBlock")) "__init__" = some (some (.ref (He.ma K (He.ga K "NoBlock") "__init__")))),
  decide (PySem.W.typeIn K (.ref (He.ma K (He.ga K "NoBlock") "__init__")) = some (.type "function")),
  decide (PySem.W.nsIn K mainGlobals "check_block" = some (some (.ref (He.ga K "check_block")))),
  decide (PySem.W.nsIn K mainGlobals "check_blocks" = some (some (.ref (He.ga K "check_blocks")))),
  decide (PySem.W.nsIn K mainGlobals "len" = some none),
  decide (PySem.W.nsIn K mainGlobals "abs" = some none),
  decide (PySem.W.nsIn K mainGlobals "min" = some none),
  decide (PySem.W.nsIn K mainGlobals "range" = some none),
  decide (PySem.W.nsIn K mainGlobals "int" = some none),
  decide (PySem.W.nsIn K mainGlobals "str" = some none),
  decide (PySem.W.nsIn K mainGlobals "bool" = some none),
  decide (PySem.W.nsIn K mainGlobals "list" = some none),
  decide (PySem.W.nsIn K mainGlobals "tuple" = some none)]
def chk1 (K : PySem.W.Frag) : List Bool := [decide (PySem.W.nsIn K mainGlobals "sorted" = some none),
  decide (PySem.W.nsIn K mainGlobals "isinstance" = some none),
  decide (PySem.W.findIn K (.ref (He.ga K "Layout")) "joints" = some (some (.ref (He.ma K (He.ga K "Layout") "joints")))),
  decide (PySem.W.isFn K (.ref (He.ma K (He.ga K "Layout") "joints")) = true),
  decide (PySem.W.findIn K (.ref (He.ga K "Layout")) "_add_joint" = some (some (.ref (He.ma K (He.ga K "Layout") "_add_joint")))),
  decide (PySem.W.isFn K (.ref (He.ma K (He.ga K "Layout") "_add_joint")) = true),
  decide (PySem.W.nsIn K mainGlobals "Layout" = some (some (.ref (He.ga K "Layout")))),
  decide (PySem.W.makesIn K (He.ga K "Layout") = true),
  decide (PySem.W.findIn K (.ref (He.ga K "Layout")) "__init__" = some (some (.ref (He.ma K (He.ga K "Layout") "__init__")))),
  decide (PySem.W.isFn K (.ref (He.ma K (He.ga K "Layout") "__init__")) = true),
  decide (PySem.W.keepIn K (.ref (He.ga K "Layout")) = true),
  decide (PySem.W.nsIn K mainGlobals "_law_cell" = some (some (.ref (He.ga K "_law_cell")))),
  decide (PySem.W.nsIn K mainGlobals "_law_draw" = some (some (.ref (He.ga K "_law_draw")))),
  decide (PySem.W.nsIn K mainGlobals "reversed" = some none),
  decide (PySem.W.nsIn K mainGlobals "_law_near" = some (some (.ref (He.ga K "_law_near")))),
  decide (PySem.W.nsIn K mainGlobals "_law_parts" = some (some (.ref (He.ga K "_law_parts")))),
  decide (PySem.W.nsIn K mainGlobals "_law_meets" = some (some (.ref (He.ga K "_law_meets")))),
  decide (PySem.W.nsIn K mainGlobals "sum" = some none),
  decide (PySem.W.nsIn K mainGlobals "dict" = some none),
  decide (PySem.W.nsIn K mainGlobals "_law_number" = some (some (.ref (He.ga K "_law_number")))),
  decide (PySem.W.nsIn K mainGlobals "_law_is_good" = some (some (.ref (He.ga K "_law_is_good")))),
  decide (PySem.W.plainGet K (He.ga K "Train") Str.empty = true),
  decide (PySem.W.hasDictIn K (He.ga K "Train") = true),
  decide (PySem.W.plainOver K (He.ga K "Train") = true),
  decide (PySem.W.findIn K (.ref (He.ga K "Train")) "__setattr__" = some (some (.builtin "object.__setattr__"))),
  decide (PySem.W.findIn K (.ref (He.ga K "Train")) "_way" = some none),
  decide (PySem.W.findIn K (.ref (He.ga K "Train")) "_step_at" = some none),
  decide (PySem.W.findIn K (.ref (He.ga K "Train")) "length" = some none),
  decide (PySem.W.findIn K (.ref (He.ga K "Train")) "steps" = some none),
  decide (PySem.W.findIn K (.ref (He.ga K "Train")) "last" = some none),
  decide (PySem.W.nsIn K mainGlobals "BadWay" = some (some (.ref (He.ga K "BadWay")))),
  decide (PySem.W.subIn K (.ref (He.ga K "BadWay")) (.type "BaseException") = some true),
  decide (PySem.W.findIn K (.ref (He.ga K "BadWay")) "__getattribute__" = some (some (.builtin "BaseException.__getattribute__"))),
  decide (PySem.W.findIn K (.ref (He.ga K "BadWay")) "__getattr__" = some none),
  decide (PySem.W.hasDictIn K (He.ga K "BadWay") = true),
  decide (PySem.W.findIn K (.ref (He.ga K "BadWay")) "__class__" = some (some (.builtin "object.__class__"))),
  decide (PySem.W.mroIn K (He.ga K "BadWay") (.type "object") = some true),
  decide (PySem.W.exmOne K (.ref (He.ga K "BadWay")) (.ref (He.ga K "BadWay")) = some true),
  decide (PySem.W.findIn K (.ref (He.ga K "BadWay")) "at" = some none),
  Lw.exoB K (He.ga K "BadWay") [.ref (He.ga K "RailError"), .type "ValueError", .type "Exception", .type "BaseException", .type "object"]]
def chk2 (K : PySem.W.Frag) : List Bool := [decide (PySem.W.findIn K (.ref (He.ga K "BadWay")) "__setattr__" = some (some (.builtin "object.__setattr__"))),
  decide (PySem.W.typeIn K (.ref (He.ga K "BadWay")) = some (.type "type")),
  decide (PySem.W.keepIn K (.ref (He.ga K "BadWay")) = true),
  decide (PySem.W.findIn K (.ref (He.ga K "BadWay")) "__init__" = some (some (.ref (He.ma K (He.ga K "BadWay") "__init__")))),
  decide (PySem.W.typeIn K (.ref (He.ma K (He.ga K "BadWay") "__init__")) = some (.type "function")),
  decide (PySem.W.nsIn K mainGlobals "BadLength" = some (some (.ref (He.ga K "BadLength")))),
  decide (PySem.W.subIn K (.ref (He.ga K "BadLength")) (.type "BaseException") = some true),
  decide (PySem.W.findIn K (.ref (He.ga K "BadLength")) "__getattribute__" = some (some (.builtin "BaseException.__getattribute__"))),
  decide (PySem.W.findIn K (.ref (He.ga K "BadLength")) "__getattr__" = some none),
  decide (PySem.W.hasDictIn K (He.ga K "BadLength") = true),
  decide (PySem.W.findIn K (.ref (He.ga K "BadLength")) "__class__" = some (some (.builtin "object.__class__"))),
  decide (PySem.W.mroIn K (He.ga K "BadLength") (.type "object") = some true),
  decide (PySem.W.exmOne K (.ref (He.ga K "BadLength")) (.ref (He.ga K "BadLength")) = some true),
  decide (PySem.W.findIn K (.ref (He.ga K "BadLength")) "length" = some none),
  Lw.exoB K (He.ga K "BadLength") [.ref (He.ga K "RailError"), .type "ValueError", .type "Exception", .type "BaseException", .type "object"],
  decide (PySem.W.findIn K (.ref (He.ga K "BadLength")) "__setattr__" = some (some (.builtin "object.__setattr__"))),
  decide (PySem.W.typeIn K (.ref (He.ga K "BadLength")) = some (.type "type")),
  decide (PySem.W.keepIn K (.ref (He.ga K "BadLength")) = true),
  decide (PySem.W.findIn K (.ref (He.ga K "BadLength")) "__init__" = some (some (.ref (He.ma K (He.ga K "BadLength") "__init__")))),
  decide (PySem.W.typeIn K (.ref (He.ma K (He.ga K "BadLength") "__init__")) = some (.type "function")),
  decide (PySem.W.nsIn K mainGlobals "Train" = some (some (.ref (He.ga K "Train")))),
  decide (PySem.W.makesIn K (He.ga K "Train") = true),
  decide (PySem.W.findIn K (.ref (He.ga K "Train")) "__init__" = some (some (.ref (He.ma K (He.ga K "Train") "__init__")))),
  decide (PySem.W.isFn K (.ref (He.ma K (He.ga K "Train") "__init__")) = true),
  decide (PySem.W.keepIn K (.ref (He.ga K "Train")) = true),
  decide (PySem.W.findIn K (.ref (He.ga K "Train")) "blocks" = some (some (.ref (He.ma K (He.ga K "Train") "blocks")))),
  decide (PySem.W.isFn K (.ref (He.ma K (He.ga K "Train") "blocks")) = true),
  decide (PySem.W.nsIn K mainGlobals "max" = some none),
  decide (PySem.W.nsIn K mainGlobals "SECTION_LIMIT" = some (some (.int 6 (tkI K "SECTION_LIMIT")))),
  decide (PySem.W.nsIn K mainGlobals "TRAIN_LIMIT" = some (some (.int 4 (tkI K "TRAIN_LIMIT")))),
  decide (PySem.W.nsIn K mainGlobals "BadLine" = some (some (.ref (He.ga K "BadLine")))),
  decide (PySem.W.subIn K (.ref (He.ga K "BadLine")) (.type "BaseException") = some true),
  decide (PySem.W.excIn K (He.ga K "BadLine") [.type "ValueError", .type "Exception", .type "BaseException", .type "object"] "ValueError.__new__" = true),
  decide (PySem.W.keepIn K (.ref (He.ga K "BadLine")) = true),
  decide (PySem.W.typeIn K (.ref (He.ga K "BadLine")) = some (.type "type")),
  decide (PySem.W.nsIn K mainGlobals "_check_line" = some (some (.ref (He.ga K "_check_line")))),
  decide (PySem.W.plainGet K (He.ga K "Line") Str.empty = true),
  decide (PySem.W.hasDictIn K (He.ga K "Line") = true),
  decide (PySem.W.plainOver K (He.ga K "Line") = true),
  decide (PySem.W.findIn K (.ref (He.ga K "Line")) "__setattr__" = some (some (.builtin "object.__setattr__")))]
def chk3 (K : PySem.W.Frag) : List Bool := [decide (PySem.W.findIn K (.ref (He.ga K "Line")) "sections" = some none),
  decide (PySem.W.findIn K (.ref (He.ga K "Line")) "eastbound" = some none),
  decide (PySem.W.findIn K (.ref (He.ga K "Line")) "westbound" = some none),
  decide (PySem.W.findIn K (.ref (He.ga K "Line")) "_rooms" = some none),
  decide (PySem.W.findIn K (.ref (He.ga K "Line")) "_east" = some none),
  decide (PySem.W.findIn K (.ref (He.ga K "Line")) "_west" = some none),
  decide (PySem.W.findIn K (.ref (He.ga K "Line")) "layout" = some none),
  decide (PySem.W.nsIn K mainGlobals "zip" = some none),
  decide (PySem.W.nsIn K mainGlobals "Line" = some (some (.ref (He.ga K "Line")))),
  decide (PySem.W.makesIn K (He.ga K "Line") = true),
  decide (PySem.W.findIn K (.ref (He.ga K "Line")) "__init__" = some (some (.ref (He.ma K (He.ga K "Line") "__init__")))),
  decide (PySem.W.isFn K (.ref (He.ma K (He.ga K "Line") "__init__")) = true),
  decide (PySem.W.keepIn K (.ref (He.ga K "Line")) = true),
  decide (PySem.W.findIn K (.ref (He.ga K "Line")) "trains" = some (some (.ref (He.ma K (He.ga K "Line") "trains")))),
  decide (PySem.W.isFn K (.ref (He.ma K (He.ga K "Line") "trains")) = true),
  decide (PySem.W.findIn K (.ref (He.ga K "Line")) "can_meet" = some (some (.ref (He.ma K (He.ga K "Line") "can_meet")))),
  decide (PySem.W.isFn K (.ref (He.ma K (He.ga K "Line") "can_meet")) = true),
  decide (PySem.W.nsIn K mainGlobals "_top_row" = some (some (.ref (He.ga K "_top_row")))),
  decide (PySem.W.nsIn K mainGlobals "all" = some none),
  decide (PySem.W.nsIn K mainGlobals "_may_follow" = some (some (.ref (He.ga K "_may_follow")))),
  decide (PySem.W.nsIn K mainGlobals "_rows" = some (some (.ref (He.ga K "_rows")))),
  decide (PySem.W.nsIn K mainGlobals "count_tables" = some (some (.ref (He.ga K "count_tables")))),
  decide (PySem.W.nsIn K mainGlobals "TABLE_LIMIT" = some (some (.int 200 (tkI K "TABLE_LIMIT")))),
  decide (PySem.W.nsIn K mainGlobals "TooMany" = some (some (.ref (He.ga K "TooMany")))),
  decide (PySem.W.subIn K (.ref (He.ga K "TooMany")) (.type "BaseException") = some true),
  decide (PySem.W.findIn K (.ref (He.ga K "TooMany")) "__getattribute__" = some (some (.builtin "BaseException.__getattribute__"))),
  decide (PySem.W.findIn K (.ref (He.ga K "TooMany")) "__getattr__" = some none),
  decide (PySem.W.hasDictIn K (He.ga K "TooMany") = true),
  decide (PySem.W.findIn K (.ref (He.ga K "TooMany")) "__class__" = some (some (.builtin "object.__class__"))),
  decide (PySem.W.mroIn K (He.ga K "TooMany") (.type "object") = some true),
  decide (PySem.W.exmOne K (.ref (He.ga K "TooMany")) (.ref (He.ga K "TooMany")) = some true),
  decide (PySem.W.findIn K (.ref (He.ga K "TooMany")) "number" = some none),
  decide (PySem.W.findIn K (.ref (He.ga K "TooMany")) "limit" = some none),
  Lw.exoB K (He.ga K "TooMany") [.ref (He.ga K "RailError"), .type "ValueError", .type "Exception", .type "BaseException", .type "object"],
  decide (PySem.W.findIn K (.ref (He.ga K "TooMany")) "__setattr__" = some (some (.builtin "object.__setattr__"))),
  decide (PySem.W.typeIn K (.ref (He.ga K "TooMany")) = some (.type "type")),
  decide (PySem.W.keepIn K (.ref (He.ga K "TooMany")) = true),
  decide (PySem.W.findIn K (.ref (He.ga K "TooMany")) "__init__" = some (some (.ref (He.ma K (He.ga K "TooMany") "__init__")))),
  decide (PySem.W.typeIn K (.ref (He.ma K (He.ga K "TooMany") "__init__")) = some (.type "function")),
  decide (PySem.W.nsIn K mainGlobals "all_tables" = some (some (.ref (He.ga K "all_tables"))))]
def chk4 (K : PySem.W.Frag) : List Bool := [decide (PySem.W.nsIn K mainGlobals "ValueError" = some none),
  decide (PySem.W.nsIn K mainGlobals "BadTable" = some (some (.ref (He.ga K "BadTable")))),
  decide (PySem.W.kitOne K (.ref (He.ga K "TooMany")) (.ref (He.ga K "RailError")) = some true),
  decide (PySem.W.kitOne K (.ref (He.ga K "TooMany")) (.type "ValueError") = some true),
  decide (PySem.W.kitOne K (.ref (He.ga K "TooMany")) (.ref (He.ga K "BadTable")) = some false),
  decide (PySem.W.nsIn K mainGlobals "_law_told" = some (some (.ref (He.ga K "_law_told")))),
  decide (PySem.W.nsIn K mainGlobals "_law_copy" = some (some (.ref (He.ga K "_law_copy")))),
  decide (PySem.W.nsIn K mainGlobals "_law_same" = some (some (.ref (He.ga K "_law_same")))),
  decide (PySem.W.nsIn K mainGlobals "_law_stays" = some (some (.ref (He.ga K "_law_stays")))),
  decide (PySem.W.nsIn K mainGlobals "_law_is_right" = some (some (.ref (He.ga K "_law_is_right")))),
  decide (PySem.W.nsIn K mainGlobals "law" = some (some (.ref (He.ga K "law"))))]
def chkA (K : PySem.W.Frag) : Bool := (chk0 K).all id && (chk1 K).all id && (chk2 K).all id && (chk3 K).all id && (chk4 K).all id
end Kx
set_option Elab.async false
set_option linter.all false
set_option maxRecDepth 100000
set_option maxHeartbeats 0
namespace Kx
open PySem PySem.W PySem.Calls PyProof.Rows
abbrev Rw : OpenRow := OpenLaw.row PySem.Challenge.rw_railhouse_k43_all_tables
def loose0 : List PySem.Str := ["_wall", "RailError", "BadLength", "NoBlock", "BadJoint", "CrowdedEnd", "BadWay", "TooMany", "BadLine", "BadTable", "count_tables", "all_tables", "_top_row", "_rows", "_may_follow"]
def loose1 : List PySem.Str := ["Layout", "check_block", "check_blocks", "Train", "Line", "_check_line", "_law_cell", "_law_draw", "_law_same", "_law_parts", "_law_near", "_law_meets", "_law_number", "_law_is_good", "_law_told"]
def loose2 : List PySem.Str := ["_law_is_right", "_law_copy", "_law_stays", "TABLE_LIMIT", "SECTION_LIMIT", "TRAIN_LIMIT"]
def loose : List PySem.Str := loose0 ++ loose1 ++ loose2
def fsL0 : List PySem.Str := ["check_block", "check_blocks", "_law_cell", "_law_draw", "_law_near", "_law_parts", "_law_meets", "_law_number", "_law_is_good", "_check_line", "_top_row", "_may_follow", "_rows", "count_tables", "all_tables"]
def fsL1 : List PySem.Str := ["_law_told", "_law_copy", "_law_stays", "_law_is_right", "_law_same", "law"]
def fsL : List PySem.Str := fsL0 ++ fsL1
def csL0 : List PySem.Str := ["BadLength", "BadLine", "BadTable", "BadWay", "Layout", "Line", "NoBlock", "RailError", "TooMany", "Train"]
def csL : List PySem.Str := csL0
abbrev hk : Hook := Lw.hookN fsL csL fnL chkA
def ob (s : SharedT) : Lw.AlN := Lw.obsN fsL csL fnL chkA (HandSHeadRun.getT s)
theorem ob_eq (s : SharedT) : ob s = hk.obs s.abs := Lw.obsN_eq (HandSHeadRun.getT_eq s)
theorem run (w : World) : HandSHeadRun.RunEq Rw (view Rw.prog [42]) hk ob 60000 loose w := by
  intro os
  kernel_rfl
end Kx
set_option Elab.async false
set_option linter.all false
set_option maxRecDepth 100000
set_option maxHeartbeats 4000000
/-! A layer of our own: G is what is known of the heap H. -/
namespace Lw
open PySem L2
open Evl (Ex)
/-! ### what is known grows -/
def Gr (G G' H H' : Hp) : Prop := Ex G G' ∧ Ex G' H' ∧ Ex H H' ∧ ∀ a, H a ≠ none → G a = none → G' a = none
theorem exTrans {H H1 H2 : Hp} (a : Ex H H1) (b : Ex H1 H2) : Ex H H2 := Ex.trans a b
theorem Gr.same {G H H' : Hp} (e : Ex G H) (e2 : Ex H H') : Gr G G H H' := ⟨Ex.refl G, e.trans e2, e2, fun _ _ h => h⟩
theorem Gr.refl {G H : Hp} (e : Ex G H) : Gr G G H H := .same e (Ex.refl H)
theorem Gr.ok {G G' H H' : Hp} (a : Gr G G' H H') : Ex G' H' := a.2.1
theorem Gr.up {G G' H H' : Hp} (a : Gr G G' H H') : Ex G G' := a.1
theorem Gr.hp {G G' H H' : Hp} (a : Gr G G' H H') : Ex H H' := a.2.2.1
theorem ne_none_of {o : Option HO} {x : HO} (h : o = some x) : o ≠ none := by rw [h]; exact fun z => nomatch z
theorem exNe {H H' : Hp} (e : Ex H H') {a : Addr} (h : H a ≠ none) : H' a ≠ none := by
  cases q : H a with
  | none => exact absurd q h
  | some o => exact ne_none_of (e a o q)
theorem Gr.trans {G G1 G2 H H1 H2 : Hp} (a : Gr G G1 H H1) (b : Gr G1 G2 H1 H2) : Gr G G2 H H2 :=
  ⟨a.1.trans b.1, b.2.1, a.2.2.1.trans b.2.2.1, fun x h g => b.2.2.2 x (exNe a.2.2.1 h) (a.2.2.2 x h g)⟩
theorem Gr.then {G G1 H H1 H2 : Hp} (a : Gr G G1 H H1) (b : Ex H1 H2) : Gr G G1 H H2 := a.trans (.same a.ok b)
theorem none_back {G H : Hp} (e : Ex G H) {p : Addr} (h : H p = none) : G p = none := Evl.fresh_back e h
theorem Gr.new {G H : Hp} {p : Addr} {o : HO} (e : Ex G H) (hp : H p = none) : Gr G (upd G p o) H (upd H p o) := by
  refine ⟨Ex.new (none_back e hp), fun a u q => ?_, Ex.new hp, fun a h g => ?_⟩
  · by_cases ap : a = p
    · subst ap
      rw [upd_same] at q ⊢
      exact q
    · rw [upd_ne ap] at q ⊢
      exact e a u q
  · have ap : a ≠ p := fun z => h (by rw [z]; exact hp)
    rw [upd_ne ap]
    exact g
/-- the knowledge of two readings, one behind the other -/
theorem Gr.join {G G1 G2 H H1 H2 : Hp} (a : Gr G G1 H H1) (b : Gr G G2 H1 H2) : ∃ G3, Ex G1 G3 ∧ Ex G2 G3 ∧ Gr G G3 H H2 := by
  refine ⟨fun x => match G1 x with | some o => some o | none => G2 x, fun x o q => ?_, fun x o q => ?_, ⟨fun x o q => ?_, fun x o q => ?_, a.2.2.1.trans b.2.2.1, fun x h g => ?_⟩⟩
  · show (match G1 x with | some o => some o | none => G2 x) = some o
    rw [q]
  · show (match G1 x with | some o => some o | none => G2 x) = some o
    cases e : G1 x with
    | none => exact q
    | some o' =>
      have h1 := b.2.2.1 x o' (a.2.1 x o' e)
      rw [b.2.1 x o q] at h1
      exact h1.symm
  · show (match G1 x with | some o => some o | none => G2 x) = some o
    rw [a.1 x o q]
  · have q' : (match G1 x with | some o => some o | none => G2 x) = some o := q
    cases e : G1 x with
    | none =>
      rw [e] at q'
      exact b.2.1 x o q'
    | some o' =>
      rw [e] at q'
      cases q'
      exact b.2.2.1 x o (a.2.1 x o e)
  · show (match G1 x with | some o => some o | none => G2 x) = none
    rw [a.2.2.2 x h g]
    exact b.2.2.2 x (exNe a.2.2.1 h) g
/-- an object that is new since H0 may change -/
theorem Gr.mut {G0 G H0 H : Hp} {p : Addr} {o : HO} (e0 : Ex G0 H0) (a : Gr G0 G H0 H) (hp : H0 p = none) : Gr G0 (upd G p o) H0 (upd H p o) := by
  refine ⟨fun b u q => ?_, fun b u q => ?_, fun b u q => ?_, fun b h g => ?_⟩
  · rw [upd_ne (ne_of_none q (none_back e0 hp))]
    exact a.1 b u q
  · by_cases ap : b = p
    · subst ap
      rw [upd_same] at q ⊢
      exact q
    · rw [upd_ne ap] at q ⊢
      exact a.2.1 b u q
  · rw [upd_ne (ne_of_none q hp)]
    exact a.2.2.1 b u q
  · have ap : b ≠ p := fun z => h (by rw [z]; exact hp)
    rw [upd_ne ap]
    exact a.2.2.2 b h g
theorem upd_self' {H : Hp} {p : Addr} {o : HO} (h : H p = some o) : upd H p o = H := by
  funext b
  by_cases e : b = p
  · rw [e, upd_same, h]
  · rw [upd_ne e]
/-- .. and may be known -/
theorem Gr.know {G0 G H0 H : Hp} {p : Addr} {o : HO} (e0 : Ex G0 H0) (a : Gr G0 G H0 H) (hp : H0 p = none) (h : H p = some o) : Gr G0 (upd G p o) H0 H := by
  have q := Gr.mut (o := o) e0 a hp
  rw [upd_self' h] at q
  exact q
theorem ex_know {G H : Hp} {p : Addr} {o : HO} (e : Ex G H) (h : H p = some o) : Ex (upd G p o) H := fun b u q => by
  by_cases ap : b = p
  · subst ap
    rw [upd_same] at q
    cases q
    exact h
  · rw [upd_ne ap] at q
    exact e b u q
theorem ex_off {G H : Hp} {p : Addr} {o : HO} (e : Ex G H) (h : G p = none) : Ex G (upd H p o) := fun b u q => by
  rw [upd_ne (ne_of_none q h)]
  exact e b u q
theorem ex_in {G : Hp} {p : Addr} {o : HO} (h : G p = none) : Ex G (upd G p o) := Ex.new h
/-! ### data -/
section
variable {K : PySem.W.Frag}
mutual
theorem Dp.ex {G G' : Hp} (e : Ex G G') : ∀ (d : PyData) (v : V), Dp K G v d → Dp K G' v d
  | .none, _, h => by cases h; exact .non
  | .bool b, _, h => by cases h; exact .bl b
  | .int i, _, h => by cases h; exact .int i
  | .str x, _, h => by cases h; exact .str x
  | .list ds, _, h => by
    cases h with
    | lst hs ha => exact .lst (Evl.ex_l e hs) (DpAll.ex e ds _ ha)
  | .tuple ds, _, h => by
    cases h with
    | tup hs ha => exact .tup (Evl.ex_t e hs) (DpAll.ex e ds _ ha)
  | .dict _, _, h => by cases h
theorem DpAll.ex {G G' : Hp} (e : Ex G G') : ∀ (ds : List PyData) (vs : List V), DpAll K G vs ds → DpAll K G' vs ds
  | [], _, h => by cases h; exact .nil
  | d :: ds, _, h => by
    cases h with
    | cons h1 h2 => exact .cons (Dp.ex e d _ h1) (DpAll.ex e ds _ h2)
end
theorem dpx {G G' : Hp} {v : V} {d : PyData} (h : Dp K G v d) (e : Ex G G') : Dp K G' v d := Dp.ex e d v h
theorem dpax {G G' : Hp} {vs : List V} {ds : List PyData} (h : DpAll K G vs ds) (e : Ex G G') : DpAll K G' vs ds := DpAll.ex e ds vs h
theorem dpa_len {G : Hp} : ∀ {vs : List V} {ds : List PyData}, DpAll K G vs ds → vs.length = ds.length
  | _, _, .nil => rfl
  | _, _, .cons _ h => congrArg Nat.succ (dpa_len h)
theorem dpa_snoc {G : Hp} : ∀ {vs : List V} {ds : List PyData} {v : V} {d : PyData}, DpAll K G vs ds → Dp K G v d → DpAll K G (vs ++ [v]) (ds ++ [d])
  | _, _, _, _, .nil, h => .cons h .nil
  | _, _, _, _, .cons a r, h => .cons a (dpa_snoc r h)
theorem dpa_get {G : Hp} : ∀ {vs : List V} {ds : List PyData} {i : Nat} {v : V}, DpAll K G vs ds → vs[i]? = some v → ∃ d, ds[i]? = some d ∧ Dp K G v d
  | _, _, i, v, .nil, h => by simp at h
  | _, _, 0, v, .cons a r, h => ⟨_, rfl, by cases h; exact a⟩
  | _, _, i + 1, v, .cons a r, h => dpa_get (i := i) r h
theorem dpa_get' {G : Hp} : ∀ {vs : List V} {ds : List PyData} {i : Nat} {d : PyData}, DpAll K G vs ds → ds[i]? = some d → ∃ v, vs[i]? = some v ∧ Dp K G v d
  | _, _, i, d, .nil, h => by simp at h
  | _, _, 0, d, .cons a r, h => ⟨_, rfl, by cases h; exact a⟩
  | _, _, i + 1, d, .cons a r, h => dpa_get' (i := i) r h
theorem dpa_ints {G : Hp} : ∀ (zs : List Int), DpAll K G (zs.map V.int) (zs.map PyData.int)
  | [] => .nil
  | z :: zs => .cons (.int z) (dpa_ints zs)
theorem dpa_bls {G : Hp} : ∀ (zs : List Bool), DpAll K G (zs.map V.bl) (zs.map PyData.bool)
  | [] => .nil
  | z :: zs => .cons (.bl z) (dpa_bls zs)
theorem dpa_ints_eq {G : Hp} : ∀ {zs : List Int} {vs : List V}, DpAll K G vs (zs.map PyData.int) → vs = zs.map V.int
  | [], _, .nil => rfl
  | z :: zs, _, .cons h r => by
    cases h
    rw [dpa_ints_eq r]
    rfl
theorem dp_lst {G : Hp} {v : V} {ds : List PyData} (h : Dp K G v (.list ds)) : ∃ a xs, v = .ref a ∧ SqL K G a xs ∧ DpAll K G xs ds := by
  cases h with
  | lst hs ha => exact ⟨_, _, rfl, hs, ha⟩
theorem dp_tup {G : Hp} {v : V} {ds : List PyData} (h : Dp K G v (.tuple ds)) : ∃ a xs, v = .ref a ∧ SqT K G a xs ∧ DpAll K G xs ds := by
  cases h with
  | tup hs ha => exact ⟨_, _, rfl, hs, ha⟩
theorem dp_mkL {G : Hp} {p : Addr} {xs : List V} {ds : List PyData} (h : G p = some (.lst xs)) (ha : DpAll K G xs ds) : Dp K G (.ref p) (.list ds) := .lst (Evl.sq_of h) ha
theorem dp_mkT {G : Hp} {p : Addr} {xs : List V} {ds : List PyData} (h : G p = some (.tup xs)) (ha : DpAll K G xs ds) : Dp K G (.ref p) (.tuple ds) := .tup (Evl.st_of h) ha
end
/-! ### readings of expressions -/
abbrev VP := V → Hp → Prop
def EF (te : TE) (σ : L2.St) (G : Hp) (P : VP) : Prop := ∀ H, Ex G H → ∀ Q : VK, (∀ v G' H', Gr G G' H H' → P v G' → Q v H') → te σ H Q
def ET (t : TT) (σ : L2.St) (G : Hp) (p : Bool → Prop) : Prop := ∀ H, Ex G H → ∀ Q : Bool → Hp → Prop, (∀ b H', Ex H H' → p b → Q b H') → t σ H Q
def EA (ta : TA) (σ : L2.St) (G : Hp) (P : List V → Hp → Prop) : Prop := ∀ H, Ex G H → ∀ Q : List V → Hp → Prop, (∀ vs G' H', Gr G G' H H' → P vs G' → Q vs H') → ta σ H Q
def RO (r : R2) (x y : V) (G : Hp) (P : VP) : Prop := ∀ H, Ex G H → ∀ Q : VK, (∀ v G' H', Gr G G' H H' → P v G' → Q v H') → r x y H Q
def RA (r : List V → Hp → VK → Prop) (vs : List V) (G : Hp) (P : VP) : Prop := ∀ H, Ex G H → ∀ Q : VK, (∀ v G' H', Gr G G' H H' → P v G' → Q v H') → r vs H Q
/-- a promise kept: from the knowledge G -/
def SA (sp : Sp) (vs : List V) (G : Hp) (P : VP) : Prop := ∀ H, Ex G H → ∀ (Q : VK) (E : XK), (∀ v G' H', Gr G G' H H' → P v G' → Q v H') → sp vs H Q E
def IV (p : Int → Prop) : VP := fun v _ => ∃ z, v = .int z ∧ p z
def BV (p : Bool → Prop) : VP := fun v _ => ∃ z, v = .bl z ∧ p z
def DV (K : PySem.W.Frag) (d : PyData) : VP := fun v G => Dp K G v d
def XV (x : V) : VP := fun v _ => v = x
def Mo (P : VP) : Prop := ∀ v G G', Ex G G' → P v G → P v G'
theorem mo_IV {p} : Mo (IV p) := fun _ _ _ _ h => h
theorem mo_XV {p} : Mo (XV p) := fun _ _ _ _ h => h
theorem mo_DV {K d} : Mo (DV K d) := fun _ _ _ e h => dpx h e
section
variable {K : PySem.W.Frag} {σ : L2.St} {G G' H H' : Hp} {ta tb te tx : TE} {t u : TT} {x y z v : V} {r : R2} {P Pa Pb : VP}
theorem EF.imp {P' : VP} (h : EF te σ G P) (k : ∀ v G', Ex G G' → P v G' → P' v G') : EF te σ G P' := fun H e Q q => h H e Q fun v G' H' g p => q v G' H' g (k v G' g.up p)
theorem ef_var {i : Nat} (h : σ[i]? = some (some v)) (p : P v G) : EF (tVar i) σ G P := fun H e _ q => ⟨v, h, q v G H (.refl e) p⟩
theorem ef_c (p : P v G) : EF (tC v) σ G P := fun H e _ q => q v G H (.refl e) p
theorem ef_op (mA : Mo Pa) (mB : Mo Pb) (ha : EF ta σ G Pa) (hb : EF tb σ G Pb) (hr : ∀ x y G', Ex G G' → Pa x G' → Pb y G' → RO r x y G' P) : EF (tOp r ta tb) σ G P := fun H e Q q =>
  ha H e _ fun x G1 H1 g1 p1 => hb H1 (g1.up.trans g1.ok) _ fun y G2 H2 g2 p2 => by
    obtain ⟨G3, e1, e2, g3⟩ := g1.join g2
    exact hr x y G3 g3.up (mA x _ _ e1 p1) (mB y _ _ e2 p2) H2 g3.ok Q fun v G4 H4 g4 p4 => q v G4 H4 (g3.trans g4) p4
theorem ro_I0 {f : Int → Int → V} {i j : Int} (p : P (f i j) G) : RO (rI0 f) (.int i) (.int j) G P := fun H e _ q => ⟨i, j, rfl, rfl, q _ G H (.refl e) p⟩
theorem ro_I {C : Int → Int → Prop} {f : Int → Int → V} {i j : Int} (hc : C i j) (p : P (f i j) G) : RO (rI C f) (.int i) (.int j) G P := fun H e _ q => ⟨i, j, rfl, rfl, hc, q _ G H (.refl e) p⟩
/-- two ints -/
theorem ei_op0 {f : Int → Int → V} {p q : Int → Prop} (ha : EF ta σ G (IV p)) (hb : EF tb σ G (IV q)) (h : ∀ a b G', p a → q b → P (f a b) G') : EF (tOp (rI0 f) ta tb) σ G P :=
  ef_op mo_IV mo_IV ha hb fun x y G' _ hx hy => by
    obtain ⟨a, rfl, pa⟩ := hx
    obtain ⟨b, rfl, pb⟩ := hy
    exact ro_I0 (h a b G' pa pb)
theorem ei_opC {C : Int → Int → Prop} {f : Int → Int → V} {p q : Int → Prop} (ha : EF ta σ G (IV p)) (hb : EF tb σ G (IV q)) (hc : ∀ a b, p a → q b → C a b) (h : ∀ a b G', p a → q b → P (f a b) G') : EF (tOp (rI C f) ta tb) σ G P :=
  ef_op mo_IV mo_IV ha hb fun x y G' _ hx hy => by
    obtain ⟨a, rfl, pa⟩ := hx
    obtain ⟨b, rfl, pb⟩ := hy
    exact ro_I (hc a b pa pb) (h a b G' pa pb)
theorem ei_add {p q s : Int → Prop} (ha : EF ta σ G (IV p)) (hb : EF tb σ G (IV q)) (h : ∀ a b, p a → q b → s (a + b)) : EF (tOp (rI0 fun i j => .int (i + j)) ta tb) σ G (IV s) := ei_op0 ha hb fun a b _ pa pb => ⟨_, rfl, h a b pa pb⟩
/-! tests -/
theorem et_test {p : Bool → Prop} (h : EF te σ G (BV p)) : ET (tTest te) σ G p := fun H e _ q => h H e _ fun v G' H' g hv => by
  obtain ⟨b, rfl, pb⟩ := hv
  exact ⟨b, rfl, q b H' g.hp pb⟩
theorem et_B {p : Bool → Prop} (h : EF te σ G (BV p)) : ET (tB te) σ G p := fun H e _ q => h H e _ fun v G' H' g hv => by
  obtain ⟨b, rfl, pb⟩ := hv
  exact ⟨b, rfl, q b H' g.hp pb⟩
theorem et_not {p : Bool → Prop} (h : ET t σ G fun b => p (!b)) : ET (tNot t) σ G p := fun H e _ q => h H e _ fun b H' e' pb => q (!b) H' e' pb
theorem et_and {p q s : Bool → Prop} (h1 : ET t σ G p) (h2 : p true → ET u σ G q) (ht : p true → ∀ b, q b → s b) (hf : p false → s false) : ET (tAnd t u) σ G s := fun H e Q k => h1 H e _ fun b H1 e1 pb => by
  cases b with
  | true =>
    show u σ H1 Q
    exact h2 pb H1 (e.trans e1) Q fun b2 H2 e2 p2 => k b2 H2 (e1.trans e2) (ht pb b2 p2)
  | false => exact k false H1 e1 (hf pb)
theorem et_or {p q s : Bool → Prop} (h1 : ET t σ G p) (h2 : p false → ET u σ G q) (ht : p true → s true) (hf : p false → ∀ b, q b → s b) : ET (tOr t u) σ G s := fun H e Q k => h1 H e _ fun b H1 e1 pb => by
  cases b with
  | true => exact k true H1 e1 (ht pb)
  | false =>
    show u σ H1 Q
    exact h2 pb H1 (e.trans e1) Q fun b2 H2 e2 p2 => k b2 H2 (e1.trans e2) (hf pb b2 p2)
theorem ET.imp {p q : Bool → Prop} (h : ET t σ G p) (k : ∀ b, p b → q b) : ET t σ G q := fun H e Q c => h H e Q fun b H' e' pb => c b H' e' (k b pb)
theorem eb_not {p : Bool → Prop} (h : EF ta σ G (BV fun b => p (!b))) : EF (tNotV ta) σ G (BV p) := fun H e _ q => h H e _ fun v G' H' g hv => by
  obtain ⟨b, rfl, pb⟩ := hv
  exact ⟨b, rfl, q _ G' H' g ⟨!b, rfl, pb⟩⟩
theorem eb_and {p q s : Bool → Prop} (h1 : EF ta σ G (BV p)) (h2 : p true → EF tb σ G (BV q)) (ht : p true → ∀ b, q b → s b) (hf : p false → s false) : EF (tAndV ta tb) σ G (BV s) := fun H e Q k => h1 H e _ fun v G1 H1 g1 hv => by
  obtain ⟨b, rfl, pb⟩ := hv
  refine ⟨b, rfl, ?_⟩
  cases b with
  | true =>
    show tb σ H1 Q
    exact h2 pb H1 (g1.up.trans g1.ok) Q fun v2 G2 H2 g2 p2 => by
      obtain ⟨b2, rfl, pb2⟩ := p2
      exact k _ G2 H2 (⟨g2.up, g2.ok, g1.hp.trans g2.hp, fun a h g => g2.2.2.2 a (exNe g1.hp h) g⟩) ⟨b2, rfl, ht pb b2 pb2⟩
  | false =>
    show Q (.bl false) H1
    exact k _ G1 H1 g1 ⟨false, rfl, hf pb⟩
/-! arguments, displays, calls -/
theorem ea_nil : EA tNil σ G fun vs _ => vs = [] := fun H e _ q => q [] G H (.refl e) rfl
theorem ea_cons {tr : TA} {R S : List V → Hp → Prop} (mA : Mo Pa) (mR : ∀ vs G G', Ex G G' → R vs G → R vs G') (ha : EF ta σ G Pa) (hr : EA tr σ G R) (h : ∀ x xs G', Ex G G' → Pa x G' → R xs G' → S (x :: xs) G') : EA (tCons ta tr) σ G S := fun H e Q q =>
  ha H e _ fun x G1 H1 g1 p1 => hr H1 (g1.up.trans g1.ok) _ fun xs G2 H2 g2 p2 => by
    obtain ⟨G3, e1, e2, g3⟩ := g1.join g2
    exact q _ G3 H2 g3 (h x xs G3 g3.up (mA x _ _ e1 p1) (mR xs _ _ e2 p2))
theorem ea_one (ha : EF ta σ G P) : EA (tCons ta tNil) σ G fun vs G' => ∃ x, vs = [x] ∧ P x G' := fun H e Q q => ha H e _ fun x G1 H1 g1 p1 => q _ G1 H1 g1 ⟨x, rfl, p1⟩
theorem mo_two {Pa Pb : VP} (mA : Mo Pa) (mB : Mo Pb) : ∀ (vs : List V) (G G' : Hp), Ex G G' → (∃ x y, vs = [x, y] ∧ Pa x G ∧ Pb y G) → ∃ x y, vs = [x, y] ∧ Pa x G' ∧ Pb y G' := fun vs G G' e ⟨x, y, h, a, b⟩ => ⟨x, y, h, mA _ _ _ e a, mB _ _ _ e b⟩
theorem ea_two (mA : Mo Pa) (mB : Mo Pb) (ha : EF ta σ G Pa) (hb : EF tb σ G Pb) : EA (tCons ta (tCons tb tNil)) σ G fun vs G' => ∃ x y, vs = [x, y] ∧ Pa x G' ∧ Pb y G' :=
  ea_cons mA (fun vs G G' e ⟨y, h, b⟩ => ⟨y, h, mB _ _ _ e b⟩) ha (ea_one hb) fun x xs G' _ hx ⟨y, e, hy⟩ => ⟨x, y, by rw [e], hx, hy⟩
theorem ea_three {Pc : VP} {tc : TE} (mA : Mo Pa) (mB : Mo Pb) (mC : Mo Pc) (ha : EF ta σ G Pa) (hb : EF tb σ G Pb) (hc : EF tc σ G Pc) : EA (tCons ta (tCons tb (tCons tc tNil))) σ G fun vs G' => ∃ x y z, vs = [x, y, z] ∧ Pa x G' ∧ Pb y G' ∧ Pc z G' :=
  ea_cons mA (mo_two mB mC) ha (ea_two mB mC hb hc) fun x xs G' _ hx ⟨y, z, e, hy, hz⟩ => ⟨x, y, z, by rw [e], hx, hy, hz⟩
theorem ea_four {Pc Pd : VP} {tc td : TE} (mA : Mo Pa) (mB : Mo Pb) (mC : Mo Pc) (mD : Mo Pd) (ha : EF ta σ G Pa) (hb : EF tb σ G Pb) (hc : EF tc σ G Pc) (hd : EF td σ G Pd) :
    EA (tCons ta (tCons tb (tCons tc (tCons td tNil)))) σ G fun vs G' => ∃ x y z w, vs = [x, y, z, w] ∧ Pa x G' ∧ Pb y G' ∧ Pc z G' ∧ Pd w G' :=
  ea_cons mA (fun vs G G' e ⟨x, y, z, h, a, b, c⟩ => ⟨x, y, z, h, mB _ _ _ e a, mC _ _ _ e b, mD _ _ _ e c⟩) ha (ea_three mB mC mD hb hc hd) fun x xs G' _ hx ⟨y, z, w, e, hy, hz, hw⟩ => ⟨x, y, z, w, by rw [e], hx, hy, hz, hw⟩
/-- a new tuple, a new list -/
theorem ef_tup {ta : TA} {R : List V → Hp → Prop} (h : EA ta σ G R) (hl : ∀ vs G', R vs G' → vs.length ≤ 1000) (hP : ∀ p vs G', Ex G G' → G p = none → G' p = none → R vs G' → P (.ref p) (upd G' p (.tup vs))) : EF (tTup ta) σ G P := fun H e Q q =>
  h H e _ fun vs G1 H1 g1 p1 => ⟨Nat.le_trans (hl vs G1 p1) (by decide), fun p hp => q _ _ _ (g1.trans (.new g1.ok hp)) (hP p vs G1 g1.up (none_back (g1.up.trans g1.ok) hp) (none_back g1.ok hp) p1)⟩
theorem ef_lst {ta : TA} {R : List V → Hp → Prop} (h : EA ta σ G R) (hl : ∀ vs G', R vs G' → vs.length ≤ 1000) (hP : ∀ p vs G', Ex G G' → G p = none → G' p = none → R vs G' → P (.ref p) (upd G' p (.lst vs))) : EF (tLst ta) σ G P := fun H e Q q =>
  h H e _ fun vs G1 H1 g1 p1 => ⟨Nat.le_trans (hl vs G1 p1) (by decide), fun p hp => q _ _ _ (g1.trans (.new g1.ok hp)) (hP p vs G1 g1.up (none_back (g1.up.trans g1.ok) hp) (none_back g1.ok hp) p1)⟩
theorem ef_cb {r : List V → Hp → VK → Prop} {ta : TA} {R : List V → Hp → Prop} (h : EA ta σ G R) (hr : ∀ vs G', Ex G G' → R vs G' → RA r vs G' P) : EF (tCB r ta) σ G P := fun H e Q q =>
  h H e _ fun vs G1 H1 g1 p1 => hr vs G1 g1.up p1 H1 g1.ok Q fun v G2 H2 g2 p2 => q v G2 H2 (g1.trans g2) p2
theorem ef_call {sp : Sp} {dvs : List V} {E : XK} {ta : TA} {R : List V → Hp → Prop} (h : EA ta σ G R) (hr : ∀ vs G', Ex G G' → R vs G' → SA sp (vs ++ dvs) G' P) : EF (tCall sp dvs E ta) σ G P := fun H e Q q =>
  h H e _ fun vs G1 H1 g1 p1 => hr vs G1 g1.up p1 H1 g1.ok Q E fun v G2 H2 g2 p2 => q v G2 H2 (g1.trans g2) p2
/-- o.m(..), o known -/
theorem ef_meth {C : Addr} {m : Str} {sp : Sp} {dvs : List V} {E : XK} {ta : TA} {to : TE} {R : List V → Hp → Prop} {a : Addr} (ho : EF to σ G (XV (.ref a))) (hI : ∃ dx fs, G a = some (.ins C dx fs) ∧ fs.lookup m = none) (h : EA ta σ G R)
    (hr : ∀ vs G', Ex G G' → R vs G' → SA sp (.ref a :: (vs ++ dvs)) G' P) : EF (tMeth C m sp dvs E to ta) σ G P := fun H e Q q =>
  ho H e _ fun x G1 H1 g1 p1 => by
    obtain ⟨dx, fs, h1, h2⟩ := hI
    cases (show x = .ref a from p1)
    refine ⟨a, dx, fs, rfl, g1.hp _ _ (e _ _ h1), h2, h H1 (g1.up.trans g1.ok) _ fun vs G2 H2 g2 p2 => ?_⟩
    exact hr vs G2 g2.up p2 H2 g2.ok Q E fun v G3 H3 g3 p3 => q v G3 H3 (Gr.trans ⟨g2.up, g2.ok, g1.hp.trans g2.hp, fun a h g => g2.2.2.2 a (exNe g1.hp h) g⟩ g3) p3
/-- o.f -/
theorem ef_fld {C dx : Addr} {fs : List (Str × V)} {f : Str} {a : Addr} (ho : EF ta σ G (XV (.ref a))) (hI : G a = some (.ins C dx fs)) (hc : Cls K C) (hn : NoAttr K C f) (hl : fs.lookup f = some v) (hp : P v G) : EF (tFld K ta f) σ G P := fun H e Q q =>
  ho H e _ fun x G1 H1 g1 p1 => ⟨a, C, dx, fs, v, p1, g1.hp _ _ (e _ _ hI), hc, hn, hl, q v G H1 (.same e g1.hp) hp⟩
/-! data: items, membership, equality, len -/
theorem ixN_nat {n j : Nat} (hj : j < n) : ixN n (j : Int) = some j := Evl.ixN_nat hj
theorem atI_of {α : Type} {xs : List α} {j : Nat} {v : α} {i : Int} (e : i = (j : Int)) (h : xs[j]? = some v) : atI xs i = some v := by
  rw [e]
  unfold atI
  rw [Evl.ixN_nat (List.getElem?_eq_some_iff.mp h).1]
  exact h
theorem ed_ixL {ds : List PyData} {q : Int → Prop} (ha : EF ta σ G (DV K (.list ds))) (hb : EF tb σ G (IV q)) (h : ∀ i, q i → ∃ (j : Nat) (d : PyData), i = (j : Int) ∧ ds[j]? = some d ∧ ∀ v G', Dp K G' v d → P v G') : EF (tOp (rIxL K) ta tb) σ G P :=
  ef_op mo_DV mo_IV ha hb fun x y G' _ hx hy => by
    obtain ⟨i, rfl, qi⟩ := hy
    obtain ⟨a, xs, rfl, hs, hall⟩ := dp_lst hx
    obtain ⟨j, d, ej, hd, hP⟩ := h i qi
    obtain ⟨v, hv, dv⟩ := dpa_get' hall hd
    exact fun H e Q k => ⟨a, xs, i, v, rfl, rfl, Evl.ex_l e hs, atI_of ej hv, k v G' H (.refl e) (hP v G' dv)⟩
theorem ed_ixT {ds : List PyData} {q : Int → Prop} (ha : EF ta σ G (DV K (.tuple ds))) (hb : EF tb σ G (IV q)) (h : ∀ i, q i → ∃ (j : Nat) (d : PyData), i = (j : Int) ∧ ds[j]? = some d ∧ ∀ v G', Dp K G' v d → P v G') : EF (tOp (rIxT K) ta tb) σ G P :=
  ef_op mo_DV mo_IV ha hb fun x y G' _ hx hy => by
    obtain ⟨i, rfl, qi⟩ := hy
    obtain ⟨a, xs, rfl, hs, hall⟩ := dp_tup hx
    obtain ⟨j, d, ej, hd, hP⟩ := h i qi
    obtain ⟨v, hv, dv⟩ := dpa_get' hall hd
    exact fun H e Q k => ⟨a, xs, i, v, rfl, rfl, Evl.ex_t e hs, atI_of ej hv, k v G' H (.refl e) (hP v G' dv)⟩
theorem ed_inD {d : PyData} {ds : List PyData} (ha : EF ta σ G (DV K d)) (hb : EF tb σ G (DV K (.list ds))) (sd : SeqAt.shaped d = true) (sl : SeqAt.shaped (.list ds) = true) : EF (tOp (rInD K) ta tb) σ G (BV (· = ds.any fun z => PyData.eqv z d)) :=
  ef_op mo_DV mo_DV ha hb fun x y G' _ hx hy => fun H e Q k => ⟨d, ds, dpx hx e, dpx hy e, sd, sl, k _ G' H (.refl e) ⟨_, rfl, rfl⟩⟩
theorem ei_eq {p q : Int → Prop} {s : Bool → Prop} (ha : EF ta σ G (IV p)) (hb : EF tb σ G (IV q)) (h : ∀ a b, p a → q b → s (decide (a = b))) : EF (tOp rEq ta tb) σ G (BV s) :=
  ef_op mo_IV mo_IV ha hb fun x y G' _ hx hy => by
    obtain ⟨a, rfl, pa⟩ := hx
    obtain ⟨b, rfl, pb⟩ := hy
    refine fun H e Q k => ⟨rfl, k _ G' H (.refl e) ⟨_, rfl, ?_⟩⟩
    have e2 : decide (V.int a = V.int b) = decide (a = b) := by
      by_cases c : a = b
      · rw [c]; simp
      · rw [decide_eq_false c, decide_eq_false fun z => c (V.int.inj z)]
    rw [e2]
    exact h a b pa pb
theorem ei_ne {p q : Int → Prop} {s : Bool → Prop} (ha : EF ta σ G (IV p)) (hb : EF tb σ G (IV q)) (h : ∀ a b, p a → q b → s (!decide (a = b))) : EF (tOp rNe ta tb) σ G (BV s) :=
  ef_op mo_IV mo_IV ha hb fun x y G' _ hx hy => by
    obtain ⟨a, rfl, pa⟩ := hx
    obtain ⟨b, rfl, pb⟩ := hy
    refine fun H e Q k => ⟨rfl, k _ G' H (.refl e) ⟨_, rfl, ?_⟩⟩
    have e2 : decide (V.int a = V.int b) = decide (a = b) := by
      by_cases c : a = b
      · rw [c]; simp
      · rw [decide_eq_false c, decide_eq_false fun z => c (V.int.inj z)]
    rw [e2]
    exact h a b pa pb
theorem ed_lenL {ds : List PyData} (ha : EF ta σ G (DV K (.list ds))) : EF (tCB (Evl.rLenS K) (tCons ta tNil)) σ G (IV (· = (ds.length : Int))) := fun H e Q q => ha H e _ fun x G1 H1 g1 hx => by
  obtain ⟨a, xs, rfl, hs, hall⟩ := dp_lst hx
  refine ⟨a, xs, rfl, .inl (Evl.ex_l g1.ok hs), q _ G1 H1 g1 ⟨_, rfl, ?_⟩⟩
  rw [dpa_len hall]
theorem ed_list {ds : List PyData} (ha : EF ta σ G (DV K (.list ds))) : EF (tCB (Evl.rListS K) (tCons ta tNil)) σ G (fun v G' => ∃ p xs, v = .ref p ∧ G p = none ∧ G' p = some (.lst xs) ∧ DpAll K G' xs ds) := fun H e Q q => ha H e _ fun x G1 H1 g1 hx => by
  obtain ⟨a, xs, rfl, hs, hall⟩ := dp_lst hx
  refine ⟨a, xs, rfl, .inl (Evl.ex_l g1.ok hs), fun l hl => ?_⟩
  exact q _ _ _ (g1.trans (.new g1.ok hl)) ⟨l, xs, rfl, none_back (g1.up.trans g1.ok) hl, upd_same, dpax hall (ex_in (none_back g1.ok hl))⟩
end
end Lw
set_option Elab.async false
set_option linter.all false
set_option maxRecDepth 100000
set_option maxHeartbeats 4000000
/-! sorted of triples (int, text, int) whose first ints differ -/
namespace Lw
open PySem L2
open Evl (Ex)
open PyProof.Rows
section
variable {prog : Program} {w : World} {A : Around} {E : Value → Shared → Prop} {s : Shared}
def IsTr (h : Heap) (v : Value) (x : Int) : Prop := ∃ a o t y u z n m, v = .ref a ∧ h.get? a = some o ∧ o.cls = .type "tuple" ∧ o.data = .seq #[.int x t, .str y u, .int z n] m
theorem IsTr.keeps {h h' : Heap} {v : Value} {x : Int} (p : IsTr h v x) (k : ∀ b o, h.get? b = some o → o.cls = .type "tuple" → h'.get? b = some o) : IsTr h' v x := by
  obtain ⟨a, o, t, y, u, z, n, m, e, ho, hc, hd⟩ := p
  exact ⟨a, o, t, y, u, z, n, m, e, k a o ho hc, hc, hd⟩
end
end Lw
set_option Elab.async false
set_option linter.all false
set_option maxRecDepth 100000
set_option maxHeartbeats 4000000
/-! statements, loops, comprehensions -/
namespace Lw
open PySem L2
open Evl (Ex)
section
variable {K : PySem.W.Frag} {σ : L2.St} {G G' H H' : Hp} {ta tb te tx : TE} {t u : TT} {x y z v : V} {r : R2} {P Pa Pb : VP} {D : Ends} {tu tw : TS} {g : TG}
theorem st_asg {i : Nat} (hG : Ex G H) (h : EF te σ G P) (k : ∀ v G' H', Gr G G' H H' → P v G' → D.nx (σ.set i (some v)) H') : tAsg te (gName i) D σ H := h H hG _ k
theorem st_ret (hG : Ex G H) (h : EF te σ G P) (k : ∀ v G' H', Gr G G' H H' → P v G' → D.rt v H') : tRet te D σ H := h H hG _ k
theorem st_drop (hG : Ex G H) (h : EF te σ G P) (k : ∀ v G' H', Gr G G' H H' → P v G' → D.nx σ H') : tDrop te D σ H := h H hG _ k
theorem st_if {p : Bool → Prop} (hG : Ex G H) (h : ET t σ G p) (h1 : p true → ∀ H', Ex H H' → tu D σ H') (h2 : p false → ∀ H', Ex H H' → tw D σ H') : tIfS t tu tw D σ H := h H hG _ fun b H' e pb => by
  cases b with
  | true =>
    show tu D σ H'
    exact h1 pb H' e
  | false =>
    show tw D σ H'
    exact h2 pb H' e
/-- an if that is never gone -/
theorem st_if0 (hG : Ex G H) (h : ET t σ G (· = false)) (h2 : ∀ H', Ex H H' → tw D σ H') : tIfS t tu tw D σ H := st_if hG h (fun z => nomatch z) fun _ => h2
/-- l.append(e): l a list that H alone tells -/
theorem st_app {l : Addr} {xs : List V} (hG : Ex G H) (hl : H l = some (.lst xs)) (ho : EF ta σ G (XV (.ref l))) (h : EF te σ G P) (hz : xs.length < 1000) (k : ∀ v G' H', Gr G G' H H' → P v G' → D.nx σ (upd H' l (.lst (xs ++ [v])))) :
    tDrop (tBM K "list" rAppend ta (tCons te tNil)) D σ H := ho H hG _ fun v1 G1 H1 g1 p1 => by
  cases (show v1 = .ref l from p1)
  refine ⟨.inl ⟨rfl, xs, Evl.sq_of (g1.hp _ _ hl)⟩, h H1 (hG.trans g1.hp) _ fun v2 G2 H2 g2 p2 => ?_⟩
  refine ⟨l, xs, v2, rfl, rfl, g2.hp _ _ (g1.hp _ _ hl), Nat.lt_of_lt_of_le hz (by decide), ?_⟩
  exact k v2 G2 H2 ⟨g2.up, g2.ok, g1.hp.trans g2.hp, fun a h g => g2.2.2.2 a (exNe g1.hp h) g⟩ p2
theorem st_forR1 {j : Nat} {n : Int} {ta : TA} (hG : Ex G H) (h : EA ta σ G fun vs _ => vs = [.int n]) (hn : n ≤ 100000) (hn0 : -100000 ≤ n) (W : Nat → L2.St → Hp → Prop) (h0 : ∀ H', Ex H H' → W 0 σ H')
    (hs : ∀ (i : Nat) σ' H', (i : Int) < n → W i σ' H' → tu { D with nx := W (i + 1), ct := W (i + 1), bk := D.nx } (σ'.set j (some (.int (i : Int)))) H') (hd : ∀ σ' H', W n.toNat σ' H' → D.nx σ' H') : tFor (iRng1 ta) (gName j) tu D σ H :=
  h H hG _ fun vs G1 H1 g1 e => ⟨n, e, by omega, by omega, for_range (lo := 0) (n := n.toNat) W (h0 H1 g1.hp) (fun i σ' H' hi p => by
    have e0 : (0 : Int) + (i : Int) = (i : Int) := Int.zero_add _
    show tu { D with nx := W (i + 1), ct := W (i + 1), bk := D.nx } (σ'.set j (some (.int ((0 : Int) + (i : Int))))) H'
    rw [e0]
    exact hs i σ' H' (by omega) p) hd⟩
theorem st_forR2 {j : Nat} {lo n : Int} {ta : TA} (hG : Ex G H) (h : EA ta σ G fun vs _ => vs = [.int lo, .int n]) (hn : 0 ≤ lo ∧ lo ≤ 100000 ∧ -100000 ≤ n ∧ n ≤ 100000) (W : Nat → L2.St → Hp → Prop) (h0 : ∀ H', Ex H H' → W 0 σ H')
    (hs : ∀ (i : Nat) σ' H', lo + (i : Int) < n → W i σ' H' → tu { D with nx := W (i + 1), ct := W (i + 1), bk := D.nx } (σ'.set j (some (.int (lo + (i : Int))))) H') (hd : ∀ σ' H', W (n - lo).toNat σ' H' → D.nx σ' H') : tFor (iRng2 ta) (gName j) tu D σ H :=
  h H hG _ fun vs G1 H1 g1 e => ⟨lo, n, e, ⟨by omega, by omega, by omega, by omega⟩, for_range (lo := lo) (n := (n - lo).toNat) W (h0 H1 g1.hp) (fun i σ' H' hi p => hs i σ' H' (by omega) p) hd⟩
/-! ### comprehensions -/
/-- one turn: none, or a value -/
def EC (t : TT) (te : TE) (σ : L2.St) (G : Hp) (N : Hp → Prop) (Y : VP) : Prop := ∀ H, Ex G H → ∀ R : Option V → Hp → Prop, (∀ H', Ex H H' → N G → R none H') → (∀ y G' H', Gr G G' H H' → Y y G' → R (some y) H') →
  t σ H fun b H3 => if b = true then te σ H3 fun y H4 => R (some y) H4 else R none H3
theorem ec_all {N : Hp → Prop} {Y : VP} (h : EF te σ G Y) : EC tYes te σ G N Y := fun H e R _ k => by
  show if true = true then te σ H fun y H4 => R (some y) H4 else R none H
  rw [if_pos rfl]
  exact h H e _ k
theorem ec_if {p : Bool → Prop} {N : Hp → Prop} {Y : VP} (ht : ET t σ G p) (h : p true → EF te σ G Y) (hn : p false → N G) : EC t te σ G N Y := fun H e R k0 k => ht H e _ fun b H1 e1 pb => by
  cases b with
  | true =>
    rw [if_pos rfl]
    exact h pb H1 (e.trans e1) _ fun y G2 H2 g2 p2 => k y G2 H2 ⟨g2.up, g2.ok, e1.trans g2.hp, fun a h g => g2.2.2.2 a (exNe e1 h) g⟩ p2
  | false =>
    rw [if_neg Bool.false_ne_true]
    exact k0 H1 e1 (hn pb)
/-- the state between two turns: D the list that is made -/
def CW (G H1 : Hp) (D : Addr) (I : Nat → List V → Hp → Prop) (i : Nat) (H' : Hp) : Prop := ∃ G' xs, Ex G G' ∧ Ex G' H' ∧ G' D = none ∧ H' D = some (.lst xs) ∧ xs.length ≤ i ∧ I i xs G' ∧ Ex H1 H' ∧ ∀ a, H1 a ≠ none → G a = none → G' a = none
theorem cw_start {G H1 : Hp} {D : Addr} {I : Nat → List V → Hp → Prop} (e : Ex G H1) (hD : H1 D = none) (h0 : I 0 [] G) : CW G H1 D I 0 (upd H1 D (.lst [])) :=
  ⟨G, [], Ex.refl G, ex_off e (none_back e hD), none_back e hD, upd_same, Nat.le_refl _, h0, Ex.new hD, fun _ _ h => h⟩
theorem cw_turn {G H1 : Hp} {D : Addr} {I : Nat → List V → Hp → Prop} {i : Nat} {H' : Hp} {t : TT} {te : TE} {σ2 : L2.St} (hD : H1 D = none) (p : CW G H1 D I i H') (hi : i < 50000)
    (h : ∀ xs G', Ex G G' → I i xs G' → EC t te σ2 G' (fun G' => I (i + 1) xs G') fun y G' => I (i + 1) (xs ++ [y]) G') :
    t σ2 H' fun b H3 => if b = true then te σ2 H3 fun y H4 => ∃ acc, H4 D = some (.lst acc) ∧ acc.length < sizeLine ∧ CW G H1 D I (i + 1) (upd H4 D (.lst (acc ++ [y]))) else CW G H1 D I (i + 1) H3 := by
  obtain ⟨G', xs, e1, e2, gD, hd, hl, hI, e3, hc⟩ := p
  refine h xs G' e1 hI H' e2 (fun o H4 => match o with | some y => ∃ acc, H4 D = some (.lst acc) ∧ acc.length < sizeLine ∧ CW G H1 D I (i + 1) (upd H4 D (.lst (acc ++ [y]))) | none => CW G H1 D I (i + 1) H4) (fun H4 e4 hN => ?_) (fun y G2 H4 g4 hy => ?_)
  · exact ⟨G', xs, e1, e2.trans e4, gD, e4 _ _ hd, Nat.le_succ_of_le hl, hN, e3.trans e4, hc⟩
  · have g2D : G2 D = none := g4.2.2.2 D (ne_none_of hd) gD
    refine ⟨xs, g4.hp _ _ hd, Nat.lt_of_le_of_lt hl (Nat.lt_of_lt_of_le hi (by decide)), G2, xs ++ [y], e1.trans g4.up, ex_off g4.ok g2D, g2D, upd_same, by rw [List.length_append, List.length_singleton]; omega, hy, ?_, fun a h g => g4.2.2.2 a (exNe e3 h) (hc a h g)⟩
    exact ex_off (e3.trans g4.hp) hD
theorem cw_end {G H1 : Hp} {D : Addr} {I : Nat → List V → Hp → Prop} {i : Nat} {H' : Hp} {P : VP} {Q : VK} (hD : H1 D = none) (e : Ex G H1) (p : CW G H1 D I i H') (hP : ∀ p xs G', G p = none → G' p = none → Ex G G' → xs.length ≤ i → I i xs G' → P (.ref p) (upd G' p (.lst xs)))
    (q : ∀ v G' H', Gr G G' H1 H' → P v G' → Q v H') : Q (.ref D) H' := by
  obtain ⟨G', xs, e1, e2, gD, hd, hl, hI, e3, hc⟩ := p
  refine q _ (upd G' D (.lst xs)) H' ⟨e1.trans (ex_in gD), ex_know e2 hd, e3, fun a h g => ?_⟩ (hP D xs G' (none_back e hD) gD e1 hl hI)
  rw [upd_ne (fun z => h (by rw [z]; exact hD))]
  exact hc a h g
theorem ef_lcR1 {ta : TA} {j : Nat} {vs : List Nat} {n : Int} (I : Nat → List V → Hp → Prop) (h : EA ta σ G fun us _ => us = [.int n]) (hn : 0 ≤ n ∧ n ≤ 40000) (hw : ∀ x, wipe ((wipe σ vs).set j (some x)) vs = wipe σ vs) (h0 : ∀ G', Ex G G' → I 0 [] G')
    (hs : ∀ (i : Nat) xs G', Ex G G' → (i : Int) < n → I i xs G' → EC t te ((wipe σ vs).set j (some (.int (i : Int)))) G' (fun G' => I (i + 1) xs G') fun y G' => I (i + 1) (xs ++ [y]) G')
    (hP : ∀ p xs G', G p = none → G' p = none → Ex G G' → xs.length ≤ n.toNat → I n.toNat xs G' → P (.ref p) (upd G' p (.lst xs))) : EF (tLc (iRng1 ta) (gName j) t te vs) σ G P := fun H0 e Q q => h H0 e _ fun us G1 H1 g1 ev => ⟨n, ev, by omega, by omega, fun Dl hD =>
  lc_range (lo := 0) (n := n.toNat) (CW G1 H1 Dl I) (cw_start g1.ok hD (h0 G1 g1.up)) (fun i H' hi p => by
    have e0 : (0 : Int) + (i : Int) = (i : Int) := Int.zero_add _
    show wipe ((wipe σ vs).set j (some (.int ((0 : Int) + (i : Int))))) vs = wipe σ vs ∧ t ((wipe σ vs).set j (some (.int ((0 : Int) + (i : Int))))) H' fun b H3 => if b = true then te ((wipe σ vs).set j (some (.int ((0 : Int) + (i : Int))))) H3 fun y H4 => ∃ acc, H4 Dl = some (.lst acc) ∧ acc.length < sizeLine ∧ CW G1 H1 Dl I (i + 1) (upd H4 Dl (.lst (acc ++ [y]))) else CW G1 H1 Dl I (i + 1) H3
    rw [e0]
    exact ⟨hw _, cw_turn hD p (by omega) fun xs G' e' hI => hs i xs G' (g1.up.trans e') (by omega) hI⟩) (fun H' p => cw_end (P := P) hD g1.ok p (fun p xs G' g g' e' hl hI => hP p xs G' (none_back g1.up g) g' (g1.up.trans e') hl hI) fun v G' H' g' p' => q v G' H' (g1.trans g') p')⟩
theorem ef_lcL {xs : List V} {tl : TE} {j : Nat} {vs : List Nat} (I : Nat → List V → Hp → Prop) (h : EF tl σ G fun v G' => ∃ a, v = .ref a ∧ SqL K G' a xs) (hz : xs.length ≤ 40000) (hw : ∀ x, wipe ((wipe σ vs).set j (some x)) vs = wipe σ vs) (h0 : ∀ G', Ex G G' → I 0 [] G')
    (hs : ∀ (i : Nat) x acc G', Ex G G' → xs[i]? = some x → I i acc G' → EC t te ((wipe σ vs).set j (some x)) G' (fun G' => I (i + 1) acc G') fun y G' => I (i + 1) (acc ++ [y]) G')
    (hP : ∀ p acc G', G p = none → G' p = none → Ex G G' → acc.length ≤ xs.length → I xs.length acc G' → P (.ref p) (upd G' p (.lst acc))) : EF (tLc (iList K tl) (gName j) t te vs) σ G P := fun H0 e Q q => h H0 e _ fun v G1 H1 g1 ⟨a, ev, hx⟩ => ⟨a, ev, ⟨xs, Evl.ex_l g1.ok hx⟩, fun Dl hD =>
  lc_list (xs := xs) (CW G1 H1 Dl I) (cw_start g1.ok hD (h0 G1 g1.up)) (fun i H' _ p => by
    obtain ⟨G', _, e1, e2, _⟩ := p
    exact Evl.ex_l (e1.trans e2) hx) (fun i x H' hi p => ⟨hw x, cw_turn hD p (by have := (List.getElem?_eq_some_iff.mp hi).1; omega) fun acc G' e' hI => hs i x acc G' (g1.up.trans e') hi hI⟩)
    (fun H' p => cw_end (P := P) hD g1.ok p (fun p xs G' g g' e' hl hI => hP p xs G' (none_back g1.up g) g' (g1.up.trans e') hl hI) fun v G' H' g' p' => q v G' H' (g1.trans g') p')⟩
theorem tyes_go {σ : L2.St} {H : Hp} {Q : Bool → Hp → Prop} (h : Q true H) : tYes σ H Q := h
/-- the same without its turns -/
def CX2 (G H1 : Hp) (D : Addr) (J : List V → Hp → Prop) (H' : Hp) : Prop := ∃ G' xs, Ex G G' ∧ Ex G' H' ∧ G' D = none ∧ H' D = some (.lst xs) ∧ J xs G' ∧ Ex H1 H' ∧ ∀ a, H1 a ≠ none → G a = none → G' a = none
/-- two for's: a range, and a list that the turn knows; no tests -/
theorem ef_lc2 {ta : TA} {tl : TE} {j j1 : Nat} {vs vs1 : List Nat} {n : Int} (ys : Nat → List V) (I : Nat → Nat → List V → Hp → Prop) (h : EA ta σ G fun us _ => us = [.int n]) (hn : 0 ≤ n ∧ n ≤ 1000) (hy : ∀ i, (ys i).length ≤ 1000)
    (hw : ∀ x, wipe ((wipe σ vs).set j (some x)) vs = wipe σ vs) (hw1 : ∀ x y, wipe ((wipe ((wipe σ vs).set j (some x)) vs1).set j1 (some y)) vs1 = wipe ((wipe σ vs).set j (some x)) vs1) (h0 : ∀ G', Ex G G' → I 0 0 [] G')
    (hx : ∀ (i : Nat) xs G', (i : Int) < n → I i (ys i).length xs G' → I (i + 1) 0 xs G')
    (hl : ∀ (i : Nat) G', Ex G G' → (i : Int) < n → EF tl ((wipe σ vs).set j (some (.int (i : Int)))) G' fun v G'' => ∃ a, v = .ref a ∧ SqL K G'' a (ys i))
    (hm : ∀ i k xs G' G'', Ex G' G'' → I i k xs G' → I i k xs G'')
    (hs : ∀ (i k : Nat) y xs G', Ex G G' → (i : Int) < n → (ys i)[k]? = some y → I i k xs G' → EF te ((wipe ((wipe σ vs).set j (some (.int (i : Int)))) vs1).set j1 (some y)) G' fun y G' => I i (k + 1) (xs ++ [y]) G')
    (hc : ∀ i k xs G', I i k xs G' → xs.length ≤ 1000000)
    (hP : ∀ p xs G', G p = none → G' p = none → Ex G G' → I n.toNat 0 xs G' → P (.ref p) (upd G' p (.lst xs))) : EF (tLc2 (iRng1 ta) (gName j) tYes (iList K tl) (gName j1) tYes te vs vs1) σ G P := fun H0 e Q q => h H0 e _ fun us G1 H1 g1 ev => by
  refine ⟨n, ev, by omega, by omega, fun Dl hD => ?_⟩
  refine ⟨fun i m H' => m = n.toNat - i ∧ i ≤ n.toNat ∧ CX2 G1 H1 Dl (I i 0) H', ⟨n.toNat, by simp, Nat.zero_le _, ?_⟩, ?_⟩
  · exact ⟨G1, [], Ex.refl _, ex_off g1.ok (none_back g1.ok hD), none_back g1.ok hD, upd_same, h0 G1 g1.up, Ex.new hD, fun _ _ h => h⟩
  · rintro i m H' ⟨rfl, hi, p⟩
    by_cases hlt : i < n.toNat
    · refine .inr ⟨hlt, fun H'' => CX2 G1 H1 Dl (I (i + 1) 0) H'', fun H'' p' => ⟨n.toNat - (i + 1), by omega, rfl, hlt, p'⟩, fun x H'' yy => ?_⟩
      obtain ⟨ey, yy⟩ := yy
      subst ey yy
      have e0 : (0 : Int) + (i : Int) = (i : Int) := Int.zero_add _
      rw [e0]
      refine ⟨hw _, ?_⟩
      refine tyes_go (iteT ?_)
      obtain ⟨G', xs, e1, e2, gD, hd, hI, e3, hcc⟩ := p
      refine hl i G' (g1.up.trans e1) (by omega) _ e2 _ fun v G2 H2 g2 ⟨a, ea, hsl⟩ => ?_
      refine ⟨a, ea, ⟨ys i, Evl.ex_l g2.ok hsl⟩, ?_⟩
      refine ⟨fun k m H' => m = (ys i).length - k ∧ k ≤ (ys i).length ∧ CX2 G1 H1 Dl (fun xs G3 => Ex G2 G3 ∧ I i k xs G3) H', ⟨(ys i).length, by simp, Nat.zero_le _, ?_⟩, ?_⟩
      · exact ⟨G2, xs, e1.trans g2.up, g2.ok, g2.2.2.2 Dl (ne_none_of hd) gD, g2.hp _ _ hd, ⟨Ex.refl _, hm _ _ _ _ _ g2.up hI⟩, e3.trans g2.hp, fun b hb gb => g2.2.2.2 b (exNe e3 hb) (hcc b hb gb)⟩
      · rintro k m H3 ⟨rfl, hk, p3⟩
        obtain ⟨G4, xs4, f1, f2, fD, fd, ⟨fe, fI⟩, f3, fc⟩ := p3
        have hsl3 := Evl.ex_l (fe.trans f2) hsl
        by_cases hkl : k < (ys i).length
        · refine .inr ⟨⟨ys i, (ys i)[k], hsl3, by simp [hkl]⟩, fun H'' => CX2 G1 H1 Dl (fun xs G3 => Ex G2 G3 ∧ I i (k + 1) xs G3) H'', fun H'' p' => ⟨(ys i).length - (k + 1), by omega, rfl, hkl, p'⟩, fun y H'' yy => ?_⟩
          obtain ⟨ey, yy⟩ := yy
          subst ey
          have hyk := yy (ys i) hsl3
          refine ⟨hw1 _ _, ?_⟩
          refine tyes_go (iteT ?_)
          refine hs i k y xs4 G4 (g1.up.trans f1) (by omega) hyk fI _ f2 _ fun v5 G5 H5 g5 p5 => ?_
          have g5D : G5 Dl = none := g5.2.2.2 Dl (ne_none_of fd) fD
          exact ⟨xs4, g5.hp _ _ fd, Nat.lt_of_le_of_lt (hc _ _ _ _ fI) (by decide), ⟨G5, xs4 ++ [v5], f1.trans g5.up, ex_off g5.ok g5D, g5D, upd_same, ⟨fe.trans g5.up, p5⟩, ex_off (f3.trans g5.hp) hD, fun b hb gb => g5.2.2.2 b (exNe f3 hb) (fc b hb gb)⟩⟩
        · have ek : k = (ys i).length := by omega
          subst ek
          exact .inl ⟨⟨ys i, hsl3, Nat.le_refl _⟩, G4, xs4, f1, f2, fD, fd, hx _ _ _ (by omega) fI, f3, fc⟩
    · have ei : i = n.toNat := by omega
      subst ei
      refine .inl ⟨Nat.le_refl _, ?_⟩
      obtain ⟨G', xs, e1, e2, gD, hd, hI, e3, hcc⟩ := p
      refine q _ (upd G' Dl (.lst xs)) H' (g1.trans ⟨e1.trans (ex_in gD), ex_know e2 hd, e3, fun a h g => ?_⟩) (hP Dl xs G' (none_back (g1.up.trans g1.ok) hD) gD (g1.up.trans e1) hI)
      rw [upd_ne (fun z => h (by rw [z]; exact hD))]
      exact hcc a h g
end
end Lw
set_option Elab.async false
set_option linter.all false
set_option maxRecDepth 100000
set_option maxHeartbeats 4000000
/-! x in o by an own __contains__; is None, is True of anything; own field stores -/
namespace Lw
open PySem L2
open Evl (Ex)
section
variable {X : Cx} {CX : CXT} {k : Nat} {f C : Addr} {fd : FuncData} {ps : List Str} {sp : Sp} {E : XK}
def rInOwn (neg : Bool) (C : Addr) (sp : Sp) (E : XK) : R2 := fun x y H Q => ∃ a dx fs, y = .ref a ∧ H a = some (.ins C dx fs) ∧ sp [.ref a, x] H (fun v H2 => ∃ b, v = .bl b ∧ Q (.bl (if neg then !b else b)) H2) E
theorem contains_own {pins : List (Addr × Obj)} {σ : L2.St} {H : Hp} {s : Shared} {a : Addr} {dx : Addr} {fs : List (Str × V)} {x : V} {v : Value} {Q' : Bool → Hp → Prop} (hm : Meth X.K C "__contains__" f) (F : FnOk X.prog X.w X.K X.mg X.base CX k f fd ps sp) (hr : Room k X.A) (hb : Binds X.K fd ps []) (hx : Passes CX X E)
    (I : Inv X pins σ H s) (rx : RelV x v) (ea : H a = some (.ins C dx fs)) (h : sp [.ref a, x] H (fun v H2 => ∃ b, v = .bl b ∧ Q' b H2) E) :
    wpAny (model X.prog X.w) X.A (contains (.ref a) v) (fun b s' => ∃ H', Inv X pins σ H' s' ∧ Q' b H') X.xe s := by
  obtain ⟨mA, O, _⟩ := ins_get I.hok ea
  obtain ⟨od, J, _⟩ := O.look
  unfold contains
  refine wpAny_holding (wpAny_bind (wpAny_bind (J.type.here ((PySem.W.looks_findIn I.kIn hm.at_).here ?_))))
  rw [if_neg (by simp)]
  refine wpAny_bind (PySem.W.unlessNone_K I.kIn J hm.at_ hm.fn ?_)
  refine wpAny_mono (run_fn (us := [.ref a, v]) (vs := [.ref a, x]) (ds := []) (dvs := []) F hr hb .nil hx I (.cons rfl (.cons rx .nil)) h) (fun r s' hq => ?_) fun _ _ z => z
  obtain ⟨y, H', I', ry, b, rfl, q⟩ := hq
  cases (show r = Value.bool b from ry)
  exact wpAny_pure ⟨H', I', q⟩
theorem op_notInOwn (hm : Meth X.K C "__contains__" f) (F : FnOk X.prog X.w X.K X.mg X.base CX k f fd ps sp) (hr : Room k X.A) (hb : Binds X.K fd ps []) (hx : Passes CX X E) : OpR X (compareOp .NotIn) (rInOwn true C sp E) := by
  intro pins s σ H x y v u Q I rx ry h
  obtain ⟨a, dx, fs, rfl, ea, h⟩ := h
  cases (show u = Value.ref a from ry)
  refine wpAny_bind (wpAny_mono (contains_own (Q' := fun b H2 => Q (.bl (!b)) H2) hm F hr hb hx I rx ea h) (fun b s' hq => ?_) fun _ _ z => z)
  obtain ⟨H', I', q⟩ := hq
  exact wpAny_pure ⟨.bl (!b), H', I', rfl, q⟩
/-- x is True, False: x anything but an object of which one may not know -/
def rIsC (c : Bool) : R2 := fun x y H Q => y = .bl c ∧ Q (.bl (decide (x = .bl c))) H
theorem op_isC {c : Bool} : OpR X (compareOp .Is) (rIsC c) := by
  intro pins s σ H x y v u Q I rx ry h
  obtain ⟨rfl, q⟩ := h
  cases (show u = Value.bool c from ry)
  have no : (∀ b, x ≠ .bl b) → plainIs v (.bool c) = true → v ≠ .bool c → wpAny (model X.prog X.w) X.A (compareOp .Is v (.bool c)) (EP X pins σ Q) X.xe s := fun hx hp hn =>
    wpAny_is_other hp hn ⟨.bl false, H, I, rfl, by rw [decide_eq_false (hx c)] at q; exact q⟩
  cases x with
  | bl b =>
    cases (show v = Value.bool b from rx)
    by_cases e : b = c
    · subst e
      exact wpAny_is_self rfl ⟨.bl true, H, I, rfl, by simpa using q⟩
    · exact wpAny_is_other rfl (fun z => e (Value.bool.inj z)) ⟨.bl false, H, I, rfl, by simpa [e] using q⟩
  | non => cases rx; exact no (fun _ z => nomatch z) rfl (fun z => nomatch z)
  | int i => obtain ⟨t, rfl⟩ := rx; exact no (fun _ z => nomatch z) rfl (fun z => nomatch z)
  | str i => obtain ⟨t, rfl⟩ := rx; exact no (fun _ z => nomatch z) rfl (fun z => nomatch z)
  | byt i => obtain ⟨t, rfl⟩ := rx; exact no (fun _ z => nomatch z) rfl (fun z => nomatch z)
  | flt i => obtain ⟨t, rfl⟩ := rx; exact no (fun _ z => nomatch z) rfl (fun z => nomatch z)
  | ref i => cases rx; exact no (fun _ z => nomatch z) rfl (fun z => nomatch z)
  | ty i => cases rx; exact no (fun _ z => nomatch z) rfl (fun z => nomatch z)
end
end Lw
set_option Elab.async false
set_option linter.all false
set_option maxRecDepth 100000
set_option maxHeartbeats 4000000
/-! the mathematics: tracks, joints, demands as data -/
namespace Lw
open PySem L2
open Evl (Ex)
/-! ### data -/
abbrev dI (l : List Int) : PyData := .list (l.map PyData.int)
def dP (p : Int × Int) : PyData := .tuple [.int p.1, .int p.2]
abbrev dPs (l : List (Int × Int)) : PyData := .list (l.map dP)
def dTr (a : Int) (s : Str) (b : Int) : PyData := .tuple [.int a, .str s, .int b]
theorem eqv_int (a b : Int) : PyData.eqv (.int a) (.int b) = decide (a = b) := by
  simp only [PyData.eqv]
  by_cases h : a = b
  · simp [h]
  · simp [h]
theorem any_int (l : List Int) (b : Int) : ((l.map PyData.int).any fun z => PyData.eqv z (.int b)) = decide (b ∈ l) := by
  induction l with
  | nil => rfl
  | cons a l ih =>
    rw [List.map_cons, List.any_cons, ih, eqv_int]
    by_cases h : b = a
    · simp [h]
    · have : ¬ a = b := fun z => h z.symm
      simp [h, this]
theorem shaped_of {d : PyData} (h1 : d.canLay0 = true) (h2 : d.depth ≤ 64) : SeqAt.shaped d = true := by
  show (d.canLay0 && decide (d.depth ≤ 64)) = true
  rw [h1, decide_eq_true h2]
  rfl
theorem sh_int (a : Int) : SeqAt.shaped (.int a) = true := shaped_of (by simp [PyData.canLay0]) (by simp [PyData.depth])
theorem lay_ints : ∀ l : List Int, PyData.canLayAll0 (l.map PyData.int) = true
  | [] => by simp [PyData.canLayAll0]
  | z :: zs => by simp [PyData.canLayAll0, PyData.canLay0, lay_ints zs]
theorem dep_ints : ∀ l : List Int, PyData.depthAll (l.map PyData.int) ≤ 1
  | [] => by simp [PyData.depthAll]
  | z :: zs => by
    have h := dep_ints zs
    simp only [List.map_cons, PyData.depthAll, PyData.depth]
    omega
theorem sh_ints (l : List Int) : SeqAt.shaped (dI l) = true := shaped_of (by simp only [dI, PyData.canLay0]; exact lay_ints l) (by have := dep_ints l; simp only [dI, PyData.depth]; omega)
/-! ### joints -/
def eo (js : List (Int × Int)) (b : Int) : List Int := (js.filter fun p => decide (p.1 = b)).map (·.2)
def wo (js : List (Int × Int)) (b : Int) : List Int := (js.filter fun p => decide (p.2 = b)).map (·.1)
theorem eo_snoc_same (js : List (Int × Int)) (w e : Int) : eo (js ++ [(w, e)]) w = eo js w ++ [e] := by simp [eo, List.filter_append]
theorem eo_snoc_ne (js : List (Int × Int)) {w e b : Int} (h : w ≠ b) : eo (js ++ [(w, e)]) b = eo js b := by simp [eo, List.filter_append, h]
theorem wo_snoc_same (js : List (Int × Int)) (w e : Int) : wo (js ++ [(w, e)]) e = wo js e ++ [w] := by simp [wo, List.filter_append]
theorem wo_snoc_ne (js : List (Int × Int)) {w e b : Int} (h : e ≠ b) : wo (js ++ [(w, e)]) b = wo js b := by simp [wo, List.filter_append, h]
theorem eo_len_le (js : List (Int × Int)) (b : Int) : (eo js b).length ≤ js.length := by
  unfold eo
  rw [List.length_map]
  exact List.length_filter_le _ _
theorem wo_len_le (js : List (Int × Int)) (b : Int) : (wo js b).length ≤ js.length := by
  unfold wo
  rw [List.length_map]
  exact List.length_filter_le _ _
theorem mem_eo {js : List (Int × Int)} {w e : Int} : e ∈ eo js w ↔ (w, e) ∈ js := by
  unfold eo
  rw [List.mem_map]
  constructor
  · rintro ⟨⟨a, b⟩, h, rfl⟩
    obtain ⟨h1, h2⟩ := List.mem_filter.mp h
    have h2 := of_decide_eq_true h2
    subst h2
    exact h1
  · intro h
    exact ⟨(w, e), List.mem_filter.mpr ⟨h, decide_eq_true rfl⟩, rfl⟩
/-- what a new joint must be -/
structure JNew (n : Int) (parks : List Int) (js : List (Int × Int)) (w e : Int) : Prop where
  lo : 0 ≤ w
  lt : w < e
  hi : e < n
  new : (w, e) ∉ js
  ew : w ∉ parks → (eo js w).length ≠ 2
  we : e ∉ parks → (wo js e).length ≠ 2
inductive JOk (n : Int) (parks : List Int) : List (Int × Int) → Prop
  | nil : JOk n parks []
  | snoc {js : List (Int × Int)} {w e : Int} : JOk n parks js → JNew n parks js w e → JOk n parks (js ++ [(w, e)])
theorem JOk.at {n : Int} {parks : List Int} {js : List (Int × Int)} (h : JOk n parks js) : ∀ {i : Nat} {p : Int × Int}, js[i]? = some p → JNew n parks (js.take i) p.1 p.2 := by
  induction h with
  | nil => intro i p h; simp at h
  | snoc hj hn ih =>
    rename_i js w e
    intro i p hp
    by_cases hi : i < js.length
    · rw [List.getElem?_append_left hi] at hp
      rw [List.take_append_of_le_length (Nat.le_of_lt hi)]
      exact ih hp
    · have hl := (List.getElem?_eq_some_iff.mp hp).1
      rw [List.length_append, List.length_singleton] at hl
      have ei : i = js.length := by omega
      subst ei
      rw [List.getElem?_append_right (Nat.le_refl _)] at hp
      simp at hp
      subst hp
      rw [List.take_append_of_le_length (Nat.le_refl _), List.take_length]
      exact hn
theorem JOk.mem {n : Int} {parks : List Int} {js : List (Int × Int)} (h : JOk n parks js) {p : Int × Int} (m : p ∈ js) : 0 ≤ p.1 ∧ p.1 < p.2 ∧ p.2 < n := by
  obtain ⟨i, hi, e⟩ := List.getElem_of_mem m
  have q := h.at (i := i) (p := p) (by rw [List.getElem?_eq_getElem hi, e])
  exact ⟨q.lo, q.lt, q.hi⟩
theorem JOk.yards {n : Int} {parks parks2 : List Int} {js : List (Int × Int)} (h : JOk n parks js) (hs : ∀ p ∈ parks, p ∈ parks2) : JOk n parks2 js := by
  induction h with
  | nil => exact .nil
  | snoc hj hn ih => exact .snoc ih ⟨hn.lo, hn.lt, hn.hi, hn.new, fun z => hn.ew fun y => z (hs _ y), fun z => hn.we fun y => z (hs _ y)⟩
structure Trk where
  lens : List Int
  joints : List (Int × Int)
  parks : List Int
structure TrkOk (t : Trk) : Prop where
  pos : 1 ≤ t.lens.length
  few : t.lens.length ≤ 200
  one : ∀ l ∈ t.lens, 1 ≤ l
  fewP : t.parks.length ≤ 200
  inP : ∀ b ∈ t.parks, 0 ≤ b ∧ b < (t.lens.length : Int)
  fewJ : t.joints.length ≤ 900
  js : JOk (t.lens.length : Int) t.parks t.joints
def dT (t : Trk) : PyData := .tuple [dI t.lens, dPs t.joints, dI t.parks]
/-! ### demands -/
def eastS : Str := "east"
def westS : Str := "west"
/-! ### sorted joints -/
def lexLe (p q : Int × Int) : Prop := p.1 < q.1 ∨ (p.1 = q.1 ∧ p.2 ≤ q.2)
theorem sort_uniq : ∀ {l m : List (Int × Int)}, l.Perm m → l.Pairwise lexLe → m.Pairwise lexLe → l = m
  | [], m, h, _, _ => (List.Perm.nil_eq h)
  | x :: l, [], h, _, _ => absurd h.length_eq (by simp)
  | x :: l, y :: m, h, hl, hm => by
    have e : x = y := by
      have h1 : x = y ∨ lexLe y x := by
        rcases List.mem_cons.mp (h.mem_iff.mp (List.mem_cons_self (a := x) (l := l))) with e | hx
        · exact .inl e
        · exact .inr ((List.pairwise_cons.mp hm).1 x hx)
      have h2 : y = x ∨ lexLe x y := by
        rcases List.mem_cons.mp (h.mem_iff.mpr (List.mem_cons_self (a := y) (l := m))) with e | hx
        · exact .inl e
        · exact .inr ((List.pairwise_cons.mp hl).1 y hx)
      rcases h1 with e | h1
      · exact e
      · rcases h2 with e | h2
        · exact e.symm
        · obtain ⟨a, b⟩ := x
          obtain ⟨c, d⟩ := y
          unfold lexLe at h1 h2
          simp only at h1 h2
          have : a = c := by omega
          have : b = d := by omega
          simp [*]
    subst e
    rw [sort_uniq h.cons_inv (List.pairwise_cons.mp hl).2 (List.pairwise_cons.mp hm).2]
/-- the joints by their western blocks -/
def fan (ess : List (List Int)) (n : Nat) : List (Int × Int) := (List.range n).flatMap fun b => ((ess.getD b []).map fun e => ((b : Int), e))
theorem fan_zero (ess : List (List Int)) : fan ess 0 = [] := rfl
theorem fan_succ (ess : List (List Int)) (n : Nat) : fan ess (n + 1) = fan ess n ++ (ess.getD n []).map fun e => ((n : Int), e) := by
  unfold fan
  rw [List.range_succ, List.flatMap_append]
  simp
structure Srt (f : Int → List Int) (n : Nat) (ess : List (List Int)) : Prop where
  len : ess.length = n
  at_ : ∀ (b : Nat) x, ess[b]? = some x → x.Perm (f (b : Int)) ∧ x.Pairwise (· ≤ ·)
theorem Srt.get {f : Int → List Int} {n : Nat} {ess : List (List Int)} (h : Srt f n ess) {b : Nat} (hb : b < n) : ∃ x, ess[b]? = some x ∧ ess.getD b [] = x ∧ x.Perm (f (b : Int)) ∧ x.Pairwise (· ≤ ·) := by
  have hb' : b < ess.length := by rw [h.len]; exact hb
  have e : ess[b]? = some ess[b] := List.getElem?_eq_getElem hb'
  refine ⟨ess[b], e, ?_, h.at_ b _ e⟩
  rw [List.getD_eq_getElem?_getD, e]
  rfl
theorem fan_sorted {f : Int → List Int} {ess : List (List Int)} {N : Nat} (h : Srt f N ess) : ∀ n, n ≤ N → (fan ess n).Pairwise lexLe ∧ ∀ p ∈ fan ess n, p.1 < (n : Int)
  | 0, _ => ⟨.nil, fun p hp => absurd hp (by simp [fan_zero])⟩
  | n + 1, hn => by
    obtain ⟨h1, h2⟩ := fan_sorted h n (by omega)
    obtain ⟨x, _, ex, _, hs⟩ := h.get (b := n) (by omega)
    rw [fan_succ, ex]
    refine ⟨List.pairwise_append.mpr ⟨h1, ?_, fun p hp q hq => ?_⟩, fun p hp => ?_⟩
    · exact List.pairwise_map.mpr (List.Pairwise.imp (fun {a b} hab => .inr ⟨rfl, hab⟩) hs)
    · obtain ⟨e, _, rfl⟩ := List.mem_map.mp hq
      exact .inl (h2 p hp)
    · rcases List.mem_append.mp hp with hp | hp
      · have := h2 p hp
        omega
      · obtain ⟨e, _, rfl⟩ := List.mem_map.mp hp
        show ((n : Nat) : Int) < ((n + 1 : Nat) : Int)
        omega
theorem fan_perm {js : List (Int × Int)} {ess : List (List Int)} {N : Nat} (h : Srt (eo js) N ess) : ∀ n, n ≤ N → (fan ess n).Perm (js.filter fun p => decide (0 ≤ p.1 ∧ p.1 < (n : Int)))
  | 0, _ => by
    have e : (js.filter fun p => decide (0 ≤ p.1 ∧ p.1 < ((0 : Nat) : Int))) = [] := List.filter_eq_nil_iff.mpr fun p _ q => by
      have := of_decide_eq_true q
      omega
    rw [e, fan_zero]
  | n + 1, hn => by
    obtain ⟨x, _, ex, hp, _⟩ := h.get (b := n) (by omega)
    rw [fan_succ, ex]
    have h1 := fan_perm h n (by omega)
    have h2 : (x.map fun e => ((n : Int), e)).Perm (js.filter fun p => decide (p.1 = (n : Int))) := by
      have e : ((js.filter fun p => decide (p.1 = (n : Int))).map (·.2)).map (fun e => ((n : Int), e)) = js.filter fun p => decide (p.1 = (n : Int)) := by
        rw [List.map_map]
        conv => rhs; rw [← List.map_id (js.filter fun p => decide (p.1 = (n : Int)))]
        refine List.map_congr_left fun p hp => ?_
        have := of_decide_eq_true (List.mem_filter.mp hp).2
        obtain ⟨a, b⟩ := p
        simp only at this
        subst this
        rfl
      have q := hp.map (fun e => ((n : Int), e))
      unfold eo at q
      rw [e] at q
      exact q
    refine (h1.append h2).trans ?_
    have h3 := List.filter_append_perm (fun p : Int × Int => decide (p.1 < (n : Int))) (js.filter fun p => decide (0 ≤ p.1 ∧ p.1 < ((n + 1 : Nat) : Int)))
    refine List.Perm.trans ?_ h3
    rw [List.filter_filter, List.filter_filter]
    have a1 : (js.filter fun p => decide (0 ≤ p.1 ∧ p.1 < (n : Int))) = js.filter fun p => decide (p.1 < (n : Int)) && decide (0 ≤ p.1 ∧ p.1 < ((n + 1 : Nat) : Int)) := by
      refine List.filter_congr fun p _ => ?_
      rw [Bool.eq_iff_iff]
      simp only [Bool.and_eq_true, decide_eq_true_eq]
      omega
    have a2 : (js.filter fun p => decide (p.1 = (n : Int))) = js.filter fun p => (!decide (p.1 < (n : Int))) && decide (0 ≤ p.1 ∧ p.1 < ((n + 1 : Nat) : Int)) := by
      refine List.filter_congr fun p _ => ?_
      rw [Bool.eq_iff_iff]
      simp only [Bool.and_eq_true, Bool.not_eq_true', decide_eq_true_eq, decide_eq_false_iff_not]
      omega
    rw [a1, a2]
theorem fan_all {n : Nat} {parks : List Int} {js : List (Int × Int)} {ess : List (List Int)} (h : Srt (eo js) n ess) (hj : JOk (n : Int) parks js) : (fan ess n).Perm js := by
  have e : (js.filter fun p => decide (0 ≤ p.1 ∧ p.1 < (n : Int))) = js := List.filter_eq_self.mpr fun p hp => by
    have := hj.mem hp
    exact decide_eq_true (by omega)
  have q := fan_perm h n (Nat.le_refl _)
  rw [e] at q
  exact q
end Lw
set_option Elab.async false
set_option linter.all false
set_option maxRecDepth 100000
set_option maxHeartbeats 4000000
/-! the promises -/
namespace Lw
open PySem L2
open Evl (Ex)
def Ret (G H : Hp) (P : VP) (Q : VK) : Prop := ∀ v G' H', Gr G G' H H' → P v G' → Q v H'
section
variable {K : PySem.W.Frag} {C : Addr}
/-! ### the law's helpers -/
def spCell (K : PySem.W.Frag) : Sp := fun vs H Q _ => ∃ (G : Hp) (l : Addr) (ns : List Int) (k : Int), Ex G H ∧ vs = [.ref l, .int k] ∧ SqL K G l (ns.map V.int) ∧ ns.length ≤ 63 ∧ 0 ≤ k ∧ k < 1000 ∧ Ret G H (IV fun _ => True) Q
theorem sa_cell {G : Hp} {l : Addr} {ns : List Int} {k : Int} (h : SqL K G l (ns.map V.int)) (hn : ns.length ≤ 63) (h0 : 0 ≤ k) (h1 : k < 1000) : SA (spCell K) [.ref l, .int k] G (IV fun _ => True) :=
  fun H e Q _ q => ⟨G, l, ns, k, e, rfl, h, hn, h0, h1, q⟩
def spDraw : Sp := fun vs H Q _ => ∃ (G : Hp) (c : Int) (k : Int) (n : Int), Ex G H ∧ vs = [.int c, .int k, .int n] ∧ 0 ≤ k ∧ k ≤ 2000 ∧ 1 ≤ n ∧ n ≤ 2000 ∧ Ret G H (IV fun z => 0 ≤ z ∧ z < n) Q
theorem sa_draw {G : Hp} {c k n : Int} (h0 : 0 ≤ k) (h1 : k ≤ 2000) (h2 : 1 ≤ n) (h3 : n ≤ 2000) : SA spDraw [.int c, .int k, .int n] G (IV fun z => 0 ≤ z ∧ z < n) :=
  fun H e Q _ q => ⟨G, c, k, n, e, rfl, h0, h1, h2, h3, q⟩
/-! ### the layout -/
/-- the fields of a whole layout -/
structure FLd (fs : List (Str × V)) (n : Int) (l y e w : Addr) : Prop where
  size : fs.lookup ("size" : Str) = some (.int n)
  lens : fs.lookup ("_lengths" : Str) = some (.ref l)
  marks : fs.lookup ("_yard_marks" : Str) = some (.ref y)
  east : fs.lookup ("_east" : Str) = some (.ref e)
  west : fs.lookup ("_west" : Str) = some (.ref w)
  no : ∀ m : Str, m ≠ "size" → m ≠ "_lengths" → m ≠ "_yard_marks" → m ≠ "_east" → m ≠ "_west" → fs.lookup m = none
  few : fs.length ≤ 20
def marksOf (n : Nat) (parks : List Int) : List Bool := (List.range n).map fun b => decide (((b : Nat) : Int) ∈ parks)
theorem marks_at {n : Nat} {parks : List Int} {b : Nat} (h : b < n) : (marksOf n parks)[b]? = some (decide ((b : Int) ∈ parks)) := by
  unfold marksOf
  rw [List.getElem?_map, List.getElem?_range h]
  rfl
/-- a layout stands at p -/
def LayAt (K : PySem.W.Frag) (C : Addr) (G : Hp) (p : Addr) (n : Nat) (parks : List Int) (js : List (Int × Int)) : Prop := ∃ dx fs l y e w ess wss, G p = some (.ins C dx fs) ∧ FLd fs (n : Int) l y e w ∧
  Dp K G (.ref y) (.list ((marksOf n parks).map PyData.bool)) ∧ Dp K G (.ref e) (.list (ess.map dI)) ∧ Dp K G (.ref w) (.list (wss.map dI)) ∧ Srt (eo js) n ess ∧ Srt (wo js) n wss
theorem LayAt.ex {G G' : Hp} {p : Addr} {n : Nat} {parks : List Int} {js : List (Int × Int)} (h : LayAt K C G p n parks js) (e : Ex G G') : LayAt K C G' p n parks js := by
  obtain ⟨dx, fs, l, y, ea, w, ess, wss, h1, h2, h3, h4, h5, h6, h7⟩ := h
  exact ⟨dx, fs, l, y, ea, w, ess, wss, e _ _ h1, h2, dpx h3 e, dpx h4 e, dpx h5 e, h6, h7⟩
/-- an instance whose size is told -/
def SizeAt (C : Addr) (G : Hp) (p : Addr) (n : Int) : Prop := ∃ dx fs, G p = some (.ins C dx fs) ∧ fs.lookup ("size" : Str) = some (.int n)
theorem LayAt.size {G : Hp} {p : Addr} {n : Nat} {parks : List Int} {js : List (Int × Int)} (h : LayAt K C G p n parks js) : SizeAt C G p (n : Int) := by
  obtain ⟨dx, fs, l, y, ea, w, ess, wss, h1, h2, _⟩ := h
  exact ⟨dx, fs, h1, h2.size⟩
theorem LayAt.meth {G : Hp} {p : Addr} {n : Nat} {parks : List Int} {js : List (Int × Int)} (h : LayAt K C G p n parks js) {m : Str} (h1 : m ≠ "size" ∧ m ≠ "_lengths" ∧ m ≠ "_yard_marks" ∧ m ≠ "_east" ∧ m ≠ "_west") : ∃ dx fs, G p = some (.ins C dx fs) ∧ fs.lookup m = none := by
  obtain ⟨dx, fs, l, y, ea, w, ess, wss, h2, h3, _⟩ := h
  exact ⟨dx, fs, h2, h3.no m h1.1 h1.2.1 h1.2.2.1 h1.2.2.2.1 h1.2.2.2.2⟩
theorem SizeAt.ex {G G' : Hp} {p : Addr} {n : Int} (h : SizeAt C G p n) (e : Ex G G') : SizeAt C G' p n := by
  obtain ⟨dx, fs, h1, h2⟩ := h
  exact ⟨dx, fs, e _ _ h1, h2⟩
def spContains (C : Addr) : Sp := fun vs H Q _ => ∃ (G : Hp) (p : Addr) (n : Int) (b : Int), Ex G H ∧ vs = [.ref p, .int b] ∧ SizeAt C G p n ∧ Ret G H (XV (.bl (decide (0 ≤ b ∧ b < n)))) Q
def spChecks (K : PySem.W.Frag) (C : Addr) : Sp := fun vs H Q _ => ∃ (G : Hp) (p : Addr) (n : Int) (a : Addr) (bs : List Int), Ex G H ∧ vs = [.ref p, .ref a] ∧ SizeAt C G p n ∧ SqL K G a (bs.map V.int) ∧ (∀ b ∈ bs, 0 ≤ b ∧ b < n) ∧ Ret G H (XV .non) Q
theorem sa_checks {G : Hp} {p a : Addr} {n : Int} {bs : List Int} (h : SizeAt C G p n) (ha : SqL K G a (bs.map V.int)) (hb : ∀ b ∈ bs, 0 ≤ b ∧ b < n) : SA (spChecks K C) [.ref p, .ref a] G (XV .non) := fun H e Q _ q => ⟨G, p, n, a, bs, e, rfl, h, ha, hb, q⟩
def endN (js : List (Int × Int)) (b : Int) (c : Bool) : Nat := if c = true then (eo js b).length else (wo js b).length
def isPt (parks : List Int) (js : List (Int × Int)) (b : Int) (c : Bool) : Bool := !decide (b ∈ parks) && decide (endN js b c = 2)
end
/-! ### names of the top -/
section
variable (P : Program) (w : World) (K : PySem.W.Frag) (mg : Str → Option Value) (base : Heap)
def Cal (x : Str) (k : Nat) (ps : List Str) (sp : Sp) : Prop := ∃ f fd, FnOk P w K mg base CX0 k f fd ps sp ∧ mg x = some (.ref f) ∧ PySem.W.keepIn K (.ref f) = true ∧ Binds K fd ps []
def CalM (C : Addr) (m : Str) (k : Nat) (ps : List Str) (sp : Sp) : Prop := ∃ f fd, FnOk P w K mg base CX0 k f fd ps sp ∧ Meth K C m f ∧ Binds K fd ps []
structure Blt : Prop where
  len : mg "len" = none
  abs : mg "abs" = none
  min : mg "min" = none
  range : mg "range" = none
  int : mg "int" = none
  str : mg "str" = none
  bool : mg "bool" = none
  list : mg "list" = none
  tuple : mg "tuple" = none
  sorted : mg "sorted" = none
  isinstance : mg "isinstance" = none
structure Cl (C : Addr) : Prop where
  cl : Cls K C
  size : NoAttr K C "size"
  lens : NoAttr K C "_lengths"
  marks : NoAttr K C "_yard_marks"
  east : NoAttr K C "_east"
  west : NoAttr K C "_west"
end
theorem hu65 {k : Nat} {A : Around} (r : Room k A) : A.units + 65 < cLine := by have := r.un; omega
theorem hu64 {k : Nat} {A : Around} (r : Room k A) : A.units + 64 < cLine := by have := r.un; omega
/-! a call by keywords alone -/
section
variable {X : Cx} {CX : CXT} {k : Nat} {f : Addr} {fd : FuncData} {ps ks : List Str} {sp : Sp} {E : XK} {x : Str} {p pos : Pos} {kws : List Keyword} {tk : TA} {g : List Value → List Value → List Value} {gV : List V → List V → List V}
theorem pe_callK0 (F : FnOk X.prog X.w X.K X.mg X.base CX k f fd ps sp) (hr : Room k X.A) (hg : Gl X x) (hm : X.mg x = some (.ref f)) (hk : PySem.W.keepIn X.K (.ref f) = true) (hb : KBinds X.K fd ps ks g gV) (hx : Passes CX X E) (hkw : PK X kws tk)
    (hall : (backToKw pos (keywordEach kws X.env)).all (·.1.isSome) = true := by rfl) (hks : (backToKw pos (keywordEach kws X.env)).filterMap (·.1) = ks := by rfl) (hdb : (x == ("__debug__" : Str)) = false := by decide)
    (hpl : ((backTo pos (starEach [] X.env)).any (·.1) || (backToKw pos (keywordEach kws X.env)).any (·.1.isNone)) = false := by rfl) :
    PE X (.Call (.Name x p) [] kws pos) (tCallK sp gV E tNil tk) := by
  refine ⟨fun pins s σ H Q I h => wpAny_Call_Name_kw (ld_glob I hg hm ?_ hdb)⟩
  refine PySem.W.callWith_KW0 (h₀ := X.base) I.ok.mod.kin hk hall (thn (hkw.run pos pins s σ H _ I h) fun ws s2 ⟨zs, H2, I2, rz, q2⟩ => ⟨I2.kIn, ?_⟩) hpl
  rw [hks]
  exact run_fnk (us := []) (vs := []) F hr hb hx I2 .nil rz q2
end
end Lw
namespace Lw
open PySem L2
open Evl (Ex)
section
variable {K : PySem.W.Frag} {σ : L2.St} {G G' H H' : Hp} {ta tb te tc : TE} {P : VP} {D : Ends} {u : TT}
theorem ex_eq {x y : V} {p : Bool → Prop} (ha : EF ta σ G (XV x)) (hb : EF tb σ G (XV y)) (hs : scal x y = true) (h : p (decide (x = y))) : EF (tOp rEq ta tb) σ G (BV p) :=
  ef_op mo_XV mo_XV ha hb fun a b G' _ pa pb => by
    cases (show a = x from pa)
    cases (show b = y from pb)
    exact fun H e Q k => ⟨hs, k _ G' H (.refl e) ⟨_, rfl, h⟩⟩
theorem ex_var {i : Nat} {v : V} (h : σ[i]? = some (some v)) : EF (tVar i) σ G (XV v) := ef_var h rfl
theorem ex_c {v : V} : EF (tC v) σ G (XV v) := ef_c rfl
theorem EF.iv {z : Int} (h : EF te σ G (XV (.int z))) : EF te σ G (IV (· = z)) := h.imp fun v _ _ p => ⟨z, p, rfl⟩
theorem EF.dv {v : V} {d : PyData} (h : EF te σ G (XV v)) (hd : Dp K G v d) : EF te σ G (DV K d) := h.imp fun x G' e p => by
  cases (show x = v from p)
  exact dpx hd e
theorem EF.bl {b : Bool} {p : Bool → Prop} (h : EF te σ G (XV (.bl b))) (hp : p b) : EF te σ G (BV p) := h.imp fun v _ _ q => ⟨b, q, hp⟩
/-- c <= x < y -/
theorem ef_chain {r r' : R2} {Pa Pb Pc : VP} {p q s : Bool → Prop} (mA : Mo Pa) (mB : Mo Pb) (mC : Mo Pc) (ha : EF ta σ G Pa) (hb : EF tb σ G Pb) (hc : EF tc σ G Pc)
    (h1 : ∀ x y G', Pa x G' → Pb y G' → RO r x y G' (BV p)) (h2 : p true → ∀ x y G', Pb x G' → Pc y G' → RO r' x y G' (BV q)) (ht : p true → ∀ b, q b → s b) (hf : p false → s false) : EF (tChain r r' ta tb tc) σ G (BV s) := fun H e Q k =>
  ha H e _ fun x G1 H1 g1 p1 => hb H1 (g1.up.trans g1.ok) _ fun y G2 H2 g2 p2 => by
    obtain ⟨G3, e1, e2, g3⟩ := g1.join g2
    refine h1 x y G3 (mA x _ _ e1 p1) (mB y _ _ e2 p2) H2 g3.ok _ fun v G4 H4 g4 p4 => ?_
    obtain ⟨b, rfl, pb⟩ := p4
    refine ⟨b, rfl, ?_⟩
    have g5 := g3.trans g4
    cases b with
    | true =>
      rw [if_pos rfl]
      refine hc H4 (g5.up.trans g5.ok) _ fun z G6 H6 g6 p6 => ?_
      obtain ⟨G7, f1, f2, g7⟩ := g5.join g6
      refine h2 pb y z G7 (mB y _ _ (e2.trans (g4.up.trans f1)) p2) (mC z _ _ f2 p6) H6 g7.ok _ fun v G8 H8 g8 p8 => ?_
      obtain ⟨c, rfl, pc⟩ := p8
      exact k _ G8 H8 (g7.trans g8) ⟨c, rfl, ht pb c pc⟩
    | false =>
      rw [if_neg Bool.false_ne_true]
      exact k _ G4 H4 g5 ⟨false, rfl, hf pb⟩
/-- x not in o, o of an own class -/
theorem eb_notIn {C : Addr} {sp : Sp} {E : XK} {a : Addr} {x : V} {b : Bool} {s : Bool → Prop} (ha : EF ta σ G (XV x)) (hb : EF tb σ G (XV (.ref a))) (hI : ∃ dx fs, G a = some (.ins C dx fs)) (hsp : ∀ G', Ex G G' → SA sp [.ref a, x] G' (XV (.bl b))) (hs : s (!b)) :
    EF (tOp (rInOwn true C sp E) ta tb) σ G (BV s) := ef_op mo_XV mo_XV ha hb fun v u G' e1 pa pb => by
  cases (show v = x from pa)
  cases (show u = .ref a from pb)
  obtain ⟨dx, fs, h⟩ := hI
  refine fun H e Q k => ⟨a, dx, fs, rfl, e _ _ (e1 _ _ h), hsp G' e1 H e _ E fun v2 G2 H2 g2 p2 => ?_⟩
  exact ⟨b, p2, k _ G2 H2 g2 ⟨!b, rfl, hs⟩⟩
/-- over a list that is known -/
theorem st_forK {xs : List V} {tl : TE} {a : Addr} {g : TG} {tu : TS} (hG : Ex G H) (h : EF tl σ G (XV (.ref a))) (hx : SqL K G a xs) (W : Nat → L2.St → Hp → Prop) (h0 : ∀ H', Ex H H' → W 0 σ H') (hl : ∀ i σ' H', W i σ' H' → Ex G H')
    (hs : ∀ i x σ' H', xs[i]? = some x → W i σ' H' → g x σ' H' fun σ2 H2 => tu { D with nx := W (i + 1), ct := W (i + 1), bk := D.nx } σ2 H2) (hd : ∀ σ' H', W xs.length σ' H' → D.nx σ' H') : tFor (iList K tl) g tu D σ H :=
  h H hG _ fun v G1 H1 g1 e => ⟨a, e, ⟨xs, Evl.ex_l (hG.trans g1.hp) hx⟩, for_list W (h0 H1 g1.hp) (fun i σ' H' _ w => Evl.ex_l (hl i σ' H' w) hx) hs hd⟩
theorem ex_ixT {a : Addr} {xs : List V} {i : Nat} {v : V} (ha : EF ta σ G (XV (.ref a))) (hb : EF tb σ G (XV (.int (i : Int)))) (hs : SqT K G a xs) (hv : xs[i]? = some v) : EF (tOp (rIxT K) ta tb) σ G (XV v) :=
  ef_op mo_XV mo_XV ha hb fun x y G' e1 pa pb => by
    cases (show x = .ref a from pa)
    cases (show y = .int (i : Int) from pb)
    exact fun H e Q k => ⟨a, xs, (i : Int), v, rfl, rfl, Evl.ex_t (e1.trans e) hs, atI_of rfl hv, k v G' H (.refl e) rfl⟩
theorem ex_ixL {a : Addr} {xs : List V} {i : Nat} {z : Int} {v : V} (ha : EF ta σ G (XV (.ref a))) (hb : EF tb σ G (XV (.int z))) (ez : z = (i : Int)) (hs : SqL K G a xs) (hv : xs[i]? = some v) : EF (tOp (rIxL K) ta tb) σ G (XV v) :=
  ef_op mo_XV mo_XV ha hb fun x y G' e1 pa pb => by
    cases (show x = .ref a from pa)
    cases (show y = .int z from pb)
    exact fun H e Q k => ⟨a, xs, z, v, rfl, rfl, Evl.ex_l (e1.trans e) hs, atI_of ez hv, k v G' H (.refl e) rfl⟩
theorem ex_call2 {sp : Sp} {E : XK} {x y : V} {P : VP} (ha : EF ta σ G (XV x)) (hb : EF tb σ G (XV y)) (h : ∀ G', Ex G G' → SA sp [x, y] G' P) : EF (tCall sp [] E (tCons ta (tCons tb tNil))) σ G P := ef_call (ea_two mo_XV mo_XV ha hb) fun vs G' e hv => by
  obtain ⟨a, b, rfl, pa, pb⟩ := hv
  cases (show a = x from pa)
  cases (show b = y from pb)
  exact h G' e
end
end Lw
namespace Lw
open PySem L2
open Evl (Ex)
theorem Gr.fresh {G G' H H' : Hp} {q : Addr} {o : HO} (g : Gr G G' H H') (h : G q = none) (h' : G' q = some o) : H q = none := by
  cases e : H q with
  | none => rfl
  | some u =>
    have z := g.2.2.2 q (ne_none_of e) h
    rw [h'] at z
    cases z
/-- the first int of a tuple -/
def keyOf (G : Hp) (v : V) : Int := match v with
  | .ref t => (match G t with | some (.tup (.int i :: _)) => i | _ => 0)
  | _ => 0
def TrAt (G : Hp) (v : V) (a : Int) (s : Str) (b : Int) : Prop := ∃ t, v = .ref t ∧ G t = some (.tup [.int a, .str s, .int b])
theorem TrAt.ex {G G' : Hp} {v : V} {a b : Int} {s : Str} (h : TrAt G v a s b) (e : Ex G G') : TrAt G' v a s b := by
  obtain ⟨t, h1, h2⟩ := h
  exact ⟨t, h1, e _ _ h2⟩
theorem TrAt.key {G : Hp} {v : V} {a b : Int} {s : Str} (h : TrAt G v a s b) : keyOf G v = a := by
  obtain ⟨t, rfl, h⟩ := h
  unfold keyOf
  show (match G t with | some (.tup (.int i :: _)) => i | _ => 0) = a
  rw [h]
theorem TrAt.dp {K : PySem.W.Frag} {G : Hp} {v : V} {a b : Int} {s : Str} (h : TrAt G v a s b) : Dp K G v (dTr a s b) := by
  obtain ⟨t, rfl, h⟩ := h
  exact dp_mkT h (.cons (.int a) (.cons (.str s) (.cons (.int b) .nil)))
def sd (f : Bool) : Str := if f = true then eastS else westS
theorem Gr.app {G G' H H3 H4 : Hp} {q : Addr} {o : HO} (g : Gr G G' H3 H4) (eH : Ex H H3) (hq : H q = none) (g' : G' q = none) : Gr G G' H (upd H4 q o) :=
  ⟨g.up, ex_off g.ok g', ex_off (eH.trans g.hp) hq, fun a h ga => g.2.2.2 a (exNe eH h) ga⟩
theorem EA.imp {ta : TA} {σ : L2.St} {G : Hp} {R S : List V → Hp → Prop} (h : EA ta σ G R) (k : ∀ vs G', Ex G G' → R vs G' → S vs G') : EA ta σ G S := fun H e Q q => h H e Q fun vs G' H' g p => q vs G' H' g (k vs G' g.up p)
theorem take_next {α : Type} : ∀ {l : List α} {k : Nat} {x : α}, l[k]? = some x → l.take (k + 1) = l.take k ++ [x]
  | [], k, x, h => by simp at h
  | a :: l, 0, x, h => by
    have e : a = x := Option.some.inj h
    subst e
    rfl
  | a :: l, k + 1, x, h => by
    show a :: l.take (k + 1) = a :: (l.take k ++ [x])
    rw [take_next (l := l) (k := k) (x := x) h]
theorem Srt.len_at {js : List (Int × Int)} {n : Nat} {ess : List (List Int)} (h : Srt (eo js) n ess) (i : Nat) : (ess.getD i []).length ≤ js.length := by
  by_cases hi : i < n
  · obtain ⟨x, _, e, hp, _⟩ := h.get hi
    rw [e, hp.length_eq]
    exact eo_len_le js _
  · rw [List.getD_eq_getElem?_getD, List.getElem?_eq_none (by rw [h.len]; omega)]
    exact Nat.zero_le _
theorem fan_len {js : List (Int × Int)} {n : Nat} {ess : List (List Int)} (h : Srt (eo js) n ess) {i : Nat} (hi : i ≤ n) : (fan ess i).length ≤ js.length := by
  rw [(fan_perm h i hi).length_eq]
  exact List.length_filter_le _ _
end Lw
set_option Elab.async false
set_option linter.all false
set_option maxRecDepth 100000
set_option maxHeartbeats 4000000
/-! a layout that is being made -/
namespace Lw
open PySem L2
open Evl (Ex)
def outH (H : Hp) (x : Addr) : Hp := fun a => if a = x then none else H a
theorem out_self {H : Hp} {x : Addr} : outH H x x = none := if_pos rfl
theorem out_ne {H : Hp} {x a : Addr} (h : a ≠ x) : outH H x a = H a := if_neg h
theorem out_ex {H : Hp} {x : Addr} : Ex (outH H x) H := fun a o h => by
  by_cases e : a = x
  · rw [e, out_self] at h
    cases h
  · rw [out_ne e] at h
    exact h
theorem ex_out {G H : Hp} {x : Addr} (e : Ex G H) (h : G x = none) : Ex G (outH H x) := fun a o q => by
  rw [out_ne (ne_of_none q h)]
  exact e a o q
open Classical in
/-- what is known of the objects in S, and G -/
noncomputable def pick (S : List Addr) (G H : Hp) : Hp := fun a => if a ∈ S then H a else G a
theorem pick_in {S : List Addr} {G H : Hp} {a : Addr} (h : a ∈ S) : pick S G H a = H a := if_pos h
theorem pick_gr {S : List Addr} {G Hs H : Hp} (hS : ∀ a ∈ S, Hs a = none) (e0 : Ex G Hs) (e : Ex Hs H) : Gr G (pick S G H) Hs H := by
  have no : ∀ a o, G a = some o → a ∉ S := fun a o q m => by
    have z := e0 a o q
    rw [hS a m] at z
    cases z
  refine ⟨fun a o q => ?_, fun a o q => ?_, e, fun a h g => ?_⟩
  · unfold pick
    rw [if_neg (no a o q)]
    exact q
  · unfold pick at q
    split at q
    · exact q
    · exact e a o (e0 a o q)
  · unfold pick
    rw [if_neg (fun m => h (hS a m))]
    exact g
structure AddSt (C : Addr) (H : Hp) (x : Addr) (n : Nat) (parks : List Int) (js : List (Int × Int)) (dx : Addr) (fs : List (Str × V)) (l ym e w : Addr) (ea wa : List Addr) : Prop where
  ins : H x = some (.ins C dx fs)
  fld : FLd fs (n : Int) l ym e w
  marks : H ym = some (.lst ((marksOf n parks).map V.bl))
  east : H e = some (.lst (ea.map V.ref))
  west : H w = some (.lst (wa.map V.ref))
  le : ea.length = n
  lw : wa.length = n
  ae : ∀ (b : Nat) a, ea[b]? = some a → H a = some (.lst ((eo js (b : Int)).map V.int))
  aw : ∀ (b : Nat) a, wa[b]? = some a → H a = some (.lst ((wo js (b : Int)).map V.int))
  nd : (ea ++ wa).Nodup
section
variable {K : PySem.W.Frag} {C : Addr} {H H' : Hp} {x : Addr} {n : Nat} {parks : List Int} {js : List (Int × Int)} {dx : Addr} {fs : List (Str × V)} {l ym e w : Addr} {ea wa : List Addr}
theorem AddSt.ex (s : AddSt C H x n parks js dx fs l ym e w ea wa) (h : Ex H H') : AddSt C H' x n parks js dx fs l ym e w ea wa :=
  ⟨h _ _ s.ins, s.fld, h _ _ s.marks, h _ _ s.east, h _ _ s.west, s.le, s.lw, fun b a q => h _ _ (s.ae b a q), fun b a q => h _ _ (s.aw b a q), s.nd⟩
theorem AddSt.size (s : AddSt C H x n parks js dx fs l ym e w ea wa) : SizeAt C H x (n : Int) := ⟨dx, fs, s.ins, s.fld.size⟩
theorem refs_ints {as : List Addr} {zs : List Int} (h : as.map V.ref = zs.map V.int) : as = [] := by
  cases as with
  | nil => rfl
  | cons a as =>
    cases zs with
    | nil => cases h
    | cons z zs => cases h
theorem bls_ints {bs : List Bool} {zs : List Int} (h : bs.map V.bl = zs.map V.int) : bs = [] := by
  cases bs with
  | nil => rfl
  | cons a as =>
    cases zs with
    | nil => cases h
    | cons z zs => cases h
theorem marks_len : (marksOf n parks).length = n := by
  unfold marksOf
  rw [List.length_map, List.length_range]
/-- an inner list is no other object of the layout -/
theorem AddSt.inner (s : AddSt C H x n parks js dx fs l ym e w ea wa) (h0 : 0 < n) {a : Addr} {zs : List Int} (ha : H a = some (.lst (zs.map V.int))) : x ≠ a ∧ ym ≠ a ∧ e ≠ a ∧ w ≠ a := by
  refine ⟨fun z => ?_, fun z => ?_, fun z => ?_, fun z => ?_⟩
  · have q := s.ins
    rw [z, ha] at q
    cases q
  · have q := s.marks
    rw [z, ha] at q
    have q2 := bls_ints (HO.lst.inj (Option.some.inj q)).symm
    have := marks_len (n := n) (parks := parks)
    rw [q2] at this
    simp at this
    omega
  · have q := s.east
    rw [z, ha] at q
    have q2 := refs_ints (HO.lst.inj (Option.some.inj q)).symm
    have := s.le
    rw [q2] at this
    simp at this
    omega
  · have q := s.west
    rw [z, ha] at q
    have q2 := refs_ints (HO.lst.inj (Option.some.inj q)).symm
    have := s.lw
    rw [q2] at this
    simp at this
    omega
theorem nd_ne {as bs : List Addr} (h : (as ++ bs).Nodup) {i j : Nat} {a b : Addr} (ha : as[i]? = some a) (hb : bs[j]? = some b) : a ≠ b := by
  have q := (List.nodup_append.mp h).2.2
  exact q a (List.mem_of_getElem? ha) b (List.mem_of_getElem? hb)
theorem AddSt.step (s : AddSt C H x n parks js dx fs l ym e w ea wa) {i j : Nat} {a a2 : Addr} (hi : ea[i]? = some a) (hj : wa[j]? = some a2) (h1 : H' a = some (.lst ((eo js (i : Int) ++ [(j : Int)]).map V.int))) (h2 : H' a2 = some (.lst ((wo js (j : Int) ++ [(i : Int)]).map V.int)))
    (hk : ∀ b o, b ≠ a → b ≠ a2 → H b = some o → H' b = some o) : AddSt C H' x n parks (js ++ [((i : Int), (j : Int))]) dx fs l ym e w ea wa := by
  have h0 : 0 < n := by
    have := (List.getElem?_eq_some_iff.mp hi).1
    have := s.le
    omega
  obtain ⟨n1, n2, n3, n4⟩ := s.inner h0 (s.ae i a hi)
  obtain ⟨m1, m2, m3, m4⟩ := s.inner h0 (s.aw j a2 hj)
  refine ⟨hk _ _ n1 m1 s.ins, s.fld, hk _ _ n2 m2 s.marks, hk _ _ n3 m3 s.east, hk _ _ n4 m4 s.west, s.le, s.lw, fun b c hc => ?_, fun b c hc => ?_, s.nd⟩
  · by_cases hb : i = b
    · subst hb
      rw [hi] at hc
      cases hc
      rw [eo_snoc_same]
      exact h1
    · rw [eo_snoc_ne js (by omega)]
      refine hk _ _ (fun z => hb ?_) (nd_ne s.nd hc hj) (s.ae b c hc)
      subst z
      exact nd_ix (List.nodup_append.mp s.nd).1 hi hc
  · by_cases hb : j = b
    · subst hb
      rw [hj] at hc
      cases hc
      rw [wo_snoc_same]
      exact h2
    · rw [wo_snoc_ne js (by omega)]
      refine hk _ _ (fun z => ?_) (fun z => hb ?_) (s.aw b c hc)
      · exact nd_ne s.nd hi hc z.symm
      · subst z
        exact nd_ix (List.nodup_append.mp s.nd).2.1 hj hc
end
def spAdd (C : Addr) : Sp := fun vs H Q _ => ∃ (x : Addr) (n : Nat) (parks : List Int) (js : List (Int × Int)) (dx : Addr) (fs : List (Str × V)) (l ym e w : Addr) (ea wa : List Addr) (u v : Int), vs = [.ref x, .int u, .int v] ∧ AddSt C H x n parks js dx fs l ym e w ea wa ∧ JNew (n : Int) parks js u v ∧ js.length ≤ 900 ∧
  ∀ H', AddSt C H' x n parks (js ++ [(u, v)]) dx fs l ym e w ea wa → (∀ a o, a ∉ ea → a ∉ wa → H a = some o → H' a = some o) → Q .non H'
section
variable {K : PySem.W.Frag} {σ : L2.St} {G H : Hp} {ta tb te : TE} {P : VP} {D : Ends}
theorem ex_fld {C dx a : Addr} {fs : List (Str × V)} {f : Str} {v : V} (ho : EF ta σ G (XV (.ref a))) (hI : G a = some (.ins C dx fs)) (hc : Cls K C) (hn : NoAttr K C f) (hl : fs.lookup f = some v) : EF (tFld K ta f) σ G (XV v) := ef_fld ho hI hc hn hl rfl
theorem ex_lenL {a : Addr} {xs : List V} (ha : EF ta σ G (XV (.ref a))) (hs : SqL K G a xs) : EF (tCB (Evl.rLenS K) (tCons ta tNil)) σ G (XV (.int (xs.length : Int))) := fun H e Q q => ha H e _ fun x G1 H1 g1 p => by
  cases (show x = .ref a from p)
  exact ⟨a, xs, rfl, .inl (Evl.ex_l (g1.up.trans g1.ok) hs), q _ G1 H1 g1 rfl⟩
theorem st_fld {C dx x : Addr} {fs : List (Str × V)} {f : Str} {tv : TE} (hi : H x = some (.ins C dx fs)) (hv : EF tv σ H P) (ho : EF ta σ H (XV (.ref x))) (hc : Cls K C) (hn : NoAttr K C f) (hl : fs.length < 1000)
    (k : ∀ y G' H', Ex H G' → Ex G' H' → P y G' → D.nx σ (upd H' x (.ins C dx (putF f y fs)))) : sFld K ta tv f D σ H := hv H (Ex.refl H) _ fun y G1 H1 g1 p1 => ho H1 g1.hp _ fun z G2 H2 g2 p2 => by
  refine ⟨x, C, dx, fs, p2, g2.hp _ _ (g1.hp _ _ hi), hc, hn, hl, ?_⟩
  exact k y G1 H2 g1.up (g1.ok.trans g2.hp) p1
theorem ef_sortI {a : Addr} {ns : List Int} (ha : EF ta σ G (XV (.ref a))) (hs : SqL K G a (ns.map V.int)) : EF (tCB (rSortedI K) (tCons ta tNil)) σ G fun v G' => ∃ (p : Addr) (ns' : List Int), v = .ref p ∧ G p = none ∧ G' p = some (.lst (ns'.map V.int)) ∧ ns'.Perm ns ∧ ns'.Pairwise (· ≤ ·) := fun H e Q q => ha H e _ fun x G1 H1 g1 p => by
  cases (show x = .ref a from p)
  refine ⟨a, ns, rfl, Evl.ex_l (g1.up.trans g1.ok) hs, fun ns' p2 h1 h2 h3 => ?_⟩
  exact q _ _ _ (g1.trans (.new g1.ok h3)) ⟨p2, ns', rfl, none_back (g1.up.trans g1.ok) h3, upd_same, h1, h2⟩
theorem putF_len (f : Str) (v : V) : ∀ fs : List (Str × V), (putF f v fs).length ≤ fs.length + 1
  | [] => Nat.le_refl _
  | (g, x) :: r => by
    unfold putF
    split
    · simp
    · have := putF_len f v r
      simp
      omega
theorem fld5 {n : Int} {l y e w : Addr} : FLd (putF "_west" (.ref w) (putF "_east" (.ref e) (putF "_yard_marks" (.ref y) (putF "_lengths" (.ref l) (putF "size" (.int n) []))))) n l y e w ∧ (putF "_west" (.ref w) (putF "_east" (.ref e) (putF "_yard_marks" (.ref y) (putF "_lengths" (.ref l) (putF "size" (.int n) []))))).length ≤ 5 := by
  refine ⟨⟨?_, ?_, ?_, ?_, ?_, fun m h1 h2 h3 h4 h5 => ?_, ?_⟩, ?_⟩
  · rw [lookup_putF, if_neg (by decide +kernel), lookup_putF, if_neg (by decide +kernel), lookup_putF, if_neg (by decide +kernel), lookup_putF, if_neg (by decide +kernel), lookup_putF, if_pos rfl]
  · rw [lookup_putF, if_neg (by decide +kernel), lookup_putF, if_neg (by decide +kernel), lookup_putF, if_neg (by decide +kernel), lookup_putF, if_pos rfl]
  · rw [lookup_putF, if_neg (by decide +kernel), lookup_putF, if_neg (by decide +kernel), lookup_putF, if_pos rfl]
  · rw [lookup_putF, if_neg (by decide +kernel), lookup_putF, if_pos rfl]
  · rw [lookup_putF, if_pos rfl]
  · rw [lookup_putF, if_neg h5, lookup_putF, if_neg h4, lookup_putF, if_neg h3, lookup_putF, if_neg h2, lookup_putF, if_neg h1]
    rfl
  all_goals
    have q1 := putF_len "size" (.int n) []
    have q2 := putF_len "_lengths" (.ref l) (putF "size" (.int n) [])
    have q3 := putF_len "_yard_marks" (.ref y) (putF "_lengths" (.ref l) (putF "size" (.int n) []))
    have q4 := putF_len "_east" (.ref e) (putF "_yard_marks" (.ref y) (putF "_lengths" (.ref l) (putF "size" (.int n) [])))
    have q5 := putF_len "_west" (.ref w) (putF "_east" (.ref e) (putF "_yard_marks" (.ref y) (putF "_lengths" (.ref l) (putF "size" (.int n) []))))
    rw [List.length_nil] at q1
    omega
theorem FLd.putE {fs : List (Str × V)} {n : Int} {l y e w e2 : Addr} (h : FLd fs n l y e w) (hl : fs.length ≤ 19) : FLd (putF "_east" (.ref e2) fs) n l y e2 w := by
  refine ⟨?_, ?_, ?_, ?_, ?_, fun m h1 h2 h3 h4 h5 => ?_, ?_⟩
  · rw [lookup_putF, if_neg (by decide +kernel)]; exact h.size
  · rw [lookup_putF, if_neg (by decide +kernel)]; exact h.lens
  · rw [lookup_putF, if_neg (by decide +kernel)]; exact h.marks
  · rw [lookup_putF, if_pos rfl]
  · rw [lookup_putF, if_neg (by decide +kernel)]; exact h.west
  · rw [lookup_putF, if_neg h4]; exact h.no m h1 h2 h3 h4 h5
  · have := putF_len "_east" (.ref e2) fs; omega
theorem FLd.putW {fs : List (Str × V)} {n : Int} {l y e w w2 : Addr} (h : FLd fs n l y e w) (hl : fs.length ≤ 19) : FLd (putF "_west" (.ref w2) fs) n l y e w2 := by
  refine ⟨?_, ?_, ?_, ?_, ?_, fun m h1 h2 h3 h4 h5 => ?_, ?_⟩
  · rw [lookup_putF, if_neg (by decide +kernel)]; exact h.size
  · rw [lookup_putF, if_neg (by decide +kernel)]; exact h.lens
  · rw [lookup_putF, if_neg (by decide +kernel)]; exact h.marks
  · rw [lookup_putF, if_neg (by decide +kernel)]; exact h.east
  · rw [lookup_putF, if_pos rfl]
  · rw [lookup_putF, if_neg h5]; exact h.no m h1 h2 h3 h4 h5
  · have := putF_len "_west" (.ref w2) fs; omega
/-- the addresses among values -/
def adrs (vs : List V) : List Addr := vs.filterMap fun v => match v with | .ref a => some a | _ => none
theorem mem_adrs {vs : List V} {a : Addr} : a ∈ adrs vs ↔ V.ref a ∈ vs := by
  unfold adrs
  rw [List.mem_filterMap]
  constructor
  · rintro ⟨v, hv, e⟩
    cases v with
    | ref b =>
      have e2 : b = a := Option.some.inj e
      subst e2
      exact hv
    | _ => cases e
  · intro h
    exact ⟨_, h, rfl⟩
theorem sq_pick {S : List Addr} {G H : Hp} {a : Addr} {xs : List V} (m : a ∈ S) (h : SqL K H a xs) : SqL K (pick S G H) a xs := by
  have e : pick S G H a = H a := pick_in m
  rcases h with (h | ⟨o, h⟩) | h
  · exact .inl (.inl (by rw [e]; exact h))
  · exact .inl (.inr ⟨o, by rw [e]; exact h⟩)
  · exact .inr h
theorem dpa_pick {S : List Addr} {G H : Hp} : ∀ {acc : List V} {ess : List (List Int)}, (∀ a, V.ref a ∈ acc → a ∈ S) → DpAll K H acc (ess.map dI) → DpAll K (pick S G H) acc (ess.map dI)
  | [], [], _, _ => .nil
  | v :: acc, z :: ess, hm, h => by
    cases h with
    | cons h1 h2 =>
      refine .cons ?_ (dpa_pick (fun a m => hm a (List.mem_cons_of_mem _ m)) h2)
      obtain ⟨a, xs, rfl, hs, hd⟩ := dp_lst h1
      rw [dpa_ints_eq hd] at hs
      exact .lst (sq_pick (hm a (List.mem_cons_self ..)) hs) (dpa_ints z)
  | [], _ :: _, _, h => nomatch h
  | _ :: _, [], _, h => nomatch h
theorem sq_upd {H : Hp} {a x : Addr} {o : HO} {xs : List V} (m : a ≠ x) (h : SqL K H a xs) : SqL K (upd H x o) a xs := by
  have e : upd H x o a = H a := upd_ne m
  rcases h with (h | ⟨o, h⟩) | h
  · exact .inl (.inl (by rw [e]; exact h))
  · exact .inl (.inr ⟨o, by rw [e]; exact h⟩)
  · exact .inr h
theorem dpa_upd {H : Hp} {x : Addr} {o : HO} : ∀ {acc : List V} {ess : List (List Int)}, (∀ a, V.ref a ∈ acc → a ≠ x) → DpAll K H acc (ess.map dI) → DpAll K (upd H x o) acc (ess.map dI)
  | [], [], _, _ => .nil
  | v :: acc, z :: ess, hm, h => by
    cases h with
    | cons h1 h2 =>
      refine .cons ?_ (dpa_upd (fun a m => hm a (List.mem_cons_of_mem _ m)) h2)
      obtain ⟨a, xs, rfl, hs, hd⟩ := dp_lst h1
      rw [dpa_ints_eq hd] at hs
      exact .lst (sq_upd (hm a (List.mem_cons_self ..)) hs) (dpa_ints z)
  | [], _ :: _, _, h => nomatch h
  | _ :: _, [], _, h => nomatch h
end
end Lw
set_option Elab.async false
set_option linter.all false
set_option maxRecDepth 100000
set_option maxHeartbeats 4000000
/-! ints of any size, types, sameness -/
namespace Lw
open PySem L2
open Evl (Ex)
def rAbsI : List V → Hp → VK → Prop := fun xs H Q => ∃ i, xs = [.int i] ∧ Q (.int (if i < 0 then -i else i)) H
def rIntI : List V → Hp → VK → Prop := fun xs H Q => (∃ i, xs = [.int i] ∧ Q (.int i) H) ∨ ∃ k, xs = [.bl k] ∧ Q (.int (if k then 1 else 0)) H
def rMinI : List V → Hp → VK → Prop := fun xs H Q => ∃ i j, xs = [.int i, .int j] ∧ Q (.int (if j < i then j else i)) H
def rIsNone : R2 := fun x y H Q => y = .non ∧ Q (.bl (decide (x = .non))) H
section
variable {K : PySem.W.Frag} {σ : L2.St} {G H : Hp} {ta tb te : TE} {P : VP} {D : Ends} {p q s : Int → Prop}
theorem ei_abs (ha : EF ta σ G (IV p)) : EF (tCB rAbsI (tCons ta tNil)) σ G (IV fun _ => True) := fun H e Q k => ha H e _ fun x G1 H1 g1 ⟨z, ez, _⟩ => ⟨z, by rw [ez], k _ G1 H1 g1 ⟨_, rfl, trivial⟩⟩
theorem ei_int (ha : EF ta σ G (IV p)) : EF (tCB rIntI (tCons ta tNil)) σ G (IV p) := fun H e Q k => ha H e _ fun x G1 H1 g1 ⟨z, ez, hz⟩ => .inl ⟨z, by rw [ez], k _ G1 H1 g1 ⟨_, rfl, hz⟩⟩
theorem ei_min (ha : EF ta σ G (IV p)) (hb : EF tb σ G (IV q)) (h : ∀ a b, p a → q b → s (if b < a then b else a)) : EF (tCB rMinI (tCons ta (tCons tb tNil))) σ G (IV s) := fun H e Q k => (ea_two mo_IV mo_IV ha hb) H e _ fun vs G1 H1 g1 ⟨x, y, ev, ⟨a, ea, pa⟩, ⟨b, eb, pb⟩⟩ =>
  ⟨a, b, by rw [ev, ea, eb], k _ G1 H1 g1 ⟨_, rfl, h a b pa pb⟩⟩
theorem ei_mod {n : Int} (ha : EF ta σ G (IV p)) (hb : EF tb σ G (IV (· = n))) (hn : 0 < n) (h : ∀ a, p a → s (a % n)) : EF (tOp (rI (fun _ j => 0 < j) fun i j => .int (i % j)) ta tb) σ G (IV s) :=
  ei_opC ha hb (fun a b _ hb => by rw [hb]; exact hn) fun a b G' pa pb => ⟨_, rfl, by rw [pb]; exact h a pa⟩
theorem ei_div {n : Int} (ha : EF ta σ G (IV p)) (hb : EF tb σ G (IV (· = n))) (hn : 0 < n) (hm : n < 1000000) (h : ∀ a, p a → s (a / n)) : EF (tOp (rI CDiv fun i j => .int (i / j)) ta tb) σ G (IV s) :=
  ei_opC ha hb (fun a b _ hb => by rw [hb]; exact ⟨hn, by omega⟩) fun a b G' pa pb => ⟨_, rfl, by rw [pb]; exact h a pa⟩
theorem ei_mul (ha : EF ta σ G (IV p)) (hb : EF tb σ G (IV q)) (hc : ∀ a, p a → -1000000000000 < a ∧ a < 1000000000000) (h : ∀ a b, p a → q b → s (a * b)) : EF (tOp (rI CMul fun i j => .int (i * j)) ta tb) σ G (IV s) :=
  ei_opC ha hb (fun a b pa _ => .inl (by have := hc a pa; omega)) fun a b G' pa pb => ⟨_, rfl, h a b pa pb⟩
/-- a comparison of ints -/
theorem ec_int {f : Int → Int → Bool} {s : Bool → Prop} (ha : EF ta σ G (IV p)) (hb : EF tb σ G (IV q)) (h : ∀ a b, p a → q b → s (f a b)) : EF (tOp (rI0 fun i j => .bl (f i j)) ta tb) σ G (BV s) := ei_op0 ha hb fun a b _ pa pb => ⟨_, rfl, h a b pa pb⟩
theorem EF.ivp {z : Int} (h : EF te σ G (XV (.int z))) (hz : p z) : EF te σ G (IV p) := h.imp fun v _ _ e => ⟨z, e, hz⟩
/-- a call whose arguments are ints -/
theorem ei_draw {E : XK} {tc tk tn : TE} {n : Int} (hc : EF tc σ G (IV fun _ => True)) (hk : EF tk σ G (IV fun z => 0 ≤ z ∧ z ≤ 2000)) (hn : EF tn σ G (IV (· = n))) (h1 : 1 ≤ n) (h2 : n ≤ 2000) : EF (tCall spDraw [] E (tCons tc (tCons tk (tCons tn tNil)))) σ G (IV fun z => 0 ≤ z ∧ z < n) :=
  ef_call (ea_three mo_IV mo_IV mo_IV hc hk hn) fun vs G' _ ⟨x, y, z, ev, ⟨a, ea, _⟩, ⟨b, eb, hb⟩, ⟨c, ec, hc⟩⟩ => by
    subst ev ea eb ec
    subst hc
    exact sa_draw hb.1 hb.2 h1 h2
/-! what a value's type is -/
inductive Ki where | i | s | l | t
def nameK : Ki → String | .i => "int" | .s => "str" | .l => "list" | .t => "tuple"
def kiOf : PyData → Option Ki | .int _ => some .i | .str _ => some .s | .list _ => some .l | .tuple _ => some .t | _ => none
theorem ty_sl {a : Addr} {xs : List V} (h : SqL K G a xs) : TyX K G (.ref a) (.type "list") := by
  rcases h with (h | ⟨o, h⟩) | ⟨o, its, n, h1, h2, _⟩
  · exact .base (.lst h)
  · exact .base (.frz h)
  · exact .kList h1 h2
theorem ty_st {a : Addr} {xs : List V} (h : SqT K G a xs) : TyX K G (.ref a) (.type "tuple") := by
  rcases h with (h | ⟨o, h⟩) | ⟨o, its, n, h1, h2, _⟩
  · exact .base (.tup h)
  · exact .fTuple h
  · exact .kTuple h1 h2
theorem ty_of {v : V} {d : PyData} {k : Ki} (h : Dp K G v d) (hk : kiOf d = some k) : TyX K G v (.type (nameK k)) := by
  cases h with
  | non => cases hk
  | bl b => cases hk
  | int z => cases hk; exact .base (.int z)
  | str z => cases hk; exact .base (.str z)
  | lst hs _ => cases hk; exact ty_sl hs
  | tup hs _ => cases hk; exact ty_st hs
theorem ex_isi {v : V} {d : PyData} {k : Ki} {c : String} {r : Bool} (ha : EF ta σ G (XV v)) (hb : EF tb σ G (XV (.ty c))) (hd : Dp K G v d) (hk : kiOf d = some k) (hr : kitB (nameK k) c = some r) : EF (tCB (rIsi K) (tCons ta (tCons tb tNil))) σ G (XV (.bl r)) :=
  ef_cb (ea_two mo_XV mo_XV ha hb) fun vs G' e ⟨x, y, ev, hx, hy⟩ => by
    subst ev
    cases (show x = v from hx)
    cases (show y = .ty c from hy)
    exact fun H e2 Q q => ⟨v, .ty c, _, _, r, rfl, .ty c, ty_of (dpx hd (e.trans e2)) hk, kit_ty hr, q _ G' H (.refl e2) rfl⟩
theorem ex_isN {v : V} (ha : EF ta σ G (XV v)) (hb : EF tb σ G (XV .non)) : EF (tOp rIsNone ta tb) σ G (XV (.bl (decide (v = .non)))) := ef_op mo_XV mo_XV ha hb fun x y G' _ hx hy => by
  cases (show x = v from hx)
  cases (show y = .non from hy)
  exact fun H e Q k => ⟨rfl, k _ G' H (.refl e) rfl⟩
theorem ex_isC {v : V} {c : Bool} (ha : EF ta σ G (XV v)) (hb : EF tb σ G (XV (.bl c))) : EF (tOp (rIsC c) ta tb) σ G (XV (.bl (decide (v = .bl c)))) := ef_op mo_XV mo_XV ha hb fun x y G' _ hx hy => by
  cases (show x = v from hx)
  cases (show y = .bl c from hy)
  exact fun H e Q k => ⟨rfl, k _ G' H (.refl e) rfl⟩
theorem dp_not {v : V} {d : PyData} {k : Ki} (h : Dp K G v d) (hk : kiOf d = some k) : v ≠ .non ∧ ∀ b, v ≠ .bl b := by
  cases h with
  | non => cases hk
  | bl b => cases hk
  | int z => exact ⟨(fun z => nomatch z), (fun b z => nomatch z)⟩
  | str z => exact ⟨(fun z => nomatch z), (fun b z => nomatch z)⟩
  | lst hs _ => exact ⟨(fun z => nomatch z), (fun b z => nomatch z)⟩
  | tup hs _ => exact ⟨(fun z => nomatch z), (fun b z => nomatch z)⟩
/-- a list or a tuple -/
def SqA (K : PySem.W.Frag) (G : Hp) (v : V) (xs : List V) : Prop := ∃ a, v = .ref a ∧ (SqL K G a xs ∨ SqT K G a xs)
theorem SqA.ex {G' : Hp} {v : V} {xs : List V} (h : SqA K G v xs) (e : Ex G G') : SqA K G' v xs := by
  obtain ⟨a, rfl, h⟩ := h
  exact ⟨a, rfl, h.elim (fun h => .inl (Evl.ex_l e h)) fun h => .inr (Evl.ex_t e h)⟩
theorem ex_lenA {v : V} {xs : List V} (ha : EF ta σ G (XV v)) (hs : SqA K G v xs) : EF (tCB (Evl.rLenS K) (tCons ta tNil)) σ G (XV (.int (xs.length : Int))) := fun H e Q q => ha H e _ fun x G1 H1 g1 p => by
  cases (show x = v from p)
  obtain ⟨a, rfl, h⟩ := hs.ex (g1.up.trans g1.ok)
  exact ⟨a, xs, rfl, h, q _ G1 H1 g1 rfl⟩
theorem ex_ixA {v : V} {xs : List V} {i : Nat} {u : V} (ha : EF ta σ G (XV v)) (hb : EF tb σ G (XV (.int (i : Int)))) (hs : SqA K G v xs) (hu : xs[i]? = some u) : EF (tOp (rIx K) ta tb) σ G (XV u) := ef_op mo_XV mo_XV ha hb fun x y G' e1 hx hy => by
  cases (show x = v from hx)
  cases (show y = .int (i : Int) from hy)
  refine fun H e Q k => ?_
  obtain ⟨a, rfl, h⟩ := hs.ex (e1.trans e)
  rcases h with h | h
  · exact .inl ⟨a, xs, _, u, rfl, rfl, h, atI_of rfl hu, k _ G' H (.refl e) rfl⟩
  · exact .inr (.inl ⟨a, xs, _, u, rfl, rfl, h, atI_of rfl hu, k _ G' H (.refl e) rfl⟩)
end
end Lw
set_option Elab.async false
set_option linter.all false
set_option maxRecDepth 100000
set_option maxHeartbeats 4000000
/-! how many of a list of pairs have this number; drawn lists -/
namespace Lw
open PySem L2
open Evl (Ex)
section
variable {K : PySem.W.Frag} {σ : L2.St} {G H : Hp} {ta tb te tl : TE} {P : VP}
/-- the state of the loops that draw joints: p the list -/
def JSt (K : PySem.W.Frag) (G1 H1 H' : Hp) (p : Addr) (n : Int) (parks : List Int) (most : Nat) (R : List (Int × Int) → Prop) : Prop := ∃ G' xs js, Gr G1 G' H1 H' ∧ G' p = none ∧ H' p = some (.lst xs) ∧ DpAll K G' xs (js.map dP) ∧ JOk n parks js ∧ js.length ≤ most ∧ R js
theorem JSt.up {G1 H1 H' H2 : Hp} {p : Addr} {n : Int} {parks : List Int} {m m' : Nat} {R R' : List (Int × Int) → Prop} (h : JSt K G1 H1 H' p n parks m R) (e : Ex H' H2) (hm : m ≤ m') (hR : ∀ js, R js → R' js) : JSt K G1 H1 H2 p n parks m' R' := by
  obtain ⟨G', xs, js, g, gp, hp, hx, hj, hl, r⟩ := h
  exact ⟨G', xs, js, g.then e, gp, e _ _ hp, hx, hj, Nat.le_trans hl hm, hR js r⟩
theorem Gr.put {G G' H H' : Hp} {p : Addr} {o : HO} (g : Gr G G' H H') (hp : H p = none) (gp : G' p = none) : Gr G G' H (upd H' p o) := ⟨g.up, ex_off g.ok gp, ex_off g.hp hp, g.2.2.2⟩
end
end Lw
set_option Elab.async false
set_option linter.all false
set_option maxRecDepth 100000
set_option maxHeartbeats 4000000
/-! sorted of pairs by what they are; a new layout; a call by keywords -/
namespace Lw
open PySem L2
open Evl (Ex)
open PyProof.Rows
section
variable {K : PySem.W.Frag} {σ : L2.St} {G H : Hp} {ta tb te tc td : TE} {P : VP}
theorem Gr.low {G G' H H2 H' : Hp} (g : Gr G G' H2 H') (e : Ex H H2) : Gr G G' H H' := ⟨g.up, g.ok, e.trans g.hp, fun a h ga => g.2.2.2 a (exNe e h) ga⟩
theorem ef_callK0 {sp : Sp} {gV : List V → List V → List V} {E : XK} {tk : TA} {R : List V → Hp → Prop} (h : EA tk σ G R) (hr : ∀ zs G', Ex G G' → R zs G' → SA sp (gV [] zs) G' P) : EF (tCallK sp gV E tNil tk) σ G P := fun H e Q q =>
  h H e _ fun zs G1 H1 g1 p1 => hr zs G1 g1.up p1 H1 g1.ok Q E fun v G2 H2 g2 p2 => q v G2 H2 (g1.trans g2) p2
end
end Lw
set_option Elab.async false
set_option linter.all false
set_option maxRecDepth 100000
set_option maxHeartbeats 4000000
/-! ends as lists, the other branch, triples -/
namespace Lw
open PySem L2
open Evl (Ex)
section
variable {K : PySem.W.Frag} {C : Addr}
def ends (js : List (Int × Int)) (b : Int) (c : Bool) : List Int := if c = true then eo js b else wo js b
end
end Lw
set_option Elab.async false
set_option linter.all false
set_option maxRecDepth 100000
set_option maxHeartbeats 4000000
/-! list(reversed(a list)) -/
namespace Lw
open PySem PySem.Spec PyProof.Rows L2
open Evl (Ex)
section
variable {prog : Program} {w : World} {A : Around} {E : Value → Shared → Prop} {s : Shared}
theorem rev_extend {R : Result → Shared → Prop} {it l S : Addr} {items : Array Value} (hh : A.handled = none) (hit : s.heap.IsRevIter it l ((items.size : Int) - 1)) (hl : s.heap.IsList l items) (hne : l ≠ it) (hn : items.size ≤ sizeLine) (hSi : S ≠ it) (hSl : S ≠ l) (res : Value) (c₀ : Nat)
    (hS : s.heap.get? S = some { cls := .type "list", data := .seq #[] c₀ })
    (hR : ∀ h' tk acc' c', (∀ b o, b ≠ S → b ≠ it → s.heap.get? b = some o → h'.get? b = some o) → h'.get? S = some { cls := .type "list", dict := none, data := .seq acc' c', slots := #[] } → ItemsOf (fun i v => items[items.size - 1 - i]? = some v) acc' items.size → R (.ok (.ret res)) { s with heap := h', toks := tk }) :
    wpAny (model prog w) A.in1 (Builtin.List.listExtendWith (.ref S) (.ref it) res)
      (fun fin s' => match fin with | .done f => R (.ok f) s' | .again c' => c'.quiet = true ∧ codeAny (model prog w) A c' R s') (fun e s' => R (.error e) s') s := by
  have W := (Walks.listRev (prog := prog) (w := w) (A := A.in1) hh it l hne items).toS
  have hSf : S ∉ [it, l] := by simp only [List.mem_cons, List.not_mem_nil, or_false, not_or]; exact ⟨hSi, hSl⟩
  have hT : s.TypeIs (.ref it) "list_reverseiterator" := Heap.IsRevIter.typeIs hit
  have h1 : Builtin.List.listSameRef (.ref S) (.ref it) = false := by simp [Builtin.List.listSameRef, hSi]
  unfold Builtin.List.listExtendWith
  refine wpAny_bind (wpAny_typeOf hT ?_)
  rw [if_neg (by rw [h1]; decide)]
  refine wpAny_bind (wpAny_pyIter_revIter hit ?_)
  refine wpAny_bind (wpAny_holding ?_)
  unfold Builtin.List.listLengthHint
  refine wpAny_bind (wpAny_specialOf hT RT.nolen_lri ?_)
  show wpAny _ A.in1 (specialOf (Value.ref it) (Str.ofString "__length_hint__") >>= _) _ _ _
  refine wpAny_bind (wpAny_specialOf hT RT.hint_lri ?_)
  generalize hid : ("list_reverseiterator.__length_hint__" : String) = id0
  wp_delta
  rw [show splitId id0 = some ("list_reverseiterator", "__length_hint__") from by subst hid; decide +kernel]
  subst hid
  refine wpAny_bind (wpAny_isInstance (b := true) hT (by rw [isSubtype_type]; kernel_rfl) ?_)
  refine wpAny_pure ?_
  rw [if_neg (by decide)]
  have e0 : ((items.size : Nat) : Int) - 1 - ((0 : Nat) : Int) = (items.size : Int) - 1 := by omega
  refine wpAny_pure ⟨plainId_quiet F.plain_extend_loop _, codeAny_extend_loopS W hn _ hSf _ items.size 0 _ _ _ rfl (Nat.zero_le _) ⟨Nat.zero_le _, by rw [e0]; exact hit, hl⟩ hS (ItemsOf.nil _) fun s' acc' c' hm hS' hacc => ?_⟩
  rw [Moved.eq_with hm]
  refine hR s'.heap s'.toks acc' c' (fun b o hb hb2 e => hm.heap b o (fun hmem => ?_) e) hS' hacc
  rcases List.mem_cons.mp hmem with e' | hmem
  · exact hb e'
  · exact hb2 (List.mem_singleton.mp hmem)
theorem rev_init {R : Result → Shared → Prop} {it l S : Addr} {items : Array Value} (hh : A.handled = none) (hit : s.heap.IsRevIter it l ((items.size : Int) - 1)) (hl : s.heap.IsList l items) (hne : l ≠ it) (hn : items.size ≤ sizeLine) (hSi : S ≠ it) (hSl : S ≠ l)
    (hS : s.heap.get? S = some { cls := .type "list", data := .seq #[] })
    (hR : ∀ h' tk acc' c', (∀ b o, b ≠ S → b ≠ it → s.heap.get? b = some o → h'.get? b = some o) → h'.get? S = some { cls := .type "list", dict := none, data := .seq acc' c', slots := #[] } → ItemsOf (fun i v => items[items.size - 1 - i]? = some v) acc' items.size → R (.ok (.ret .none)) { s with heap := h', toks := tk }) :
    wpAny (model prog w) A.in1 (Builtin.«list.__init__» ⟨[.ref S, .ref it], []⟩)
      (fun fin s' => match fin with | .done f => R (.ok f) s' | .again c' => c'.quiet = true ∧ codeAny (model prog w) A c' R s') (fun e s' => R (.error e) s') s := by
  show wpAny _ _ (do let old ← Builtin.List.listItems (.ref S); Builtin.List.listUpdate (.ref S) (fun _ => #[]); letGo old.toList.reverse; Builtin.List.listExtendWith (.ref S) (.ref it) .none) _ _ s
  refine wpAny_bind ?_
  unfold Builtin.List.listItems
  refine wpAny_bind (wpAny_seqItems hS rfl (wpAny_pure ?_))
  show wpAny _ _ (updateSeq S (fun _ => #[]) >>= fun _ => letGo (#[] : Array Value).toList.reverse >>= fun _ => Builtin.List.listExtendWith (.ref S) (.ref it) .none) _ _ s
  refine wpAny_bind (wpAny_updateSeq hS rfl ?_)
  have hS₂ := Heap.get?_update_self (Obj.mapSeq (fun _ => (#[] : Array Value))) hS rfl
  have oth : ∀ b o, b ≠ S → s.heap.get? b = some o → (s.heap.update S (Obj.mapSeq (fun _ => (#[] : Array Value)))).get? b = some o :=
    fun b o hb e => (Heap.get?_update_other _ _ (Ne.symm hb)).trans e
  refine wpAny_bind (wpAny_letGo ?_)
  obtain ⟨ol, hol, c1, c2⟩ := id hl
  refine rev_extend hh (hit.at fun o e => oth it o (Ne.symm hSi) e) ⟨ol, oth l ol (Ne.symm hSl) hol, c1, c2⟩ hne hn hSi hSl .none _ hS₂ (fun h' tk acc' c' hk hS' hacc => ?_)
  exact hR h' tk acc' c' (fun b o hb hb2 e => hk b o hb hb2 (oth b o hb e)) hS' hacc
theorem call_list_rev {it l : Addr} {items : Array Value} {Q : Value → Shared → Prop} (hh : A.handled = none) (hit : s.heap.IsRevIter it l ((items.size : Int) - 1)) (hl : s.heap.IsList l items) (hne : l ≠ it) (hn : items.size ≤ sizeLine)
    (hQ : ∀ (h' : Heap) (tk : Nat) (acc : Array Value) c', (∀ b o, b ≠ it → s.heap.get? b = some o → h'.get? b = some o) → h'.get? s.heap.objs.size = some { cls := .type "list", dict := none, data := .seq acc c', slots := #[] } → ItemsOf (fun i v => items[items.size - 1 - i]? = some v) acc items.size →
      Q (.ref s.heap.objs.size) { s with heap := h', toks := tk }) :
    wpAny (model prog w) A (call (.type "list") [.ref it]) Q E s := by
  refine callType_codes (Q₁ := fun obj s₁ => obj = .ref s.heap.objs.size ∧ s₁ = { s with heap := s.heap.push { cls := .type "list", data := .seq #[] } }) PySem.F.called_list (PySem.F.typeCall_list_1 _) PySem.F.entry_list_init
    (code_list_new _ ⟨rfl, rfl⟩) fun obj s₁ h₁ => ?_
  obtain ⟨rfl, rfl⟩ := h₁
  have hS : (s.heap.push { cls := .type "list", data := .seq #[] }).get? s.heap.objs.size = some { cls := .type "list", data := .seq #[] } := Heap.get?_push_size _ rfl
  obtain ⟨oi, hoi, _⟩ := id hit
  obtain ⟨ol, hol, _⟩ := id hl
  refine ⟨⟨_, hS, rfl⟩, PySem.F.args_list_init_2 _ _, rev_init (A := A.in1) hh (hit.at fun o e => Heap.get?_push_of_some _ e) (hl.push _) hne hn (Nat.ne_of_gt (Heap.lt_size hoi)) (Nat.ne_of_gt (Heap.lt_size hol)) hS (fun h' tk acc' c' hk hS' hacc => ?_)⟩
  exact ⟨rfl, hQ h' tk acc' c' (fun b o hb e => hk b o (Nat.ne_of_lt (Heap.lt_size e)) hb (Heap.get?_push_of_some _ e)) hS' hacc⟩
end
/-- list(reversed(x)), x a list: a new list -/
def tLstRev (K : PySem.W.Frag) (te : TE) : TE := fun σ H Q => te σ H fun v H1 => ∃ (a : Addr) (xs : List V), v = .ref a ∧ SqL K H1 a xs ∧ ∀ q, H1 q = none → Q (.ref q) (upd H1 q (.lst xs.reverse))
section
variable {X : Cx}
theorem pe_lstRev {e : Expr} {te : TE} {p p2 pos pos2 : Pos} (hc : X.calm = true) (hg : Gl X "list") (hm : X.mg "list" = none) (hg2 : Gl X "reversed") (hm2 : X.mg "reversed" = none) (he : PE X e te)
    (hs : starEach [e] X.env = (false, eval e X.env) :: starEach [] X.env := by rfl)
    (hs2 : starEach [.Call (.Name "reversed" p2) [e] [] pos2] X.env = (false, eval (.Call (.Name "reversed" p2) [e] [] pos2) X.env) :: starEach [] X.env := by rfl) :
    PE X (.Call (.Name "list" p) [.Call (.Name "reversed" p2) [e] [] pos2] [] pos) (tLstRev X.K te) := by
  refine ⟨fun pins s σ H Q I h => ?_⟩
  refine Call_ (ld_blt I hg hm boot_list (PyProof.Rows.callWith_type1 (args_cons (Call_ (ld_blt I hg2 hm2 PyProof.Rows.boot_reversed (PyProof.Rows.callWith_type1 (args_cons (thn (he.run pins s σ H _ I h) fun u s1 ⟨v, H1, I1, r1, q1⟩ => args_nil ?_) hs) hs rfl))) hs2) hs2 rfl))
  obtain ⟨a, xs, ev, hq, q⟩ := q1
  subst ev
  obtain rfl : u = Value.ref a := r1
  obtain ⟨its, rv, p', hz⟩ := I1.list hq
  refine call_reversed_list p'.isList (args_nil ?_)
  have k0 : ∀ b o, s1.heap.get? b = some o → (s1.heap.push (revObj a ((its.toArray.size : Int) - 1))).get? b = some o := fun b o e => Heap.get?_push_of_some _ e
  have hl := p'.isList
  obtain ⟨ol, hol, _⟩ := id hl
  have hne : a ≠ s1.heap.objs.size := Nat.ne_of_lt (Heap.lt_size hol)
  have hn : its.toArray.size ≤ sizeLine := by rw [List.size_toArray, ← rv.length]; exact hz
  refine call_list_rev (s := { s1 with heap := s1.heap.push (revObj a ((its.toArray.size : Int) - 1)) }) (I1.ok.hd hc) ⟨_, Heap.get?_push_size _ rfl, rfl, rfl⟩ (hl.push _) hne hn fun h' tk acc c' hk hS hi => ?_
  have hs1 : ∀ b o, s1.heap.get? b = some o → h'.get? b = some o := fun b o e => hk b o (Nat.ne_of_lt (Heap.lt_size e)) (Heap.get?_push_of_some _ e)
  have hle : s1.heap.objs.size ≤ (s1.heap.push (revObj a ((its.toArray.size : Int) - 1))).objs.size := by rw [Heap.size_push]; omega
  refine ⟨.ref (s1.heap.push (revObj a ((its.toArray.size : Int) - 1))).objs.size, upd H1 (s1.heap.push (revObj a ((its.toArray.size : Int) - 1))).objs.size (.lst xs.reverse), I1.laid (t' := tk) hs1 hle ⟨by rw [List.length_reverse]; exact hz, acc.toList, c', RT.vals_rev rv hi, ?_⟩, rfl, q _ (I1.hok.fresh hle)⟩
  rw [Array.toArray_toList]
  exact hS
end
end Lw
set_option Elab.async false
set_option linter.all false
set_option maxRecDepth 100000
set_option maxHeartbeats 4000000
/-! sorted of triples (int, "east" or "west", int) -/
namespace Lw
open PySem L2
open Evl (Ex)
open PyProof.Rows
abbrev T3 := Int × Bool × Int
def dT3 (t : T3) : PyData := dTr t.1 (sd t.2.1) t.2.2
def k3 (t : T3) : Int := 2 * t.1 + (if t.2.1 = true then 0 else 1)
section
variable {prog : Program} {w : World} {A : Around} {E : Value → Shared → Prop} {s : Shared}
def IsT3 (h : Heap) (v : Value) (x : T3) : Prop := ∃ a o t u z m, v = .ref a ∧ h.get? a = some o ∧ o.cls = .type "tuple" ∧ o.data = .seq #[.int x.1 t, .str (sd x.2.1) u, .int x.2.2 z] m
theorem IsT3.keeps {h h' : Heap} {v : Value} {x : T3} (p : IsT3 h v x) (k : ∀ b o, h.get? b = some o → o.cls = .type "tuple" → h'.get? b = some o) : IsT3 h' v x := by
  obtain ⟨a, o, t, y, z, m, e, ho, hc, hd⟩ := p
  exact ⟨a, o, t, y, z, m, e, k a o ho hc, hc, hd⟩
end
end Lw
set_option Elab.async false
set_option linter.all false
set_option maxRecDepth 100000
set_option maxHeartbeats 4000000
/-! what the flanks demand -/
namespace Lw
open PySem L2
open Evl (Ex)
/-- the other of two -/
def oth (l : List Int) (b : Int) : Int := (l.filter fun z => decide (z ≠ b)).headD 0
/-- what one demand at a joint asks of a flank -/
def fl1 (parks : List Int) (js : List (Int × Int)) (way : List Int) (t : T3) : List T3 :=
  let o := oth (ends js t.1 t.2.1) t.2.2
  if isPt parks js o (!t.2.1) = true then
    (let a := oth (ends js o (!t.2.1)) t.1
    if o ∉ way ∧ a ∉ way then [(o, !t.2.1, a)] else [])
  else []
/-! what the law's own rows are -/
def rowW (parks : List Int) (js : List (Int × Int)) (way : List Int) (w e : Int) (p : Int × Int) : List T3 :=
  if p.1 = w ∧ p.2 ≠ e ∧ w ∉ parks ∧ p.2 ∉ parks then js.flatMap (fun q => if q.2 = p.2 ∧ q.1 ≠ w ∧ p.2 ∉ way ∧ q.1 ∉ way then [(p.2, false, q.1)] else []) else []
def rowE (parks : List Int) (js : List (Int × Int)) (way : List Int) (w e : Int) (p : Int × Int) : List T3 :=
  if p.2 = e ∧ p.1 ≠ w ∧ e ∉ parks ∧ p.1 ∉ parks then js.flatMap (fun q => if q.1 = p.1 ∧ q.2 ≠ e ∧ p.1 ∉ way ∧ q.2 ∉ way then [(p.1, true, q.2)] else []) else []
def rows (parks : List Int) (js : List (Int × Int)) (way : List Int) (w e : Int) : List T3 := js.flatMap fun p => rowW parks js way w e p ++ rowE parks js way w e p
end Lw
set_option Elab.async false
set_option linter.all false
set_option maxRecDepth 100000
set_option maxHeartbeats 4000000
/-! promises of the flanks -/
namespace Lw
open PySem L2
open Evl (Ex)
end Lw
set_option Elab.async false
set_option linter.all false
set_option maxRecDepth 100000
set_option maxHeartbeats 4000000
/-! rows that a loop over joints makes -/
namespace Lw
open PySem L2
open Evl (Ex)
section
variable {K : PySem.W.Frag} {σ : L2.St} {G G' H H' : Hp} {ta tb te tc td tl : TE} {t u : TT} {P : VP} {D : Ends} {tu : TS}
def RSt (K : PySem.W.Frag) (G H H' : Hp) (q : Addr) (L : List T3) : Prop := ∃ G' vs, Gr G G' H H' ∧ G' q = none ∧ H' q = some (.lst vs) ∧ DpAll K G' vs (L.map dT3)
theorem RSt.ok {H1 : Hp} {q : Addr} {L : List T3} (h : RSt K G H H1 q L) : Ex G H1 := by
  obtain ⟨G', vs, g, _⟩ := h
  exact g.up.trans g.ok
theorem RSt.up {H1 H2 : Hp} {q : Addr} {L : List T3} (h : RSt K G H H1 q L) (e : Ex H1 H2) : RSt K G H H2 q L := by
  obtain ⟨G', vs, g, gq, hq, hd⟩ := h
  exact ⟨G', vs, g.then e, gq, e _ _ hq, hd⟩
theorem et_eqI {a b : Int} (ha : EF ta σ G (XV (.int a))) (hb : EF tb σ G (XV (.int b))) : ET (tTest (tOp rEq ta tb)) σ G (· = decide (a = b)) := et_test (ei_eq (EF.iv ha) (EF.iv hb) fun x y hx hy => by rw [hx, hy])
theorem et_neI {a b : Int} (ha : EF ta σ G (XV (.int a))) (hb : EF tb σ G (XV (.int b))) : ET (tTest (tOp rNe ta tb)) σ G (· = !decide (a = b)) := et_test (ei_ne (EF.iv ha) (EF.iv hb) fun x y hx hy => by rw [hx, hy])
end
end Lw
set_option Elab.async false
set_option linter.all false
set_option maxRecDepth 100000
set_option maxHeartbeats 4000000
/-! ways -/
namespace Lw
open PySem L2
open Evl (Ex)
/-- without what is known of q -/
def dropA (G : Hp) (q : Addr) : Hp := fun a => if a = q then none else G a
theorem dropA_ne {G : Hp} {q a : Addr} (h : a ≠ q) : dropA G q a = G a := if_neg h
theorem dropA_same {G : Hp} {q : Addr} : dropA G q q = none := if_pos rfl
section
variable {K : PySem.W.Frag} {σ : L2.St} {G G' H H' : Hp} {ta tb te tc td tl : TE} {t u : TT} {P : VP} {D : Ends} {tu : TS}
theorem atI_last {xs : List V} {v : V} (h : xs[xs.length - 1]? = some v) : atI xs (-1) = some v := by
  have hl := (List.getElem?_eq_some_iff.mp h).1
  unfold atI ixN
  rw [if_neg (by omega), if_pos (by omega)]
  show xs[((-1 : Int) + (xs.length : Int)).toNat]? = some v
  have e : ((-1 : Int) + (xs.length : Int)).toNat = xs.length - 1 := by omega
  rw [e]
  exact h
theorem ex_ixLast {a : Addr} {xs : List V} {v : V} (ha : EF ta σ G (XV (.ref a))) (hb : EF tb σ G (XV (.int (-1)))) (hs : SqL K G a xs) (hv : xs[xs.length - 1]? = some v) : EF (tOp (rIxL K) ta tb) σ G (XV v) :=
  ef_op mo_XV mo_XV ha hb fun x y G' e1 pa pb => by
    cases (show x = .ref a from pa)
    cases (show y = .int (-1) from pb)
    exact fun H e Q k => ⟨a, xs, -1, v, rfl, rfl, Evl.ex_l (e1.trans e) hs, atI_last hv, k v G' H (.refl e) rfl⟩
theorem ef_lstRev {a : Addr} {xs : List V} (ha : EF ta σ G (XV (.ref a))) (hs : SqL K G a xs) : EF (tLstRev K ta) σ G fun v G' => ∃ p, v = .ref p ∧ G p = none ∧ G' p = some (.lst xs.reverse) := fun H e Q q => ha H e _ fun x G1 H1 g1 p => by
  cases (show x = .ref a from p)
  exact ⟨a, xs, rfl, Evl.ex_l (g1.up.trans g1.ok) hs, fun p2 h2 => q _ _ _ (g1.trans (.new g1.ok h2)) ⟨p2, rfl, none_back (g1.up.trans g1.ok) h2, upd_same⟩⟩
end
end Lw
set_option Elab.async false
set_option linter.all false
set_option maxRecDepth 100000
set_option maxHeartbeats 4000000
/-! for the law of the flanks -/
namespace Lw
open PySem L2
open Evl (Ex)
def rMaxI : List V → Hp → VK → Prop := fun xs H Q => ∃ i j, xs = [.int i, .int j] ∧ Q (.int (if j > i then j else i)) H
section
variable {K : PySem.W.Frag} {σ : L2.St} {G G' H H' : Hp} {ta tb te tc td tl : TE} {t u : TT} {P : VP} {D : Ends} {tu : TS}
theorem ex_add {a b : Int} (ha : EF ta σ G (XV (.int a))) (hb : EF tb σ G (XV (.int b))) : EF (tOp (rI0 fun i j => .int (i + j)) ta tb) σ G (XV (.int (a + b))) := ef_op mo_XV mo_XV ha hb fun x y G' _ hx hy => by
  cases (show x = _ from hx)
  cases (show y = _ from hy)
  exact ro_I0 rfl
theorem ex_max {a b z : Int} (ha : EF ta σ G (XV (.int a))) (hb : EF tb σ G (XV (.int b))) (hz : (if b > a then b else a) = z) : EF (tCB rMaxI (tCons ta (tCons tb tNil))) σ G (XV (.int z)) := fun H e Q k => (ea_two mo_XV mo_XV ha hb) H e _ fun vs G1 H1 g1 ⟨x, y, ev, hx, hy⟩ =>
  ⟨a, b, by rw [ev, show x = _ from hx, show y = _ from hy], by rw [hz]; exact k _ G1 H1 g1 rfl⟩
end
end Lw
set_option Elab.async false
set_option linter.all false
set_option maxRecDepth 100000
set_option maxHeartbeats 4000000
/-! errors that are raised -/
namespace Lw
open PySem L2
open Evl (Ex)
/-- a new error of the class at C with these fields is let out -/
def Rse (C : Addr) (fs : List (Str × V)) (G H : Hp) (E : XK) : Prop := ∀ G' H' d, Gr G G' H H' → H' d = none → E (.ref C) (some d) (upd H' d (.xd fs))
/-- an own __init__ that stores one field -/
def spIni1 (C : Addr) (f : Str) : Sp := fun vs H Q _ => ∃ (a : Addr) (y : V), vs = [.ref a, y] ∧ H a = some (exo a C none) ∧ ∀ d, H d = none → d ≠ a → Q .non (upd (upd H d (exd d [(f, y)])) a (exo a C (some d)))
/-- what an own error class must have -/
structure Err (P : Program) (w : World) (K : PySem.W.Frag) (mg : Str → Option Value) (base : Heap) (x : Str) (C fI : Addr) (fd : FuncData) (ps : List Str) (sp : Sp) : Prop where
  cls : OexC K C
  xf : XfC K C
  ini : PySem.W.findIn K (.ref C) "__init__" = some (some (.ref fI))
  tI : PySem.W.typeIn K (.ref fI) = some (.type "function")
  fn : FnOk P w K mg base CX0 1 fI fd ps sp
  bnd : Binds K fd ps []
  gl : mg x = some (.ref C)
section
variable {K : PySem.W.Frag} {C : Addr}
theorem heap_new {H1 : Hp} {a d : Addr} {o1 o2 o3 o4 : HO} (ha : H1 a = none) (hn : d ≠ a) : upd (del (upd (upd (upd H1 a o1) d o2) a o3) a) d o4 = upd H1 d o4 := by
  funext b
  by_cases e : b = d
  · rw [e, upd_same, upd_same]
  · rw [upd_ne e, upd_ne e]
    by_cases e2 : b = a
    · rw [e2, del_same, ha]
    · rw [del_ne e2, upd_ne e2, upd_ne e, upd_ne e2]
/-- raise C(e) -/
theorem mk_one {σ : L2.St} {G H : Hp} {te : TE} {f : Str} {y : V} {Q : XK} (hG : Ex G H) (h : EF te σ G (XV y)) (k : ∀ G' H' d, Gr G G' H H' → H' d = none → Q (.ref C) (some d) (upd H' d (.xd [(f, y)]))) : tMkO C (spIni1 C f) [] (tCons te tNil) σ H Q :=
  (ea_one h) H hG _ fun vs G1 H1 g1 ⟨x, ev, hx⟩ => by
    subst ev
    rw [show x = y from hx]
    refine ⟨by simp, fun a ha => ⟨a, y, rfl, upd_same, fun d hd hn => ⟨rfl, d, [(f, y)], upd_same, ?_, ?_, ?_⟩⟩⟩
    · rw [upd_ne hn]
      exact upd_same
    · rw [upd_ne hn] at hd
      exact hd
    · rw [heap_new ha hn]
      rw [upd_ne hn] at hd
      exact k G1 H1 d g1 hd
/-- check_block, with its error -/
def spCheckX (C CN : Addr) : Sp := fun vs H Q E => ∃ (G : Hp) (p : Addr) (n : Int) (b : Int), Ex G H ∧ vs = [.ref p, .int b] ∧ SizeAt C G p n ∧ (0 ≤ b ∧ b < n → Ret G H (XV .non) Q) ∧ (¬ (0 ≤ b ∧ b < n) → Rse CN [("block", .int b)] G H E)
theorem sa_checkX {CN : Addr} {G : Hp} {p : Addr} {n b : Int} (h : SizeAt C G p n) (h0 : 0 ≤ b) (h1 : b < n) : SA (spCheckX C CN) [.ref p, .int b] G (XV .non) := fun H e Q _ q => ⟨G, p, n, b, e, rfl, h, fun _ => q, fun z => absurd ⟨h0, h1⟩ z⟩
end
section
variable {K : PySem.W.Frag} {σ : L2.St} {G G' H H' : Hp} {ta tb te : TE} {P : VP} {D : Ends}
theorem Rse.up {CN : Addr} {fs : List (Str × V)} {E : XK} {G0 G1 H0 H1 : Hp} (h : Rse CN fs G0 H0 E) (g : Gr G0 G1 H0 H1) : Rse CN fs G1 H1 E := fun G' H' d g' hd => h G' H' d (g.trans g') hd
end
section
variable (P : Program) (w : World) (K : PySem.W.Frag) (mg : Str → Option Value) (base : Heap)
def CalX (x : Str) (k : Nat) (ps : List Str) (sp : Sp) : Prop := ∃ f fd, FnOk P w K mg base (L2.CX P w) k f fd ps sp ∧ mg x = some (.ref f) ∧ PySem.W.keepIn K (.ref f) = true ∧ Binds K fd ps []
end
end Lw
set_option Elab.async false
set_option linter.all false
set_option maxRecDepth 100000
set_option maxHeartbeats 4000000
/-! isinstance of a caught error that has fields -/
namespace Lw
open PySem L2
open Evl (Ex)
theorem call_isD {X : Cx} {a D dd : Addr} {oe : Obj} {pn : List (Addr × Obj)} (C : ExcC X.K D) (hz : Zc (.ref D) (some dd) oe) (hf : ∃ vs, oe.data = .fields vs) : CallR (X.suite a ((a, oe) :: pn)) (.builtin "isinstance") fun xs H Q => (∃ fs, H dd = some (.xd fs)) ∧ rIsE X.K D a xs H Q := by
  intro pins s σ H xs us Q I r h
  obtain ⟨⟨fs, hd⟩, c, cv, b, rfl, hcv, e, q⟩ := h
  obtain ⟨u, v, rfl, rx, rt⟩ := vals2 r
  cases (show u = Value.ref a from rx)
  have ec := hcv _ rt
  subst ec
  obtain ⟨hget, _⟩ := I.pin (a, oe) (List.mem_append.mpr (.inl List.mem_cons_self))
  have hx : ObjOk X.prog X.w H s.heap dd (.xd fs) := I.hok dd _ hd
  obtain ⟨mA, hns, _⟩ := hx
  obtain ⟨od, ho, _⟩ := lookIn_ns hns
  obtain ⟨vs, hv⟩ := hf
  have J : PySem.W.InstAt s.heap a oe D (some od) := ⟨hget, hz.1, by unfold PySem.W.notCls; rw [hv] <;> rfl, by rw [hz.2]; exact ho⟩
  have hcl : (PySem.W.clsIn X.K D).isSome = true := by
    obtain ⟨cd, hc, _⟩ := PySem.W.any_some C.hd
    rw [hc]
    rfl
  exact PySem.W.kia_one (PySem.W.kitx_exc hcl C.hg C.hk C.hs C.ha C.hn C.ht C.hm) I.kIn J e (fun z => nomatch z) fun tk => ⟨.bl b, H, I.kept (t' := tk) fun _ _ z => z, rfl, q⟩
end Lw
set_option Elab.async false
set_option linter.all false
set_option maxRecDepth 100000
set_option maxHeartbeats 4000000
/-! o.m(.., k = v): a method called with keywords, errors let out at the caller's slots -/
namespace Lw
open PySem L2
open Evl (Ex)
section
variable {X : Cx} {CX : CXT} {k : Nat} {f C : Addr} {fd : FuncData} {ps ks : List Str} {sp : Sp} {E : L2.St → XK} {m : Str} {apos pos : Pos} {e o : Expr} {es : List Expr} {kws : List Keyword} {ta : TE} {t tk : TA} {g : List Value → List Value → List Value} {gV : List V → List V → List V}
theorem run_kwX {pins : List (Addr × Obj)} {σ : L2.St} {H : Hp} {s : Shared} {Q : VK} {us ws : List Value} {vs zs : List V} (F : FnOk X.prog X.w X.K X.mg X.base CX k f fd ps sp) (hr : Room k X.A) (hb : KBinds X.K fd ps ks g gV) (hx : PassesAt CX X σ (E σ)) (I : Inv X pins σ H s) (r : Vals vs us) (rz : Vals zs ws) (h : sp (gV vs zs) H Q (E σ)) :
    wpAny (model X.prog X.w) X.A (call (.ref f) us (ks.zip ws)) (EP X pins σ Q) X.xe s := by
  have both := hb.rel r rz
  have many : (g us ws).length = ps.length := both.length.symm.trans (F.len _ _ _ _ h)
  have run := F.run X.A X.stack s H ⟨us, ks.zip ws⟩ (g us ws) (gV vs zs) Q (E σ) hr I.env0 (hb.to s us ws I.kIn many) both h
  refine wpAny_call (codeAny_mono run fun r s' q => ?_)
  match r, q with
  | .error er, q => exact hx pins H s er s' I q
  | .ok (.ret u), q => exact I.after q
  | .ok .next, q => exact q.elim
  | .ok .brk, q => exact q.elim
  | .ok .cont, q => exact q.elim
end
end Lw
set_option Elab.async false
set_option linter.all false
set_option maxRecDepth 100000
set_option maxHeartbeats 4000000
/-! the suite of an except clause, read by what is known -/
namespace Lw
open PySem L2
open Evl (Ex)
/-- isinstance(e, c), e the caught error: its class cls, its dict d -/
def rIsX (K : PySem.W.Frag) (D a : Addr) (cls : Value) (d : Option Addr) : List V → Hp → VK → Prop := fun xs H Q => cls = .ref D ∧ ∃ dd fs, d = some dd ∧ H dd = some (.xd fs) ∧ rIsE K D a xs H Q
theorem call_isX {X : Cx} {a D : Addr} {cls : Value} {d : Option Addr} {oe : Obj} {pn : List (Addr × Obj)} (C : ExcC X.K D) (hz : Zc cls d oe) (hf : ∃ vs, oe.data = .fields vs) : CallR (X.suite a ((a, oe) :: pn)) (.builtin "isinstance") (rIsX X.K D a cls d) := by
  intro pins s σ H xs us Q I r h
  obtain ⟨rfl, dd, fs, rfl, hd, h⟩ := h
  exact call_isD C hz hf pins s σ H xs us Q I r ⟨⟨fs, hd⟩, h⟩
section
variable {K : PySem.W.Frag} {σ : L2.St} {G H : Hp} {te tc : TE} {D : Ends}
theorem ef_xf {a C d : Addr} {fs : List (Str × V)} {f : Str} {v : V} (h : EF te σ G (XV (.ref a))) (hd : G d = some (.xd fs)) (hl : fs.lookup f = some v) : EF (tXf a (.ref C) (some d) C f te) σ G (XV v) := fun H e Q q => h H e _ fun x G1 H1 g1 p =>
  ⟨p, rfl, d, fs, v, rfl, g1.hp _ _ (e _ _ hd), hl, q v G1 H1 g1 rfl⟩
theorem ef_isX {a C d : Addr} {fs : List (Str × V)} {c : V} {cv : Value} {b : Bool} (h : EF te σ G (XV (.ref a))) (hd : G d = some (.xd fs)) (hc : EF tc σ G (XV c)) (hv : ∀ u, RelV c u → u = cv) (hk : PySem.W.kitOne K (.ref C) cv = some b) : EF (tCB (rIsX K C a (.ref C) (some d)) (tCons te (tCons tc tNil))) σ G (XV (.bl b)) :=
  fun H e Q q => (ea_two mo_XV mo_XV h hc) H e _ fun vs G1 H1 g1 ⟨x, y, ev, hx, hy⟩ => ⟨rfl, d, fs, rfl, g1.hp _ _ (e _ _ hd), c, cv, b, by rw [ev, show x = _ from hx, show y = _ from hy], hv, hk, q _ G1 H1 g1 rfl⟩
end
end Lw
set_option Elab.async false
set_option linter.all false
set_option maxRecDepth 100000
set_option maxHeartbeats 4000000
/-! sameness of data with None, True, False in them -/
namespace Lw
open PySem L2
open Evl (Ex)
/-- data whose sameness is asked: depth at most n -/
def Okb : Nat → PyData → Prop
  | _, .none => True
  | _, .bool _ => True
  | _, .int _ => True
  | _, .str _ => True
  | n + 1, .list ds => ds.length ≤ 1000 ∧ ∀ d ∈ ds, Okb n d
  | n + 1, .tuple ds => ds.length ≤ 1000 ∧ ∀ d ∈ ds, Okb n d
  | _, _ => False
theorem okb_cases {n : Nat} {d : PyData} (h : Okb n d) : d = .none ∨ (∃ b, d = .bool b) ∨ ∃ k, kiOf d = some k := by
  cases d with
  | none => exact .inl rfl
  | bool b => exact .inr (.inl ⟨b, rfl⟩)
  | int z => exact .inr (.inr ⟨_, rfl⟩)
  | str z => exact .inr (.inr ⟨_, rfl⟩)
  | list z => exact .inr (.inr ⟨_, rfl⟩)
  | tuple z => exact .inr (.inr ⟨_, rfl⟩)
  | _ => cases n <;> exact h.elim
def spSameB (K : PySem.W.Frag) (n : Nat) : Sp := fun vs H Q _ => ∃ (G : Hp) (x : V) (y : V) (d : PyData), Ex G H ∧ vs = [x, y] ∧ Dp K G x d ∧ Dp K G y d ∧ Okb n d ∧ Ret G H (XV (.bl true)) Q
theorem sa_sameB {K : PySem.W.Frag} {G : Hp} {x y : V} {d : PyData} {n : Nat} (hx : Dp K G x d) (hy : Dp K G y d) (ho : Okb n d) : SA (spSameB K n) [x, y] G (XV (.bl true)) := fun H e Q _ q => ⟨G, x, y, d, e, rfl, hx, hy, ho, q⟩
end Lw
set_option Elab.async false
set_option linter.all false
set_option maxRecDepth 100000
set_option maxHeartbeats 4000000
/-! a layout whose lengths are told too -/
namespace Lw
open PySem L2
open Evl (Ex)
section
variable {K : PySem.W.Frag} {C : Addr}
def LayL (K : PySem.W.Frag) (C : Addr) (G : Hp) (p : Addr) (lens : List Int) (parks : List Int) (js : List (Int × Int)) : Prop := LayAt K C G p lens.length parks js ∧ ∃ dx fs l, G p = some (.ins C dx fs) ∧ fs.lookup ("_lengths" : Str) = some (.ref l) ∧ Dp K G (.ref l) (dI lens)
theorem LayL.ex {G G' : Hp} {p : Addr} {lens parks : List Int} {js : List (Int × Int)} (h : LayL K C G p lens parks js) (e : Ex G G') : LayL K C G' p lens parks js := by
  obtain ⟨h1, dx, fs, l, h2, h3, h4⟩ := h
  exact ⟨h1.ex e, dx, fs, l, e _ _ h2, h3, dpx h4 e⟩
end
end Lw
set_option Elab.async false
set_option linter.all false
set_option maxRecDepth 100000
set_option maxHeartbeats 4000000
/-! a range object in a variable -/
namespace Lw
open PySem PySem.Spec PyProof.Rows L2
end Lw
set_option Elab.async false
set_option linter.all false
set_option maxRecDepth 100000
set_option maxHeartbeats 4000000
/-! two for's: a range object, a tuple that the turn makes; a test at the end -/
namespace Lw
open PySem L2
open Evl (Ex)
end Lw
set_option Elab.async false
set_option linter.all false
set_option maxRecDepth 100000
set_option maxHeartbeats 4000000
/-! a try's body that tells, its clause that tells the error -/
namespace Lw
open PySem L2
open Evl (Ex)
section
variable {K : PySem.W.Frag} {σ : L2.St} {G H : Hp} {te ta tb : TE} {P : VP} {D : Ends}
/-- te returns a v with P at this very heap (what it lets out is met) -/
def TR (te : TE) (σ : L2.St) (G H : Hp) (P : VP) : Prop := ∀ Q : VK, (∀ v G' H', Gr G G' H H' → P v G' → Q v H') → te σ H Q
theorem st_told {s : Str} (h : TR te σ G H P) (k : ∀ q v G' H', Gr G G' H H' → P v G' → H' q = none → D.rt (.ref q) (upd H' q (.tup [.str s, v]))) : tRet (tTup (tCons (tC (.str s)) (tCons te tNil))) D σ H :=
  h (fun v H' => [V.str s, v].length ≤ sizeLine ∧ ∀ p, H' p = none → D.rt (.ref p) (upd H' p (.tup [.str s, v]))) fun v G' H' g p => ⟨by show 2 ≤ sizeLine; decide, fun q hq => k q v G' H' g p hq⟩
theorem ea_x {x : V} {tr : TA} {xs : List V} (ha : EF ta σ G (XV x)) (hr : EA tr σ G fun vs _ => vs = xs) : EA (tCons ta tr) σ G fun vs _ => vs = x :: xs := ea_cons (Pa := XV x) mo_XV (fun vs G G' e h => h) ha hr fun y ys G' _ hy hys => by rw [show y = _ from hy, hys]
end
end Lw
set_option Elab.async false
set_option linter.all false
set_option maxRecDepth 100000
set_option maxHeartbeats 4000000
/-! tracks that are changed; slices, sums of lists, lists of ranges -/
namespace Lw
open PySem L2
open Evl (Ex)
theorem JOk.most {n : Int} {parks : List Int} {js : List (Int × Int)} (h : JOk n parks js) : ∀ b, b ∉ parks → (eo js b).length ≤ 2 ∧ (wo js b).length ≤ 2 := by
  induction h with
  | nil => intro b _; exact ⟨by simp [eo], by simp [wo]⟩
  | snoc hj hn ih =>
    rename_i js w e
    intro b hb
    obtain ⟨h1, h2⟩ := ih b hb
    constructor
    · by_cases c : w = b
      · subst c
        rw [eo_snoc_same, List.length_append, List.length_singleton]
        have := hn.ew hb
        omega
      · rw [eo_snoc_ne js c]; exact h1
    · by_cases c : e = b
      · subst c
        rw [wo_snoc_same, List.length_append, List.length_singleton]
        have := hn.we hb
        omega
      · rw [wo_snoc_ne js c]; exact h2
theorem eo_sub {js ks : List (Int × Int)} (h : js.Sublist ks) (b : Int) : (eo js b).length ≤ (eo ks b).length := by
  unfold eo
  rw [List.length_map, List.length_map]
  exact (h.filter _).length_le
theorem wo_sub {js ks : List (Int × Int)} (h : js.Sublist ks) (b : Int) : (wo js b).length ≤ (wo ks b).length := by
  unfold wo
  rw [List.length_map, List.length_map]
  exact (h.filter _).length_le
theorem JOk.sub {n : Int} {parks : List Int} {js : List (Int × Int)} (h : JOk n parks js) : ∀ {ks : List (Int × Int)}, ks.Sublist js → JOk n parks ks := by
  induction h with
  | nil => intro ks hs; rw [List.sublist_nil.mp hs]; exact .nil
  | snoc hj hn ih =>
    rename_i js w e
    intro ks hs
    obtain ⟨l1, l2, rfl, h1, h2⟩ := List.sublist_append_iff.mp hs
    have c : l2 = [] ∨ l2 = [(w, e)] := by
      cases l2 with
      | nil => exact .inl rfl
      | cons x r =>
        have hl := h2.length_le
        have hr : r = [] := by
          cases r with
          | nil => rfl
          | cons y r => simp at hl
        subst hr
        have m := h2.subset (List.mem_cons_self (a := x) (l := []))
        right
        simpa using m
    rcases c with rfl | rfl
    · rw [List.append_nil]; exact ih h1
    · refine .snoc (ih h1) ⟨hn.lo, hn.lt, hn.hi, fun m => hn.new (h1.subset m), fun z => ?_, fun z => ?_⟩
      · have a := hn.ew z
        have b := (hj.most w z).1
        have c := eo_sub h1 w
        omega
      · have a := hn.we z
        have b := (hj.most e z).2
        have c := wo_sub h1 e
        omega
theorem JOk.parks {n : Int} {parks parks2 : List Int} {js : List (Int × Int)} (h : JOk n parks js) (hs : ∀ b, 0 ≤ b → b < n → b ∈ parks → b ∈ parks2) : JOk n parks2 js := by
  induction h with
  | nil => exact .nil
  | snoc hj hn ih =>
    have l1 := hn.lo
    have l2 := hn.lt
    have l3 := hn.hi
    exact .snoc ih ⟨hn.lo, hn.lt, hn.hi, hn.new, fun z => hn.ew fun y => z (hs _ (by omega) (by omega) y), fun z => hn.we fun y => z (hs _ (by omega) (by omega) y)⟩
section
variable {K : PySem.W.Frag} {C : Addr} {σ : L2.St} {G G' H H' : Hp} {ta tb te tc tr : TE} {P : VP} {D : Ends}
/-- x in, x not in a tuple of two ints -/
theorem eqV_int (a b : Int) : eqV (.int a) (.int b) = decide (a = b) := by
  by_cases h : a = b
  · subst h; simp [eqV]
  · simp [eqV, h]
/-- a list that stands in the heap as such -/
def LS (K : PySem.W.Frag) (ds : List PyData) : VP := fun v G => ∃ l xs, v = .ref l ∧ G l = some (.lst xs) ∧ DpAll K G xs ds
theorem mo_LS {ds : List PyData} : Mo (LS K ds) := fun v G G' e ⟨l, xs, ev, h, d⟩ => ⟨l, xs, ev, e _ _ h, dpax d e⟩
theorem LS.dp {ds : List PyData} {v : V} (h : LS K ds v G) : Dp K G v (.list ds) := by
  obtain ⟨l, xs, rfl, h, d⟩ := h
  exact dp_mkL h d
theorem EF.ls_dv {ds : List PyData} (h : EF te σ G (LS K ds)) : EF te σ G (DV K (.list ds)) := h.imp fun v G' _ p => p.dp
theorem el_lst {ta : TA} {R : List V → Hp → Prop} {ds : List PyData} (h : EA ta σ G R) (hl : ds.length ≤ 1000) (hR : ∀ vs G', Ex G G' → R vs G' → DpAll K G' vs ds) : EF (tLst ta) σ G (LS K ds) := fun H e Q q =>
  h H e _ fun vs G1 H1 g1 p1 => by
    have d := hR vs G1 g1.up p1
    exact ⟨by rw [dpa_len d]; exact Nat.le_trans hl (by decide), fun p hp => q _ _ _ (g1.trans (.new g1.ok hp)) ⟨p, vs, rfl, upd_same, dpax d (ex_in (none_back g1.ok hp))⟩⟩
def rgI (n : Nat) : List Int := (List.range n).map fun b => ((b : Nat) : Int)
/-- list(range(n)) -/
theorem el_rg {n : Nat} (ha : EF ta σ G (XV (.int (n : Int)))) (hn : n ≤ 100000) : EF (tLstRg (tRg1 ta)) σ G (LS K ((rgI n).map PyData.int)) := fun H e Q q => ha H e _ fun x G1 H1 g1 hx => by
  refine ⟨(n : Int), hx, ⟨by omega, by omega, by omega, by omega, by omega⟩, fun p hp => ?_⟩
  refine q _ _ _ (g1.trans (.new g1.ok hp)) ⟨p, _, rfl, upd_same, ?_⟩
  have ev : rgV 0 (n : Int) = (rgI n).map V.int := by
    unfold rgV rgI
    have e0 : ((n : Int) - 0).toNat = n := by omega
    rw [e0, List.map_map]
    refine List.map_congr_left fun b _ => ?_
    show V.int _ = V.int _
    rw [Int.zero_add]
  rw [ev]
  exact dpa_ints _
/-- xs[k:], k written -/
theorem cutV_from {xs : List V} {k : Nat} : cutV xs (some (k : Int)) none = xs.drop k := by
  unfold cutV
  rw [HT.sIx_nat, HT.sIx_none, List.take_of_length_le (by rw [List.length_drop]; exact Nat.le_refl _)]
  by_cases h : k ≤ xs.length
  · rw [Nat.min_eq_left h]
  · rw [Nat.min_eq_right (by omega), List.drop_of_length_le (Nat.le_refl _), List.drop_of_length_le (by omega)]
theorem cutV_to {xs : List V} {k : Nat} : cutV xs none (some (k : Int)) = xs.take k := by
  unfold cutV
  rw [HT.sIx_nat, HT.sIx_none, List.drop_zero, Nat.sub_zero]
  by_cases h : k ≤ xs.length
  · rw [Nat.min_eq_left h]
  · rw [Nat.min_eq_right (by omega), List.take_of_length_le (Nat.le_refl _), List.take_of_length_le (by omega)]
theorem dpa_drop {G : Hp} : ∀ {vs : List V} {ds : List PyData} (k : Nat), DpAll K G vs ds → DpAll K G (vs.drop k) (ds.drop k)
  | _, _, 0, h => h
  | _, _, k + 1, .nil => .nil
  | _, _, k + 1, .cons _ r => dpa_drop k r
end
end Lw
set_option Elab.async false
set_option linter.all false
set_option maxRecDepth 100000
set_option maxHeartbeats 4000000
/-! over a list that is made; lists of ints that are mapped; rows of tracks -/
namespace Lw
open PySem L2
open Evl (Ex)
section
variable {K : PySem.W.Frag} {C : Addr} {σ : L2.St} {G G' H H' : Hp} {ta tb te tc tr tl : TE} {P : VP} {D : Ends} {tu : TS} {g : TG}
theorem st_forD {xs : List V} (hG : Ex G H) (h : EF tl σ G fun v G' => ∃ a, v = .ref a ∧ SqL K G' a xs) (W : Nat → L2.St → Hp → Prop) (h0 : ∀ H', Ex H H' → W 0 σ H')
    (hs : ∀ i x σ' H' H1, xs[i]? = some x → W i σ' H' → Ex H1 H' → g x σ' H' fun σ2 H2 => tu { D with nx := fun s h => W (i + 1) s h ∧ Ex H1 h, ct := fun s h => W (i + 1) s h ∧ Ex H1 h, bk := D.nx } σ2 H2) (hd : ∀ σ' H', W xs.length σ' H' → D.nx σ' H') : tFor (iList K tl) g tu D σ H :=
  h H hG _ fun v G1 H1 g1 ⟨a, e, hx⟩ => ⟨a, e, ⟨xs, Evl.ex_l g1.ok hx⟩, for_list (fun i s h => W i s h ∧ Ex H1 h) ⟨h0 H1 g1.hp, Ex.refl _⟩ (fun i σ' H' _ w => Evl.ex_l (g1.ok.trans w.2) hx) (fun i x σ' H' hi w => hs i x σ' H' H1 hi w.1 w.2) fun σ' H' w => hd σ' H' w.1⟩
theorem ex_sub {a b : Int} (ha : EF ta σ G (XV (.int a))) (hb : EF tb σ G (XV (.int b))) : EF (tOp (rI0 fun i j => .int (i - j)) ta tb) σ G (XV (.int (a - b))) := ef_op mo_XV mo_XV ha hb fun x y G' _ hx hy => by
  cases (show x = _ from hx)
  cases (show y = _ from hy)
  exact ro_I0 rfl
theorem ex_mul {a b : Int} (ha : EF ta σ G (XV (.int a))) (hb : EF tb σ G (XV (.int b))) (hc : CMul a b) : EF (tOp (rI CMul fun i j => .int (i * j)) ta tb) σ G (XV (.int (a * b))) := ef_op mo_XV mo_XV ha hb fun x y G' _ hx hy => by
  cases (show x = _ from hx)
  cases (show y = _ from hy)
  exact ro_I hc rfl
theorem et_orD {t u : TT} {a b : Prop} [Decidable a] [Decidable b] (h1 : ET t σ G (· = decide a)) (h2 : ET u σ G (· = decide b)) : ET (tOr t u) σ G (· = decide (a ∨ b)) := et_or (p := (· = decide a)) (q := (· = decide b)) h1 (fun _ => h2) (fun h => (decide_eq_true (.inl (of_decide_eq_true h.symm))).symm) (fun h c hc => by
  have := of_decide_eq_false h.symm
  rw [hc]
  by_cases q : b
  · rw [decide_eq_true q, decide_eq_true (.inr q)]
  · rw [decide_eq_false q, decide_eq_false fun z => z.elim this q])
theorem et_ltI {a b : Int} (ha : EF ta σ G (XV (.int a))) (hb : EF tb σ G (XV (.int b))) : ET (tTest (tOp (rI0 fun i j => .bl (decide (i < j))) ta tb)) σ G (· = decide (a < b)) := et_test (ec_int (f := fun i j => decide (i < j)) (EF.iv ha) (EF.iv hb) fun x y hx hy => by rw [hx, hy])
theorem et_gtI {a b : Int} (ha : EF ta σ G (XV (.int a))) (hb : EF tb σ G (XV (.int b))) : ET (tTest (tOp (rI0 fun i j => .bl (decide (i > j))) ta tb)) σ G (· = decide (a > b)) := et_test (ec_int (f := fun i j => decide (i > j)) (EF.iv ha) (EF.iv hb) fun x y hx hy => by rw [hx, hy])
end
end Lw
set_option Elab.async false
set_option linter.all false
set_option maxRecDepth 100000
set_option maxHeartbeats 4000000
/-! a try with several clauses, each of which names its error -/
namespace Lw
open PySem L2
open PySem.Spec PyProof.Rows
/-- what stands behind a clause whose name is in slot i -/
def goneE (i : Nat) (D : Ends) : Ends := ⟨fun st h => D.nx (List.set st i none) h, D.rt, fun st h => D.bk (List.set st i none) h, fun st h => D.ct (List.set st i none) h⟩
/-- class, slot and suite of a clause -/
abbrev Cla := Value × Nat × (Addr → Value → Option Addr → TS)
def wCla (K : PySem.W.Frag) (W0 : WX) (D : Ends) : List Cla → WX
  | [] => W0
  | q :: r => fun c1 d1 st h1 => ∃ b, PySem.W.exmOne K c1 q.1 = some b ∧ (b = false → wCla K W0 D r c1 d1 st h1) ∧
      (b = true → ∀ e, h1 e = none → q.2.2 e c1 d1 (goneE q.2.1 D) (List.set st q.2.1 (some (.ref e))) h1)
inductive ClaOk (X : Cx) : List ExceptHandler → List Cla → Prop
  | nil : ClaOk X [] []
  | cons {x n : Str} {c : Value} {i : Nat} {ts : Addr → Value → Option Addr → TS} {b1 : Stmt} {bs : List Stmt} {p1 p2 : Pos} {hr : List ExceptHandler} {lr : List Cla}
      (hN : X.N[i]? = some n) (hL : X.env.kindOf n = some .local) (hC : Names X x c) (rest : ClaOk X hr lr)
      (hS : ∀ (e : Addr) (oe : Obj) (c1 : Value) (d1 : Option Addr) (pn : List (Addr × Obj)), Zc c1 d1 oe → (∃ vs, oe.data = .fields vs) → PSs (X.suite e ((e, oe) :: pn)) (b1 :: bs) (ts e c1 d1)) :
      ClaOk X (.ExceptHandler (some (.Name x p1)) (some n) (b1 :: bs) p2 :: hr) ((c, i, ts) :: lr)
theorem ps_tryN {X : Cx} {bd : List Stmt} {g0 : ExceptHandler} {gs : List ExceptHandler} {lr : List Cla} {pos : Pos} {tb : WX → TS} {W0 : WX} (st0 : X.stack = X.env :: X.outer) (fr0 : X.env.frame = some X.env.locals) (nd : X.N.Nodup) (tk : Takes X W0)
    (hB : ∀ (W : WX) (pn : List (Addr × Obj)) (xe : Value → Shared → Prop), Takes (X.tr pn xe) W → PassesOwn (model X.prog X.w) X.A X.env xe → PSs (X.tr pn xe) bd (tb W)) (hH : ClaOk X (g0 :: gs) lr) :
    PS X (.Try bd (g0 :: gs) [] [] pos) (fun D st h => tb (wCla X.K W0 D lr) D st h) := by
  constructor
  intro pins s0 st h D I q0
  have okX := I.ok
  have frs0 : X.A.frames = some (X.env :: X.outer) := okX.frames.trans (congrArg some st0)
  apply wpAny_Try_except
  have body := (hB (wCla X.K W0 D lr) (X.pn ++ pins) (fun e s₁ => wpAny (model X.prog X.w) X.A (noteFrame e X.env) (fun _ s₂ => wpAny (model X.prog X.w) X.A (setFlight e none) (fun _ s₃ => wpAny (model X.prog X.w) X.A (handleBy e X.env (g0 :: gs)) (SP X pins D) X.xe s₃) X.xe s₂) X.xe s₁)
    (fun u t xx => ?caught) PassesOwn.looking).run [] s0 st h D (I.toTry _) q0
  case caught =>
    obtain ⟨e, B, tI, pins1, st1, h1, c1, d1, rfl, I0, nb, up1, sky1, na, os1, ag1, w1⟩ := xx
    have I1 : Inv X pins st1 h1 tI := I0.ofTry okX
    rw [st0] at sky1
    show wpAny (model X.prog X.w) X.A (noteFrame (.ref e) X.env) _ _ _
    refine Sky.land Zc.steady frs0 fr0 sky1 fun t3 fl3 up3 => ?_
    have I3 : Inv X pins st1 h1 { t with heap := t3 } := I1.landed nb fl3.1 (up1.trans up3) os1 ag1
    obtain ⟨o3, f3, g3, z3, e3⟩ := fl3.there
    have off : e ∉ frs (X.env :: X.outer) := fun hm => by
      obtain ⟨_, o', g', no⟩ := fl3.2.2.1.mem hm
      exact no _ (by rw [g3] at g'; cases g'; exact e3)
    have eL : e ≠ X.env.locals := fun z => off (by rw [z]; exact List.mem_filterMap.mpr ⟨X.env, .head _, fr0⟩)
    have eF : e ∉ X.fs := fun hm => by
      obtain ⟨v, hv, qv⟩ := List.mem_filterMap.mp hm
      exact off (List.mem_filterMap.mpr ⟨v, .tail _ hv, qv⟩)
    have go : ∀ {hs : List ExceptHandler} {ls : List Cla}, ClaOk X hs ls → wCla X.K W0 D ls c1 d1 st1 h1 → wpAny (model X.prog X.w) X.A (handleBy (.ref e) X.env hs) (SP X pins D) X.xe { t with heap := t3 } := fun {hs ls} hk => by
      induction hk with
      | nil =>
        intro w
        apply wpAny_handleBy_nil
        obtain ⟨_, _, _, o, vs, T, oT, ts', gE, gZ, gD, gT, _⟩ := id fl3
        have fin : wpAny (model X.prog X.w) X.A (setFlight (.ref e) X.env.frame) (fun _ s4 => wpAny (model X.prog X.w) X.A (throw (.ref e) : Sem Flow) (SP X pins D) X.xe s4) X.xe { t with heap := t3 } := by
          rw [fr0]
          refine HandSPX.setFlight_upZ fl3 fun t4 k4 up4 => wpAny_throw (tk _ _ ⟨e, B, tI, pins, st1, h1, c1, d1, rfl, I1, nb, (up1.trans up3).trans up4, ?_, na, os1, ag1, w⟩)
          right; right
          rw [st0]
          exact k4
        unfold PySem.passOn
        refine wpAny_bind (wpAny_field gE gD gT ?_)
        rw [if_neg (by simp)]
        first
          | exact wpAny_bind (wpAny_pure (wpAny_bind fin))
          | exact wpAny_bind fin
      | @cons x n c i ts b1 bs p1 p2 hr lr hN hL hC rest hS ih =>
        rintro ⟨b, eb, kno, kyes⟩
        have S3 := I3.suite g3 e3 na eL eF
        have typ : PySem.W.Looks (model X.prog X.w) t3 (typeOf (.ref e)) c1 := fun A Q E s k q => wpAny_typeOf_ref (k _ _ g3) (z3.1 ▸ q)
        have mat := PySem.W.exm_one (M := model X.prog X.w) I3.kIn typ eb
        refine wpAny_handleBy_cons (codeAny_handlers_test ?_) (by intro q; cases q)
        have nm : ∀ {Q E : Value → Shared → Prop}, Q c { t with heap := t3 } → wpAny (model X.prog X.w) (X.A.mark (some (.ref e))) (eval (.Name x p1) X.env) Q E { t with heap := t3 } := by
          intro Q E q
          rcases hC with ⟨k1, k2, k3 | ⟨k3, k4, k5⟩⟩
          · exact ld_glob (X := X.suite e ((e, o3) :: (X.pn ++ pins))) S3 k1 k3 q k2
          · exact ld_blt (X := X.suite e ((e, o3) :: (X.pn ++ pins))) S3 k1 k3 k4 q k5 k2
        refine nm (mat.here ?_)
        match b, eb, kno, kyes with
        | false, _, kno, _ => exact ih (kno rfl)
        | true, _, _, kyes =>
          apply codeAny_handlers_suite_as
          refine HandSPX.lands_againZ fl3 fun t4 fl4 up4 => ?_
          obtain ⟨o4, f4, g4, z4, e4⟩ := fl4.there
          have S4 := (I1.landed nb fl4.1 ((up1.trans up3).trans up4) os1 ag1 : Inv X pins st1 h1 { t with heap := t4 }).suite g4 e4 na eL eF
          refine store_ok (X := X.suite e ((e, o4) :: (X.pn ++ pins))) (v := .ref e) S4 nd hN (.inl hL) rfl (fun t5 S5 => ?_) (.inr hL)
          have gone : ∀ {t6 : Shared} {st6 : L2.St} {h6 : Hp} {Q : Shared → Prop}, Inv (X.suite e ((e, o4) :: (X.pn ++ pins))) [] st6 h6 t6 → (∀ t7, Inv X pins (st6.set i none) h6 t7 → Q t7) →
              wpAny (model X.prog X.w) X.A (do bindName X.env n .none; unbindBehindTheSuite X.env n p2) (fun _ t7 => Q t7) X.xe t6 := fun S6 k => gone_ok (S6.unsuite okX) nd hN hL k
          refine wpAny_mono ((hS e o4 c1 d1 (X.pn ++ pins) z4 ⟨_, e4⟩).run [] t5 _ h1 _ S5 (kyes rfl e na)) (fun f t6 hsp => ?_) (fun _ _ z => z.elim)
          match f, hsp with
          | .next, ⟨st6, h6, S6, q6⟩ => exact gone S6 fun t7 I7 => ⟨_, _, I7, q6⟩
          | .brk, ⟨st6, h6, S6, q6⟩ => exact gone S6 fun t7 I7 => ⟨_, _, I7, q6⟩
          | .cont, ⟨st6, h6, S6, q6⟩ => exact gone S6 fun t7 I7 => ⟨_, _, I7, q6⟩
          | .ret u, ⟨v6, st6, h6, S6, r6, q6⟩ => exact gone S6 fun t7 I7 => ⟨_, _, _, I7, r6, q6⟩
    exact go hH w1
  refine wpAny_mono body (fun f t hsp => ?_) fun _ _ z => z
  match f, hsp with
  | .next, ⟨st1, h1, J, q⟩ => exact wpAny_execs_nil ⟨st1, h1, J.ofTry okX, q⟩
  | .brk, ⟨st1, h1, J, q⟩ => exact ⟨st1, h1, J.ofTry okX, q⟩
  | .cont, ⟨st1, h1, J, q⟩ => exact ⟨st1, h1, J.ofTry okX, q⟩
  | .ret u, ⟨v, st1, h1, J, r, q⟩ => exact ⟨v, st1, h1, J.ofTry okX, r, q⟩
/-- an error that is let out, met by the first clause -/
theorem rse_cla0 {K : PySem.W.Frag} {G H : Hp} {σ : L2.St} {D : Ends} {C : Addr} {q : Cla} {lr : List Cla} {fs : List (Str × V)} {W0 : WX} (hx : PySem.W.exmOne K (.ref C) q.1 = some true)
    (k : ∀ G' H' d a, Gr G G' H H' → H' d = none → (upd H' d (.xd fs)) a = none → q.2.2 a (.ref C) (some d) (goneE q.2.1 D) (List.set σ q.2.1 (some (.ref a))) (upd H' d (.xd fs))) : Rse C fs G H (WE (wCla K W0 D (q :: lr)) σ) :=
  fun G' H' d g hd => ⟨true, hx, (fun z => nomatch z), fun _ a ha => k G' H' d a g hd ha⟩
end Lw
set_option Elab.async false
set_option linter.all false
set_option maxRecDepth 100000
set_option maxHeartbeats 4000000
/-! what heading tells of a list; promises with two errors -/
namespace Lw
open PySem L2
open Evl (Ex)
inductive HR where
  | way (c : Bool)
  | bad (i : Int)
  | no (b : Int)
/-- the first number that is no block -/
def badB (n : Int) (row : List Int) : Option Int := row.find? fun b => !decide (0 ≤ b ∧ b < n)
/-- the entries i and i + 1 are joined on this side -/
def okB (js : List (Int × Int)) (c : Bool) (row : List Int) (i : Nat) : Bool := match row[i]?, row[i + 1]? with
  | some a, some b => decide (b ∈ ends js a c)
  | _, _ => true
def brk (js : List (Int × Int)) (c : Bool) (row : List Int) : Option Nat := (List.range (row.length - 1)).find? fun i => !okB js c row i
def headC (js : List (Int × Int)) : List Int → Bool
  | a :: b :: _ => !decide ((b, a) ∈ js)
  | _ => true
def headR (n : Int) (js : List (Int × Int)) (row : List Int) : HR :=
  if row = [] then .bad 0 else match badB n row with
  | some b => .no b
  | none => match brk js (headC js row) row with
    | some i => .bad (i : Int)
    | none => .way (headC js row)
section
variable {K : PySem.W.Frag} {C : Addr} {σ : L2.St} {G G' H H' : Hp} {ta tb te tc tr to : TE} {P : VP} {D : Ends}
def HRet (CN CW : Addr) (G H : Hp) (r : HR) (P : Bool → VP) (Q : VK) (E : XK) : Prop := match r with
  | .way c => Ret G H (P c) Q
  | .bad i => Rse CW [("at", .int i)] G H E
  | .no b => Rse CN [("block", .int b)] G H E
def lenOf (lens : List Int) (b : Int) : Int := lens.getD b.toNat 0
theorem HRet.up {CN CW : Addr} {r : HR} {P : Bool → VP} {Q : VK} {E : XK} {G0 G1 H0 H1 : Hp} (h : HRet CN CW G0 H0 r P Q E) (g : Gr G0 G1 H0 H1) : HRet CN CW G1 H1 r P Q E := by
  cases r with
  | way c => exact fun v G' H' g' p => h v G' H' (g.trans g') p
  | bad i => exact Rse.up h g
  | no b => exact Rse.up h g
/-! statements -/
end
end Lw
set_option Elab.async false
set_option linter.all false
set_option maxRecDepth 100000
set_option maxHeartbeats 4000000
/-! lists that are cut and turned; pairs in lists of pairs -/
namespace Lw
open PySem L2
open Evl (Ex)
section
variable {K : PySem.W.Frag} {C : Addr} {σ : L2.St} {G G' H H' : Hp} {ta tb te tc tr to : TE} {P : VP} {D : Ends}
theorem ef_pairI {a b : Int} (ha : EF ta σ G (XV (.int a))) (hb : EF tb σ G (XV (.int b))) : EF (tTup (tCons ta (tCons tb tNil))) σ G (DV K (dP (a, b))) := ef_tup (ea_two mo_XV mo_XV ha hb) (fun vs G' ⟨x, y, ev, _⟩ => by rw [ev]; simp) fun q vs G' _ _ _ ⟨x, y, ev, hx, hy⟩ => dp_mkT upd_same (by rw [ev, hx, hy]; exact .cons (.int _) (.cons (.int _) .nil))
theorem dv_row {a : Addr} {row : List Int} (h : SqL K G a (row.map V.int)) : Dp K G (.ref a) (dI row) := .lst h (dpa_ints row)
end
end Lw
set_option Elab.async false
set_option linter.all false
set_option maxRecDepth 100000
set_option maxHeartbeats 4000000
/-! a track in which each block is joined to the next -/
namespace Lw
open PySem L2
open Evl (Ex)
def lineJ (m : Nat) : List (Int × Int) := (List.range m).map fun b : Nat => ((b : Int), (b : Int) + 1)
theorem lineJ_succ (m : Nat) : lineJ (m + 1) = lineJ m ++ [((m : Int), (m : Int) + 1)] := by
  unfold lineJ
  rw [List.range_succ, List.map_append]
  rfl
theorem lineJ_len (m : Nat) : (lineJ m).length = m := by unfold lineJ; rw [List.length_map, List.length_range]
theorem lineJ_mem {m : Nat} {p : Int × Int} (h : p ∈ lineJ m) : p.1 < (m : Int) ∧ p.2 ≤ (m : Int) := by
  unfold lineJ at h
  obtain ⟨b, hb, rfl⟩ := List.mem_map.mp h
  have := List.mem_range.mp hb
  constructor
  · show (b : Int) < m
    omega
  · show (b : Int) + 1 ≤ m
    omega
theorem lineJ_ok (n : Int) (parks : List Int) : ∀ m : Nat, (m : Int) < n → JOk n parks (lineJ m) := by
  intro m
  induction m with
  | zero => intro _; exact .nil
  | succ m ih =>
    intro h
    rw [lineJ_succ]
    refine .snoc (ih (by omega)) ⟨by omega, by omega, by omega, fun z => ?_, fun _ => ?_, fun _ => ?_⟩
    · have := (lineJ_mem z).1
      simp only at this
      omega
    · have : eo (lineJ m) (m : Int) = [] := by
        unfold eo
        rw [List.map_eq_nil_iff, List.filter_eq_nil_iff]
        intro p hp hd
        have e := of_decide_eq_true hd
        have := (lineJ_mem hp).1
        omega
      rw [this]
      simp
    · have : wo (lineJ m) ((m : Int) + 1) = [] := by
        unfold wo
        rw [List.map_eq_nil_iff, List.filter_eq_nil_iff]
        intro p hp hd
        have e := of_decide_eq_true hd
        have := (lineJ_mem hp).2
        omega
      rw [this]
      simp
section
variable {K : PySem.W.Frag} {C : Addr} {σ : L2.St} {G G' H H' : Hp} {ta tb te tc tr to : TE} {P : VP} {D : Ends}
theorem ex_negX {a : Int} (ha : EF ta σ G (XV (.int a))) : EF (tUn (rU fun i => .int (-i)) ta) σ G (XV (.int (-a))) := fun H e Q q => ha H e _ fun x G1 H1 g1 p => ⟨a, p, q _ G1 H1 g1 rfl⟩
end
end Lw
set_option Elab.async false
set_option linter.all false
set_option maxRecDepth 100000
set_option maxHeartbeats 4000000
/-! a new object whose __init__ may let an error out, at the caller's slots -/
namespace Lw
open PySem L2
open Evl (Ex)
/-- the heap with a new object without fields -/
def newO (H : Hp) (C x dx : Addr) : Hp := upd (upd H dx (.own x)) x (.ins C dx [])
end Lw
set_option Elab.async false
set_option linter.all false
set_option maxRecDepth 100000
set_option maxHeartbeats 4000000
/-! what the checks of a layout say; yards as a list or as a tuple -/
namespace Lw
open PySem L2
open Evl (Ex)
inductive LV where
  | ok
  | len (z : Int)
  | no (b : Int)
  | bad (w e : Int)
  | crowd (b : Int) (c : Bool)
/-- yards: a list or a tuple -/
def YdAt (K : PySem.W.Frag) (G : Hp) (a : Addr) (parks : List Int) : Prop := SqL K G a (parks.map V.int) ∨ SqT K G a (parks.map V.int)
theorem YdAt.ex {K : PySem.W.Frag} {G G' : Hp} {a : Addr} {parks : List Int} (h : YdAt K G a parks) (e : Ex G G') : YdAt K G' a parks := h.imp (Evl.ex_l e) (Evl.ex_t e)
/-- an error let out, whatever is known -/
def RseH (C : Addr) (fs : List (Str × V)) (H : Hp) (E : XK) : Prop := ∀ H' d, Ex H H' → H' d = none → E (.ref C) (some d) (upd H' d (.xd fs))
theorem RseH.rse {C : Addr} {fs : List (Str × V)} {G H : Hp} {E : XK} (h : RseH C fs H E) : Rse C fs G H E := fun G' H' d g hd => h H' d g.hp hd
theorem Rse.rh {C : Addr} {fs : List (Str × V)} {G H : Hp} {E : XK} (h : Rse C fs G H E) (e : Ex G H) : RseH C fs H E := fun H' d e' hd => h G H' d (.same e e') hd
theorem RseH.up {C : Addr} {fs : List (Str × V)} {H H' : Hp} {E : XK} (h : RseH C fs H E) (e : Ex H H') : RseH C fs H' E := fun H2 d e' hd => h H2 d (e.trans e') hd
/-- the addresses of the four classes -/
structure CCs where
  L : Addr
  N : Addr
  J : Addr
  E : Addr
def LV.rse (cc : CCs) (H : Hp) (E : XK) : LV → Prop
  | .ok => True
  | .len z => RseH cc.L [("length", .int z)] H E
  | .no b => RseH cc.N [("block", .int b)] H E
  | .bad w e => RseH cc.J [("east", .int e), ("west", .int w)] H E
  | .crowd b c => RseH cc.E [("side", .str (sd c)), ("block", .int b)] H E
theorem LV.rse.up {cc : CCs} {H H' : Hp} {E : XK} {v : LV} (h : v.rse cc H E) (e : Ex H H') : v.rse cc H' E := by
  cases v with
  | ok => trivial
  | len z => exact RseH.up h e
  | no z => exact RseH.up h e
  | bad w z => exact RseH.up h e
  | crowd w z => exact RseH.up h e
/-- an own __init__ that stores two fields -/
def spIni2 (C : Addr) (f1 f2 : Str) : Sp := fun vs H Q _ => ∃ (a : Addr) (y1 y2 : V), vs = [.ref a, y1, y2] ∧ H a = some (exo a C none) ∧ ∀ d, H d = none → d ≠ a → Q .non (upd (upd H d (exd d [(f2, y2), (f1, y1)])) a (exo a C (some d)))
section
variable {K : PySem.W.Frag} {C : Addr} {σ : L2.St} {G G' H H' : Hp} {ta tb te tc tr to : TE} {P : VP} {D : Ends} {tl : TE} {g : TG} {tu : TS}
/-- raise C(e1, e2) -/
theorem mk_two {f1 f2 : Str} {y1 y2 : V} {Q : XK} (hG : Ex G H) (h1 : EF ta σ G (XV y1)) (h2 : EF tb σ G (XV y2)) (k : RseH C [(f2, y2), (f1, y1)] H Q) : tMkO C (spIni2 C f1 f2) [] (tCons ta (tCons tb tNil)) σ H Q :=
  (ea_two mo_XV mo_XV h1 h2) H hG _ fun vs G1 H1 g1 ⟨x, y, ev, hx, hy⟩ => by
    subst ev
    rw [show x = y1 from hx, show y = y2 from hy]
    refine ⟨by simp, fun a ha => ⟨a, y1, y2, rfl, upd_same, fun d hd hn => ⟨rfl, d, [(f2, y2), (f1, y1)], upd_same, ?_, ?_, ?_⟩⟩⟩
    · rw [upd_ne hn]
      exact upd_same
    · rw [upd_ne hn] at hd
      exact hd
    · rw [heap_new ha hn]
      rw [upd_ne hn] at hd
      exact k H1 d g1.hp hd
/-- raise C(e) -/
theorem mk_oneH {f1 : Str} {y1 : V} {Q : XK} (hG : Ex G H) (h1 : EF ta σ G (XV y1)) (k : RseH C [(f1, y1)] H Q) : tMkO C (spIni1 C f1) [] (tCons ta tNil) σ H Q := mk_one hG h1 fun G' H' d g hd => k H' d g.hp hd
end
end Lw
set_option Elab.async false
set_option linter.all false
set_option maxRecDepth 100000
set_option maxHeartbeats 4000000
/-! a layout that may be refused, made; tuples of data -/
namespace Lw
open PySem L2
open Evl (Ex)
section
variable {K : PySem.W.Frag} {C : Addr} {σ : L2.St} {G G' H H' : Hp} {ta tb te tc tr to : TE} {P : VP} {D : Ends} {cc : CCs}
theorem ex_newO {H : Hp} {C x dx : Addr} (hx : H x = none) (hd : H dx = none) : Ex H (outH (newO H C x dx) x) := fun a o ha => by
  unfold newO
  rw [out_ne (ne_of_none ha hx), upd_ne (ne_of_none ha hx), upd_ne (ne_of_none ha hd)]
  exact ha
def rTupOf (K : PySem.W.Frag) : List V → Hp → VK → Prop := fun xs H Q => ∃ p ys, xs = [.ref p] ∧ ((SqL K H p ys ∧ ∀ l, H l = none → Q (.ref l) (upd H l (.tup ys))) ∨ (SqT K H p ys ∧ Q (.ref p) H))
theorem call_tupK {X : Cx} {K : PySem.W.Frag} (h : X.K = K) : CallR X (.type "tuple") (rTupOf K) := by subst h; exact call_tuple_of
end
end Lw
set_option Elab.async false
set_option linter.all false
set_option maxRecDepth 100000
set_option maxHeartbeats 4000000
/-! three new lists that are changed -/
namespace Lw
open PySem L2
open Evl (Ex)
/-- lengths, joints and yards as they stand now -/
structure C3 (K : PySem.W.Frag) (G H : Hp) (la ja pa : Addr) (n J0 P0 b : Nat) (H1 Gk : Hp) (ls : List Int) (vj : List V) (js : List (Int × Int)) (ps : List Int) : Prop where
  g : Gr G Gk H H1
  kl : Gk la = none
  kj : Gk ja = none
  kp : Gk pa = none
  hl : H1 la = some (.lst (ls.map V.int))
  hj : H1 ja = some (.lst vj)
  hp : H1 pa = some (.lst (ps.map V.int))
  d : DpAll K Gk vj (js.map dP)
  ln : ls.length = n
  j0 : J0 ≤ js.length
  j1 : js.length ≤ J0 + b
  p0 : P0 ≤ ps.length
  p1 : ps.length ≤ P0 + b
def CS (K : PySem.W.Frag) (G H : Hp) (la ja pa : Addr) (n J0 P0 b : Nat) (H1 : Hp) : Prop := ∃ Gk ls vj js ps, C3 K G H la ja pa n J0 P0 b H1 Gk ls vj js ps
section
variable {K : PySem.W.Frag} {σ : L2.St} {G G' H H' H1 H2 Gk : Hp} {la ja pa : Addr} {n J0 P0 b b' : Nat} {ls ps : List Int} {vj : List V} {js : List (Int × Int)} {ta tb te ti tc : TE} {P : VP} {D : Ends}
theorem C3.up (h : C3 K G H la ja pa n J0 P0 b H1 Gk ls vj js ps) (e : Ex H1 H2) : C3 K G H la ja pa n J0 P0 b H2 Gk ls vj js ps := { h with g := h.g.then e, hl := e _ _ h.hl, hj := e _ _ h.hj, hp := e _ _ h.hp }
theorem CS.up (h : CS K G H la ja pa n J0 P0 b H1) (e : Ex H1 H2) : CS K G H la ja pa n J0 P0 b H2 := by
  obtain ⟨Gk, ls, vj, js, ps, h⟩ := h
  exact ⟨Gk, ls, vj, js, ps, h.up e⟩
theorem EF.tr {P : VP} (h : EF te σ Gk P) (e : Ex Gk H1) : TR te σ Gk H1 P := fun Q q => h H1 e Q q
end
end Lw
set_option Elab.async false
set_option linter.all false
set_option maxRecDepth 100000
set_option maxHeartbeats 4000000
/-! len(set(..)), list.count, any, or; f(.., k = v) with errors; a list that is changed -/
namespace Lw
open PySem PySem.Spec PyProof.Rows L2
open Evl (Ex)
section
variable {X : Cx} {CX : CXT} {k : Nat} {f C : Addr} {fd : FuncData} {ps ks : List Str} {sp : Sp} {E : L2.St → XK} {x : Str} {p pos : Pos} {e o : Expr} {es : List Expr} {kws : List Keyword} {ta : TE} {t tk : TA} {g : List Value → List Value → List Value} {gV : List V → List V → List V}
def tCallKX (sp : Sp) (gV : List V → List V → List V) (E : L2.St → XK) (t tk : TA) : TE := fun σ H Q => t σ H fun vs H1 => tk σ H1 fun zs H2 => sp (gV vs zs) H2 Q (E σ)
end
section
variable {K : PySem.W.Frag} {σ : L2.St} {G G' H H' H1 H2 Gk : Hp} {q : Addr} {b : Nat} {ta tb te ti tc tl tl0 : TE} {P : VP} {D : Ends}
theorem eb_or {p r s : Bool → Prop} (h1 : EF ta σ G (BV p)) (h2 : p false → EF tb σ G (BV r)) (ht : p true → s true) (hf : p false → ∀ b, r b → s b) : EF (tOrV ta tb) σ G (BV s) := fun H e Q k => h1 H e _ fun v G1 H1 g1 hv => by
  obtain ⟨z, ez, pz⟩ := hv
  refine ⟨z, ez, ?_⟩
  cases z
  · rw [if_neg Bool.false_ne_true]
    exact h2 pz H1 (g1.up.trans g1.ok) _ fun u G2 H2 g2 ⟨c, ec, hc⟩ => k u G2 H2 (((Gr.same e g1.hp).trans g2)) ⟨c, ec, hf pz c hc⟩
  · rw [if_pos rfl]
    exact k _ G1 H1 g1 ⟨true, rfl, ht pz⟩
/-- a new list of ints as it stands now -/
structure OX (G H : Hp) (q : Addr) (b : Nat) (H1 Gk : Hp) (ls : List Int) : Prop where
  g : Gr G Gk H H1
  kq : Gk q = none
  hq : H1 q = some (.lst (ls.map V.int))
  len : ls.length ≤ b
def OW (G H : Hp) (q : Addr) (b : Nat) (H1 : Hp) : Prop := ∃ Gk ls, OX G H q b H1 Gk ls
theorem OW.up (h : OW G H q b H1) (e : Ex H1 H2) : OW G H q b H2 := by
  obtain ⟨Gk, ls, h⟩ := h
  exact ⟨Gk, ls, h.g.then e, h.kq, e _ _ h.hq, h.len⟩
theorem OX.ex {ls : List Int} (h : OX G H q b H1 Gk ls) : Ex (upd Gk q (.lst (ls.map V.int))) H1 := ex_know h.g.ok h.hq
/-- the list's own facts, once it is handed on -/
theorem OW.know (hG : Ex G H) (fr : H q = none) (h : OW G H q b H1) : ∃ (G' : Hp) (ls : List Int), Gr G G' H H1 ∧ G' q = some (.lst (ls.map V.int)) ∧ ls.length ≤ b := by
  obtain ⟨Gk, ls, h⟩ := h
  exact ⟨_, ls, h.g.know hG fr h.hq, upd_same, h.len⟩
end
/-- a list that grows: its data -/
def DSt (K : PySem.W.Frag) (G H H' : Hp) (q : Addr) (L : List PyData) : Prop := ∃ G' vs, Gr G G' H H' ∧ G' q = none ∧ H' q = some (.lst vs) ∧ DpAll K G' vs L
theorem DSt.ok {K : PySem.W.Frag} {G H H1 : Hp} {q : Addr} {L : List PyData} (h : DSt K G H H1 q L) : Ex G H1 := by
  obtain ⟨G', vs, g, _⟩ := h
  exact g.up.trans g.ok
theorem DSt.up {K : PySem.W.Frag} {G H H1 H2 : Hp} {q : Addr} {L : List PyData} (h : DSt K G H H1 q L) (e : Ex H1 H2) : DSt K G H H2 q L := by
  obtain ⟨G', vs, g, gq, hq, hd⟩ := h
  exact ⟨G', vs, g.then e, gq, e _ _ hq, hd⟩
end Lw
set_option Elab.async false
set_option linter.all false
set_option maxRecDepth 100000
set_option maxHeartbeats 4000000
/-! what can be reached; layouts that are good -/
namespace Lw
open PySem L2
open Evl (Ex)
end Lw
set_option Elab.async false
set_option linter.all false
set_option maxRecDepth 100000
set_option maxHeartbeats 4000000
/-! == by an own __eq__ that may say no -/
namespace Lw
open PySem PySem.Spec L2
open Evl (Ex)
/-- lists of ints, in order, are one list -/
theorem int_uniq : ∀ {l m : List Int}, l.Perm m → l.Pairwise (· ≤ ·) → m.Pairwise (· ≤ ·) → l = m
  | [], m, h, _, _ => by simpa using h.symm
  | x :: l, [], h, _, _ => by simpa using h
  | x :: l, y :: m, h, hl, hm => by
    have e : x = y := by
      have h1 : y ∈ x :: l := h.mem_iff.mpr (by simp)
      have h2 : x ∈ y :: m := h.mem_iff.mp (by simp)
      rcases List.mem_cons.mp h1 with h1 | h1
      · exact h1.symm
      rcases List.mem_cons.mp h2 with h2 | h2
      · exact h2
      have a1 := (List.pairwise_cons.mp hl).1 y h1
      have a2 := (List.pairwise_cons.mp hm).1 x h2
      omega
    subst e
    rw [int_uniq (List.perm_cons x |>.mp h) (List.pairwise_cons.mp hl).2 (List.pairwise_cons.mp hm).2]
def srtI (l : List Int) : List Int := l.mergeSort fun a b => decide (a ≤ b)
theorem srtI_perm (l : List Int) : (srtI l).Perm l := List.mergeSort_perm l _
theorem srtI_sorted (l : List Int) : (srtI l).Pairwise (· ≤ ·) := by
  have := List.pairwise_mergeSort (le := fun a b : Int => decide (a ≤ b)) (fun a b c h1 h2 => by simp at *; omega) (fun a b => by simp; omega) l
  exact this.imp fun h => by simpa using h
theorem srtI_of {l m : List Int} (h : l.Perm m) (hs : l.Pairwise (· ≤ ·)) : l = srtI m := int_uniq (h.trans (srtI_perm m).symm) hs (srtI_sorted m)
theorem srtI_congr {l m : List Int} (h : l.Perm m) : srtI l = srtI m := srtI_of ((srtI_perm l).trans h) (srtI_sorted l)
end Lw
set_option Elab.async false
set_option linter.all false
set_option maxRecDepth 100000
set_option maxHeartbeats 4000000
/-! new lists, layouts over a smaller knowledge, equal layouts -/
namespace Lw
open PySem PySem.Spec L2
open Evl (Ex)
/-- a new list with these data -/
def NwD (K : PySem.W.Frag) (G0 : Hp) (ds : List PyData) : VP := fun v G => ∃ a xs, v = .ref a ∧ G0 a = none ∧ G a = some (.lst xs) ∧ DpAll K G xs ds
section
variable {K : PySem.W.Frag} {C CN : Addr} {σ : L2.St} {G G0 G' H : Hp}
theorem NwD.low {G1 : Hp} {ds : List PyData} {v : V} (e : Ex G0 G1) (h : NwD K G1 ds v G) : NwD K G0 ds v G := by
  obtain ⟨a, xs, ev, h0, h1, h2⟩ := h
  exact ⟨a, xs, ev, none_back e h0, h1, h2⟩
theorem NwD.dp {ds : List PyData} {v : V} (h : NwD K G0 ds v G) : Dp K G v (.list ds) := by
  obtain ⟨a, xs, rfl, _, h1, h2⟩ := h
  exact dp_mkL h1 h2
theorem SA.imp {sp : Sp} {vs : List V} {P P' : VP} (h : SA sp vs G P) (k : ∀ v G', P v G' → P' v G') : SA sp vs G P' := fun H e Q E q => h H e Q E fun v G' H' g p => q v G' H' g (k v G' p)
/-- pairs in order -/
def srtP (js : List (Int × Int)) : List (Int × Int) := js.mergeSort fun p q => decide (p.1 < q.1 ∨ (p.1 = q.1 ∧ p.2 ≤ q.2))
theorem srtP_perm (js : List (Int × Int)) : (srtP js).Perm js := List.mergeSort_perm js _
theorem srtP_sorted (js : List (Int × Int)) : (srtP js).Pairwise lexLe := by
  have := List.pairwise_mergeSort (le := fun p q : Int × Int => decide (p.1 < q.1 ∨ (p.1 = q.1 ∧ p.2 ≤ q.2))) (fun a b c h1 h2 => by simp at *; omega) (fun a b => by simp; omega) js
  exact this.imp fun h => by unfold lexLe; simpa using h
theorem srtP_of {l js : List (Int × Int)} (h : l.Perm js) (hs : l.Pairwise lexLe) : l = srtP js := sort_uniq (h.trans (srtP_perm js).symm) hs (srtP_sorted js)
def spJointsG (K : PySem.W.Frag) (C : Addr) : Sp := fun vs H Q _ => ∃ (G : Hp) (p : Addr) (n : Nat) (parks : List Int) (js : List (Int × Int)), Ex G H ∧ vs = [.ref p] ∧ LayAt K C G p n parks js ∧ JOk (n : Int) parks js ∧ n ≤ 200 ∧ js.length ≤ 900 ∧ Ret G H (NwD K G ((srtP js).map dP)) Q
/-- the constructor, over any knowledge -/
def spInitM (K : PySem.W.Frag) (C : Addr) : Sp := fun vs H Q _ => ∃ (G : Hp) (x dx : Addr) (lens : List Int) (js : List (Int × Int)) (parks : List Int) (a1 a2 a3 : Addr), vs = [.ref x, .ref a1, .ref a2, .ref a3] ∧ Ex G H ∧ G x = none ∧ H x = some (.ins C dx []) ∧
  Dp K G (.ref a1) (dI lens) ∧ Dp K G (.ref a2) (dPs js) ∧ Dp K G (.ref a3) (dI parks) ∧ lens.length ≤ 200 ∧ (∀ z ∈ lens, 1 ≤ z) ∧ (∀ b ∈ parks, 0 ≤ b ∧ b < (lens.length : Int)) ∧ JOk (lens.length : Int) parks js ∧ js.length ≤ 900 ∧
  ∀ S H', (∀ G0, Ex G0 (outH H x) → Gr G0 (pick S G0 H') (outH H x) H' ∧ LayL K C (pick S G0 H') x lens parks js) → Q .non H'
theorem ef_makeM {E : XK} {t tk : TA} {lens : List Int} {js : List (Int × Int)} {parks : List Int} (e0 : Ex G0 G) (h : EA t σ G fun vs G' => ∃ a1 a2, vs = [.ref a1, .ref a2] ∧ Dp K G' (.ref a1) (dI lens) ∧ Dp K G' (.ref a2) (dPs js)) (hk : EA tk σ G fun zs G' => ∃ a3, zs = [.ref a3] ∧ Dp K G' (.ref a3) (dI parks))
    (n2 : lens.length ≤ 200) (hl : ∀ z ∈ lens, 1 ≤ z) (hp : ∀ b ∈ parks, 0 ≤ b ∧ b < (lens.length : Int)) (hJ : JOk (lens.length : Int) parks js) (hj : js.length ≤ 900) :
    EF (tMakeK C 2 1 (spInitM K C) (fun vs zs => vs ++ zs) E t tk) σ G fun v G' => ∃ x G1, v = .ref x ∧ Ex G0 G1 ∧ Ex G1 G' ∧ LayL K C G1 x lens parks js ∧ ∀ a, G a ≠ none → G0 a = none → G1 a = none := fun H e Q q =>
  h H e _ fun vs G1 H1 g1 ⟨a1, a2, ev, d1, d2⟩ => hk H1 (g1.up.trans g1.ok) _ fun zs G2 H2 g2 ⟨a3, ez, d3⟩ => by
    obtain ⟨G3, f1, f2, g3⟩ := g1.join g2
    subst ev ez
    refine ⟨rfl, rfl, fun x dx hx hdx hne => ?_⟩
    have ex2 : Ex H2 (outH (upd (upd H2 dx (.own x)) x (.ins C dx [])) x) := fun a o ha => by
      rw [out_ne (ne_of_none ha hx), upd_ne (ne_of_none ha hx), upd_ne (ne_of_none ha hdx)]
      exact ha
    have e3 : Ex G0 G3 := e0.trans g3.up
    refine ⟨G3, x, dx, lens, js, parks, a1, a2, a3, rfl, g3.ok.trans (ex2.trans out_ex), none_back g3.ok hx, upd_same, dpx d1 f1, dpx d2 f1, dpx d3 f2, n2, hl, hp, hJ, hj, fun S H' k => ⟨rfl, ?_⟩⟩
    have k3 := k G3 (g3.ok.trans ex2)
    have k0 := k G0 (e3.trans (g3.ok.trans ex2))
    refine q _ (pick S G3 H') H' (g3.trans (k3.1.low ex2)) ⟨x, pick S G0 H', rfl, k0.1.up, fun a o ha => ?_, k0.2, fun a ha h0 => k0.1.2.2.2 a (fun z => ?_) h0⟩
    · unfold pick at ha ⊢
      split at ha
      · rename_i m
        rw [if_pos m]
        exact ha
      · rename_i m
        rw [if_neg m]
        exact e3 _ _ ha
    · cases hg : G a with
      | none => exact ha hg
      | some o => rw [ex2 _ _ (g3.ok _ _ (g3.up _ _ hg))] at z; cases z
end
theorem eqv_map {α : Type} [DecidableEq α] {f : α → PyData} (h : ∀ x y, PyData.eqv (f x) (f y) = decide (x = y)) : ∀ a b : List α, PyData.eqvAll (a.map f) (b.map f) = decide (a = b)
  | [], [] => by simp [PyData.eqvAll]
  | [], _ :: _ => by simp [PyData.eqvAll]
  | _ :: _, [] => by simp [PyData.eqvAll]
  | x :: a, y :: b => by
    simp only [List.map_cons, PyData.eqvAll, h, eqv_map h a b]
    by_cases h1 : x = y <;> by_cases h2 : a = b <;> simp [h1, h2]
theorem eqv_list {α : Type} [DecidableEq α] {f : α → PyData} (h : ∀ x y, PyData.eqv (f x) (f y) = decide (x = y)) (a b : List α) : PyData.eqv (.list (a.map f)) (.list (b.map f)) = decide (a = b) := by
  simp only [PyData.eqv]
  exact eqv_map h a b
theorem eqv_I (a b : List Int) : PyData.eqv (dI a) (dI b) = decide (a = b) := eqv_list eqv_int a b
end Lw
set_option Elab.async false
set_option linter.all false
set_option maxRecDepth 100000
set_option maxHeartbeats 4000000
/-! the program's small defs, with their errors -/
namespace Kx
open PySem L2 Lw
open Evl (Ex)
theorem sc_NoBlock_init : FnScope ["self", "block"] ["self", "block"] (defScope s_NoBlock_init) := ⟨rfl, rfl, rfl, by decide +kernel, rfl, by decide +kernel, by decide +kernel⟩
theorem sc_Layout_contains : FnScope ["self", "block"] ["self", "block"] (defScope s_Layout_contains) := ⟨rfl, rfl, rfl, by decide +kernel, rfl, by decide +kernel, by decide +kernel⟩
theorem sc_check_block : FnScope ["layout", "block"] ["layout", "block"] (defScope s_check_block) := ⟨rfl, rfl, rfl, by decide +kernel, rfl, by decide +kernel, by decide +kernel⟩
theorem sc_check_blocks : FnScope ["layout", "blocks", "block"] ["layout", "blocks"] (defScope s_check_blocks) := ⟨rfl, rfl, rfl, by decide +kernel, rfl, by decide +kernel, by decide +kernel⟩
section
variable {P : Program} {w : World} {K : PySem.W.Frag} {mg : Str → Option Value} {base : Heap} {C CN : Addr} {f : Addr} {fd : FuncData}
theorem ok_nb (T : OexC K C) (hno : PySem.W.findIn K (.ref C) "block" = some none) (F : Fun K "__init__" "NoBlock.__init__" s_NoBlock_init f fd) : FnOk P w K mg base CX0 1 f fd ["self", "block"] (spIni1 C "block") := by
  refine F.ok sc_NoBlock_init (fun vs H Q E h => ?_) (fun cdv A outer s H vs Q E hr h => ?_)
  · obtain ⟨a, y, rfl, _⟩ := h
    rfl
  · obtain ⟨a, y, rfl, ha, k⟩ := h
    refine ⟨_, pss_one (ps_ost (pv 0) (pv 1)), ?_⟩
    exact ⟨_, rfl, _, rfl, a, C, rfl, T, hno, .inl ⟨ha, fun d hd hn => k d hd hn⟩⟩
theorem ok_contains (T : Cl K C) (F : Fun K "__contains__" "Layout.__contains__" s_Layout_contains f fd) : FnOk P w K mg base CX0 1 f fd ["self", "block"] (spContains C) := by
  refine F.ok sc_Layout_contains (fun vs H Q E h => ?_) (fun cdv A outer s H vs Q E hr h => ?_)
  · obtain ⟨G, p, n, b, _, rfl, _⟩ := h
    rfl
  · obtain ⟨G, p, n, b, hG, rfl, ⟨dx, fs, hp, hs⟩, k⟩ := h
    refine ⟨_, (pss_one (ps_ret (pe_chain op_le op_lt pe_int (pv 1) (pe_fld (pv 0) rfl)))), ?_⟩
    refine st_ret (P := BV (· = decide (0 ≤ b ∧ b < n))) hG (ef_chain (p := (· = decide (0 ≤ b))) (q := (· = decide (b < n))) mo_XV mo_XV mo_XV ex_c (ex_var rfl) (ef_fld (P := XV (.int n)) (ex_var rfl) hp T.cl T.size hs rfl) (fun x y G' hx hy => ?_) (fun _ x y G' hx hy => ?_) (fun h c hc => ?_) (fun h => ?_)) (fun v G' H' g p => k v G' H' g (by obtain ⟨z, rfl, rfl⟩ := p; rfl))
    · cases (show x = .int 0 from hx)
      cases (show y = .int b from hy)
      exact ro_I0 ⟨_, rfl, rfl⟩
    · cases (show x = .int b from hx)
      cases (show y = .int n from hy)
      exact ro_I0 ⟨_, rfl, rfl⟩
    · have h0 := of_decide_eq_true h.symm
      rw [hc]
      by_cases q : b < n
      · rw [decide_eq_true q, decide_eq_true ⟨h0, q⟩]
      · rw [decide_eq_false q, decide_eq_false fun z => q z.2]
    · have h0 := of_decide_eq_false h.symm
      exact (decide_eq_false fun z => h0 z.1).symm
theorem ok_check_block {fN : Addr} {fdN : FuncData} (Z_NoBlock : Err P w K mg base "NoBlock" CN fN fdN ["self", "block"] (spIni1 CN "block")) (F : Fun K "check_block" "check_block" s_check_block f fd) (Cc : CalM P w K mg base C "__contains__" 1 ["self", "block"] (spContains C)) : FnOk P w K mg base (L2.CX P w) 3 f fd ["layout", "block"] (spCheckX C CN) := by
  obtain ⟨f1, fd1, G_contains, M_contains, b_contains⟩ := Cc
  refine F.okX sc_check_block (fun vs H Q E h => ?_) (fun cdv A outer s H vs Q E hr h => ?_)
  · obtain ⟨G, p, n, b, _, rfl, _⟩ := h
    rfl
  · obtain ⟨G, p, n, b, hG, rfl, hs, k0, k1⟩ := h
    refine ⟨_, (pss_one (ps_if (pt_cmpR (op_notInOwn M_contains G_contains (hr.mono (by decide)) b_contains pass0) (pv 1) (pv 0) (by rfl))
 (pss_one (ps_raise rfl (takes_of rfl rfl rfl rfl) (pmk_oex Z_NoBlock.cls Z_NoBlock.ini Z_NoBlock.tI Z_NoBlock.fn (hr.mono (by decide)) Z_NoBlock.bnd .nil pass0 (by rfl) Z_NoBlock.gl (pa_cons (pv 1) pa_nil)))) pss_nil)), ?_⟩
    refine st_if (p := (· = !decide (0 ≤ b ∧ b < n))) hG (et_test (eb_notIn (a := p) (x := .int b) (b := decide (0 ≤ b ∧ b < n)) (ex_var rfl) (ex_var rfl) (by obtain ⟨dx, fs, a, _⟩ := hs; exact ⟨dx, fs, a⟩) (fun G' e H e' Q _ q => ⟨G', p, n, b, e', rfl, hs.ex e, q⟩) rfl)) (fun h H' e => ?_) (fun h H' e => ?_)
    · have hb : ¬ (0 ≤ b ∧ b < n) := fun z => by rw [decide_eq_true z] at h; cases h
      exact mk_one (hG.trans e) (ex_var (v := .int b) rfl) fun G' H2 d g hd => k1 hb G' H2 d ((Gr.same hG e).trans g) hd
    · have hb : 0 ≤ b ∧ b < n := Classical.byContradiction fun z => by rw [decide_eq_false z] at h; cases h
      exact k0 hb _ G H' (.same hG e) rfl
theorem ok_check_blocks (F : Fun K "check_blocks" "check_blocks" s_check_blocks f fd) (Cc : CalX P w K mg base "check_block" 3 ["layout", "block"] (spCheckX C CN)) : FnOk P w K mg base CX0 4 f fd ["layout", "blocks"] (spChecks K C) := by
  obtain ⟨f1, fd1, G_check_block, m_check_block, k_check_block, b_check_block⟩ := Cc
  refine F.ok sc_check_blocks (fun vs H Q E h => ?_) (fun cdv A outer s H vs Q E hr h => ?_)
  · obtain ⟨G, p, n, a, bs, _, rfl, _⟩ := h
    rfl
  · obtain ⟨G, p, n, a, bs, hG, rfl, hs, ha, hb, k⟩ := h
    refine ⟨_, (pss_one (ps_for PassesOwn.never rfl (pi_list (pv 1)) (pg_name (i := 2) sc_check_blocks.nd rfl (by first | exact Or.inl rfl | exact Or.inr rfl))
 (pss_one (ps_expr (pe_call G_check_block (hr.mono (by decide)) rfl m_check_block k_check_block b_check_block .nil passL (pa_cons (pv 0) (pa_cons (pv 2) pa_nil))))))), ?_⟩
    refine st_forK (xs := bs.map V.int) hG (ex_var (v := .ref a) rfl) ha (fun i σ H' => Ex H H' ∧ ∃ v, σ = [some (.ref p), some (.ref a), v]) (fun H' e => ⟨e, _, rfl⟩) (fun i σ' H' hw => hG.trans hw.1) (fun i x σ' H' hi hw => ?_) (fun σ' H' hw => ?_)
    · obtain ⟨e, v, rfl⟩ := hw
      rw [List.getElem?_map] at hi
      obtain ⟨b, hb1, rfl⟩ := Option.map_eq_some_iff.mp hi
      have hbb := hb b (List.mem_of_getElem? hb1)
      exact st_drop (P := XV .non) (hG.trans e) (ex_call2 (ex_var (v := .ref p) rfl) (ex_var (v := .int b) rfl) fun G' e' => sa_checkX (hs.ex e') hbb.1 hbb.2) (fun v' G' H2 g _ => ⟨e.trans g.hp, _, rfl⟩)
    · obtain ⟨e, v, rfl⟩ := hw
      exact k _ G H' (.same hG e) rfl
end
end Kx
set_option Elab.async false
set_option linter.all false
set_option maxRecDepth 100000
set_option maxHeartbeats 4000000
namespace Kx
open PySem L2 Lw
open Evl (Ex)
theorem sc_Layout_joints : FnScope ["self", "west", "east"] ["self"] (defScope s_Layout_joints) := ⟨rfl, rfl, rfl, by decide +kernel, rfl, by decide +kernel, by decide +kernel⟩
section
variable {P : Program} {w : World} {K : PySem.W.Frag} {mg : Str → Option Value} {base : Heap} {C : Addr} {f : Addr} {fd : FuncData}
theorem ok_joints (T : Cl K C) (B : Blt mg) (F : Fun K "joints" "Layout.joints" s_Layout_joints f fd) : FnOk P w K mg base CX0 1 f fd ["self"] (spJointsG K C) := by
  have m_range := B.range
  refine F.ok sc_Layout_joints (fun vs H Q E h => ?_) (fun cdv A outer s H vs Q E hr h => ?_)
  · obtain ⟨G, p, n, parks, js, _, rfl, _⟩ := h
    rfl
  · obtain ⟨G, p, n, parks, js, hG, rfl, hL, hJ, hn, hjl, k⟩ := h
    obtain ⟨dx, fs, l, ym, e, wa, ess, wss, hp, hf, hm, he, hw, s1, s2⟩ := hL
    refine ⟨_, (pss_one (ps_ret (pe_lc2 (own := [("west", 1), ("east", 2)]) (vs1 := [2]) (g := (gName 1)) (g1 := gName 2) (tt := tYes) (tt1 := tYes) (wi1 := (iList K (tOp (rIxL K) (tFld K (tVar 0) "_east") (tVar 1)))) rfl sc_Layout_joints.nd (pi_range1 rfl m_range (pa_cons (pe_fld (pv 0) rfl) pa_nil)) (blkOk_by (N := ["self", "west", "east"]) (sc := defScope s_Layout_joints) (by decide +kernel)) (by decide) (fun _ _ _ _ _ => pg_name (i := 1) sc_Layout_joints.nd rfl (Or.inl rfl)) (fun _ _ _ _ _ => pts_nil) (fun _ _ _ _ _ => (pi_list (pe_ix ix_list (pe_fld (pv 0) rfl) (pv 1) (fun _ _ => rfl)))) (fun _ _ _ _ _ => pg_name (i := 2) sc_Layout_joints.nd rfl (Or.inl rfl)) (fun _ _ _ _ _ => pts_nil) (fun _ _ _ _ _ => (pe_tup (pa_cons (pv 1) (pa_cons (pv 2) pa_nil))))))), ?_⟩
    refine st_ret (P := NwD K G ((srtP js).map dP)) hG ?_ k
    refine ef_lc2 (n := (n : Int)) (fun i => (ess.getD i []).map V.int) (fun i k xs G' => i ≤ n ∧ DpAll K G' xs ((fan ess i ++ ((ess.getD i []).take k).map (fun e => ((i : Int), e))).map dP))
      ((ea_one (ef_fld (P := XV (.int (n : Int))) (ex_var rfl) hp T.cl T.size hf.size rfl)).imp fun vs G' _ ⟨x, ev, hx⟩ => by rw [ev, show x = _ from hx]) (by omega) (fun i => by rw [List.length_map]; have := s1.len_at i; omega) (fun x => rfl) (fun x y => rfl) (fun G' _ => ⟨Nat.zero_le _, .nil⟩) (fun i xs G' hi h => ⟨by omega, ?_⟩) (fun i G' e1 hi => ?_) (fun i k xs G' G'' e1 h => ⟨h.1, dpax h.2 e1⟩) (fun i k y xs G' e1 hi hy h => ?_) (fun i k xs G' h => ?_) (fun p2 xs G' hg0 hg _ h => ⟨p2, xs, rfl, hg0, upd_same, ?_⟩)
    · have q := h.2
      rw [List.length_map, List.take_length] at q
      rw [fan_succ, List.take_zero, List.map_nil, List.append_nil]
      exact q
    · refine ed_ixL (q := (· = (i : Int))) (EF.dv (ef_fld (P := XV (.ref e)) (ex_var rfl) (e1 _ _ hp) T.cl T.east hf.east rfl) (dpx he e1)) (EF.iv (ex_var rfl)) fun z ez => ?_
      obtain ⟨x, hx, hx1, _⟩ := s1.get (b := i) (by omega)
      refine ⟨i, dI x, ez, by rw [List.getElem?_map, hx]; rfl, fun v G2 d => ?_⟩
      obtain ⟨a, xs, rfl, hs, hd⟩ := dp_lst d
      rw [dpa_ints_eq hd] at hs
      rw [hx1]
      exact ⟨a, rfl, hs⟩
    · rw [List.getElem?_map] at hy
      obtain ⟨z, hz, rfl⟩ := Option.map_eq_some_iff.mp hy
      refine ef_tup (ea_two mo_XV mo_XV (ex_var (v := .int (i : Int)) rfl) (ex_var (v := .int z) rfl)) (fun vs G' ⟨x, y, ev, _⟩ => by rw [ev]; simp) fun p2 vs G2 e2 hg1 hg2 ⟨x, y, ev, hx, hy⟩ => ⟨h.1, ?_⟩
      have em : (fan ess i ++ ((ess.getD i []).take (k + 1)).map (fun e => ((i : Int), e))).map dP = (fan ess i ++ ((ess.getD i []).take k).map (fun e => ((i : Int), e))).map dP ++ [dP ((i : Int), z)] := by
        rw [take_next hz]
        simp
      rw [em]
      refine dpa_snoc (dpax h.2 ?_) (dp_mkT upd_same ?_)
      · exact e2.trans (ex_in hg2)
      · rw [ev, hx, hy]
        exact .cons (.int _) (.cons (.int z) .nil)
    · have q := dpa_len h.2
      rw [List.length_map, List.length_append, List.length_map] at q
      have q1 := fan_len s1 h.1
      have q2 : ((ess.getD i []).take k).length ≤ js.length := Nat.le_trans (by rw [List.length_take]; omega) (s1.len_at i)
      omega
    · have q := h.2
      rw [List.take_zero, List.map_nil, List.append_nil] at q
      rw [← srtP_of (fan_all s1 hJ) (fan_sorted s1 n (Nat.le_refl _)).1]
      exact dpax q (ex_in hg)
end
end Kx
set_option Elab.async false
set_option linter.all false
set_option maxRecDepth 100000
set_option maxHeartbeats 4000000
namespace Kx
open PySem L2 Lw
open Evl (Ex)
theorem sc_Layoutadd_joint : FnScope ["self", "west", "east"] ["self", "west", "east"] (defScope s_Layoutadd_joint) := ⟨rfl, rfl, rfl, by decide +kernel, rfl, by decide +kernel, by decide +kernel⟩
section
variable {P : Program} {w : World} {K : PySem.W.Frag} {mg : Str → Option Value} {base : Heap} {C CN : Addr} {f : Addr} {fd : FuncData}
theorem ok_add (T : Cl K C) (B : Blt mg) (F : Fun K "_add_joint" "Layout._add_joint" s_Layoutadd_joint f fd) (Cc : CalX P w K mg base "check_block" 3 ["layout", "block"] (spCheckX C CN)) : FnOk P w K mg base CX0 4 f fd ["self", "west", "east"] (spAdd C) := by
  obtain ⟨f1, fd1, G_check_block, m_check_block, k_check_block, b_check_block⟩ := Cc
  have m_len := B.len
  refine F.ok sc_Layoutadd_joint (fun vs H Q E h => ?_) (fun cdv A outer s H vs Q E hr h => ?_)
  · obtain ⟨x, n, parks, js, dx, fs, l, ym, e, wa, ea, waa, u, v, rfl, _⟩ := h
    rfl
  · obtain ⟨x, n, parks, js, dx, fs, l, ym, e, w', ea, wa, u, v, rfl, S, N, hl, k⟩ := h
    refine ⟨_, (pss_cons (ps_expr (pe_call G_check_block (hr.mono (by decide)) rfl m_check_block k_check_block b_check_block .nil passL (pa_cons (pv 0) (pa_cons (pv 1) pa_nil))))
 (pss_cons (ps_expr (pe_call G_check_block (hr.mono (by decide)) rfl m_check_block k_check_block b_check_block .nil passL (pa_cons (pv 0) (pa_cons (pv 2) pa_nil))))
 (pss_cons (ps_if (PW.pt (pw_or (pt_cmpR op_ge (pv 1) (pv 2) (nomark _)) (pw_or1 (pt_cmpR (op_inD (hu65 hr)) (pv 2) (pe_ix ix_list (pe_fld (pv 0) rfl) (pv 1) (fun _ _ => rfl)) (by rfl)))))
 (pss_never) pss_nil)
 (pss_cons (ps_if (PW.pt (pw_and (pt_not (pt_val (pe_ix ix_list (pe_fld (pv 0) rfl) (pv 1) (fun _ _ => rfl)))) (pw_and1 (pt_cmpR op_eq (pe_callB call_len_seq (by rfl) m_len PySem.boot_len (pa_cons (pe_ix ix_list (pe_fld (pv 0) rfl) (pv 1) (fun _ _ => rfl)) pa_nil)) pe_int (nomark _)))))
 (pss_never) pss_nil)
 (pss_cons (ps_if (PW.pt (pw_and (pt_not (pt_val (pe_ix ix_list (pe_fld (pv 0) rfl) (pv 2) (fun _ _ => rfl)))) (pw_and1 (pt_cmpR op_eq (pe_callB call_len_seq (by rfl) m_len PySem.boot_len (pa_cons (pe_ix ix_list (pe_fld (pv 0) rfl) (pv 2) (fun _ _ => rfl)) pa_nil)) pe_int (nomark _)))))
 (pss_never) pss_nil)
 (pss_cons (ps_expr (pe_bm PySem.F.plainAttrs_list PySem.F.slot_list_append PySem.F.type_list_append mt_append (pe_ix ix_list (pe_fld (pv 0) rfl) (pv 1) (fun _ _ => rfl)) (pa_cons (pv 2) pa_nil)))
 (pss_one (ps_expr (pe_bm PySem.F.plainAttrs_list PySem.F.slot_list_append PySem.F.type_list_append mt_append (pe_ix ix_list (pe_fld (pv 0) rfl) (pv 2) (fun _ _ => rfl)) (pa_cons (pv 1) pa_nil)))))))))), ?_⟩
    obtain ⟨i, rfl⟩ : ∃ i : Nat, u = (i : Int) := ⟨u.toNat, by have := N.lo; omega⟩
    obtain ⟨j, rfl⟩ : ∃ j : Nat, v = (j : Int) := ⟨v.toNat, by have := N.lo; have := N.lt; omega⟩
    have hij := N.lt
    have hj := N.hi
    obtain ⟨a, ha⟩ : ∃ a, ea[i]? = some a := ⟨_, List.getElem?_eq_getElem (by rw [S.le]; omega)⟩
    obtain ⟨a2, ha2⟩ : ∃ a, wa[j]? = some a := ⟨_, List.getElem?_eq_getElem (by rw [S.lw]; omega)⟩
    refine st_drop (P := XV .non) (Ex.refl H) (ex_call2 (ex_var (v := .ref x) rfl) (ex_var (v := .int (i : Int)) rfl) fun G' e' => sa_checkX (S.size.ex e') (by omega) (by omega)) (fun v' G1 H1 g1 _ => ?_)
    have S1 := S.ex g1.hp
    refine st_drop (P := XV .non) (Ex.refl H1) (ex_call2 (ex_var (v := .ref x) rfl) (ex_var (v := .int (j : Int)) rfl) fun G' e' => sa_checkX (S1.size.ex e') (by omega) (by omega)) (fun v' G2 H2 g2 _ => ?_)
    have S2 := S1.ex g2.hp
    have inE : ∀ {H : Hp} {σ : L2.St}, AddSt C H x n parks js dx fs l ym e w' ea wa → σ = [some (.ref x), some (.int (i : Int)), some (.int (j : Int))] → EF (tOp (rIxL K) (tFld K (tVar 0) "_east") (tVar 1)) σ H (XV (.ref a)) := fun {H σ} S es => by
      subst es
      exact ex_ixL (ex_fld (ex_var rfl) S.ins T.cl T.east S.fld.east) (ex_var rfl) rfl (Evl.sq_of S.east) (by rw [List.getElem?_map, ha]; rfl)
    have inW : ∀ {H : Hp} {σ : L2.St}, AddSt C H x n parks js dx fs l ym e w' ea wa → σ = [some (.ref x), some (.int (i : Int)), some (.int (j : Int))] → EF (tOp (rIxL K) (tFld K (tVar 0) "_west") (tVar 2)) σ H (XV (.ref a2)) := fun {H σ} S es => by
      subst es
      exact ex_ixL (ex_fld (ex_var rfl) S.ins T.cl T.west S.fld.west) (ex_var rfl) rfl (Evl.sq_of S.west) (by rw [List.getElem?_map, ha2]; rfl)
    refine st_if0 (Ex.refl H2) (et_or (p := (· = false)) (q := (· = false)) (et_test (ei_op0 (EF.iv (ex_var rfl)) (EF.iv (ex_var rfl)) fun y z G' hy hz => ⟨_, rfl, ?_⟩)) (fun _ => et_test ((ed_inD (d := .int (j : Int)) (ds := (eo js (i : Int)).map PyData.int) (EF.dv (ex_var rfl) (.int _)) (EF.dv (inE S2 rfl) (dp_mkL (S2.ae i a ha) (dpa_ints _))) (sh_int _) (sh_ints _)).imp fun y G' _ ⟨b, eb, hb⟩ => ⟨b, eb, ?_⟩)) (fun z => nomatch z) (fun _ b hb => hb)) (fun H3 e3 => ?_)
    · subst hy hz
      exact decide_eq_false (by omega)
    · rw [hb, any_int]
      exact decide_eq_false fun z => N.new (mem_eo.mp z)
    have S3 := S2.ex e3
    refine st_if0 (Ex.refl H3) (et_and (p := (· = !decide ((i : Int) ∈ parks))) (q := (· = decide (((eo js (i : Int)).length : Int) = 2))) (et_not (et_B (EF.bl (ex_ixL (ex_fld (ex_var rfl) S3.ins T.cl T.marks S3.fld.marks) (ex_var rfl) rfl (Evl.sq_of S3.marks) (by rw [List.getElem?_map, marks_at (by omega)]; rfl)) ?_))) (fun _ => et_test (ei_eq (EF.iv (ex_lenL (inE S3 rfl) (Evl.sq_of (S3.ae i a ha)))) (EF.iv ex_c) fun y z hy hz => ?_)) (fun h b hb => ?_) (fun _ => rfl)) (fun H4 e4 => ?_)
    · rfl
    · subst hy hz
      rw [List.length_map]
    · rw [hb]
      have hp : (i : Int) ∉ parks := by simpa using h.symm
      have := N.ew hp
      exact decide_eq_false (by omega)
    have S4 := S3.ex e4
    refine st_if0 (Ex.refl H4) (et_and (p := (· = !decide ((j : Int) ∈ parks))) (q := (· = decide (((wo js (j : Int)).length : Int) = 2))) (et_not (et_B (EF.bl (ex_ixL (ex_fld (ex_var rfl) S4.ins T.cl T.marks S4.fld.marks) (ex_var rfl) rfl (Evl.sq_of S4.marks) (by rw [List.getElem?_map, marks_at (by omega)]; rfl)) ?_))) (fun _ => et_test (ei_eq (EF.iv (ex_lenL (inW S4 rfl) (Evl.sq_of (S4.aw j a2 ha2)))) (EF.iv ex_c) fun y z hy hz => ?_)) (fun h b hb => ?_) (fun _ => rfl)) (fun H5 e5 => ?_)
    · rfl
    · subst hy hz
      rw [List.length_map]
    · rw [hb]
      have hp : (j : Int) ∉ parks := by simpa using h.symm
      have := N.we hp
      exact decide_eq_false (by omega)
    have S5 := S4.ex e5
    have h0 : 0 < n := by omega
    have lE := eo_len_le js (i : Int)
    have lW := wo_len_le js (j : Int)
    refine st_app (P := XV (.int (j : Int))) (Ex.refl H5) (S5.ae i a ha) (inE S5 rfl) (ex_var rfl) (by rw [List.length_map]; omega) fun y G6 H6 g6 p6 => ?_
    cases (show y = .int (j : Int) from p6)
    have S6 := S5.ex g6.hp
    obtain ⟨n1, n2, n3, n4⟩ := S6.inner h0 (S6.ae i a ha)
    have na : a2 ≠ a := fun z => nd_ne S6.nd ha ha2 z.symm
    have in7 : EF (tOp (rIxL K) (tFld K (tVar 0) "_west") (tVar 2)) [some (.ref x), some (.int (i : Int)), some (.int (j : Int))] (upd H6 a (.lst ((eo js (i : Int)).map V.int ++ [.int (j : Int)]))) (XV (.ref a2)) :=
      ex_ixL (ex_fld (ex_var rfl) (by rw [upd_ne n1]; exact S6.ins) T.cl T.west S6.fld.west) (ex_var rfl) rfl (Evl.sq_of (by rw [upd_ne n4]; exact S6.west)) (by rw [List.getElem?_map, ha2]; rfl)
    refine st_app (P := XV (.int (i : Int))) (Ex.refl _) (by rw [upd_ne na]; exact S6.aw j a2 ha2) in7 (ex_var rfl) (by rw [List.length_map]; omega) fun y G7 H7 g7 p7 => ?_
    cases (show y = .int (i : Int) from p7)
    have eH : ∀ b o, b ≠ a → b ≠ a2 → H b = some o → upd H7 a2 (.lst ((wo js (j : Int)).map V.int ++ [.int (i : Int)])) b = some o := fun b o b1 b2 q => by
      rw [upd_ne b2]
      refine g7.hp _ _ ?_
      rw [upd_ne b1]
      exact g6.hp _ _ (e5 _ _ (e4 _ _ (e3 _ _ (g2.hp _ _ (g1.hp _ _ q)))))
    refine k _ (S.step ha ha2 ?_ ?_ eH) (fun b o b1 b2 q => eH b o (fun z => b1 (by rw [z]; exact List.mem_of_getElem? ha)) (fun z => b2 (by rw [z]; exact List.mem_of_getElem? ha2)) q)
    · rw [upd_ne na.symm, List.map_append]
      exact g7.hp _ _ upd_same
    · rw [upd_same, List.map_append]
      rfl
end
end Kx
set_option Elab.async false
set_option linter.all false
set_option maxRecDepth 100000
set_option maxHeartbeats 8000000
namespace Kx
open PySem L2 Lw
open Evl (Ex)
theorem sc_Layout_init : FnScope ["self", "lengths", "joints", "yards", "length", "west", "east", "block", "_", "blocks"] ["self", "lengths", "joints", "yards"] (defScope s_Layout_init) := ⟨rfl, rfl, rfl, by decide +kernel, rfl, by decide +kernel, by decide +kernel⟩
section
variable {P : Program} {w : World} {K : PySem.W.Frag} {mg : Str → Option Value} {base : Heap} {C : Addr} {f : Addr} {fd : FuncData}
/-- the lists that the last two comprehensions make -/
def SI (K : PySem.W.Frag) (H0 : Hp) (f : Int → List Int) (i : Nat) (acc : List V) (G' : Hp) : Prop := ∃ ess : List (List Int), DpAll K G' acc (ess.map dI) ∧ Srt f i ess ∧ ∀ v ∈ acc, ∃ a, v = .ref a ∧ H0 a = none
theorem si_step {H0 G' : Hp} {f : Int → List Int} {i : Nat} {acc : List V} {p : Addr} {ns' : List Int} (h : SI K H0 f i acc G') (hp : H0 p = none) (hq : G' p = some (.lst (ns'.map V.int))) (h1 : ns'.Perm (f (i : Int))) (h2 : ns'.Pairwise (· ≤ ·)) : SI K H0 f (i + 1) (acc ++ [.ref p]) G' := by
  obtain ⟨ess, hd, hs, hf⟩ := h
  refine ⟨ess ++ [ns'], ?_, ⟨by rw [List.length_append, hs.len]; rfl, fun b x hx => ?_⟩, fun v hv => ?_⟩
  · rw [List.map_append]
    exact dpa_snoc hd (dp_mkL hq (dpa_ints _))
  · by_cases hb : b < ess.length
    · rw [List.getElem?_append_left hb] at hx
      exact hs.at_ b x hx
    · have hl := (List.getElem?_eq_some_iff.mp hx).1
      rw [List.length_append, List.length_singleton] at hl
      have e : b = ess.length := by omega
      subst e
      rw [List.getElem?_append_right (Nat.le_refl _), Nat.sub_self] at hx
      cases hx
      rw [hs.len]
      exact ⟨h1, h2⟩
  · rcases List.mem_append.mp hv with hv | hv
    · exact hf v hv
    · have e : v = .ref p := by simpa using hv
      exact ⟨p, e, hp⟩
theorem SI.ex {H0 G' G2 : Hp} {f : Int → List Int} {i : Nat} {acc : List V} (h : SI K H0 f i acc G') (e : Ex G' G2) : SI K H0 f i acc G2 := by
  obtain ⟨ess, hd, hs, hf⟩ := h
  exact ⟨ess, dpax hd e, hs, hf⟩
theorem ok_init (T : Cl K C) (B : Blt mg) (F : Fun K "__init__" "Layout.__init__" s_Layout_init f fd) (Cc : Cal P w K mg base "check_blocks" 4 ["layout", "blocks"] (spChecks K C)) (Ca : CalM P w K mg base C "_add_joint" 4 ["self", "west", "east"] (spAdd C)) : FnOk P w K mg base CX0 5 f fd ["self", "lengths", "joints", "yards"] (spInitM K C) := by
  obtain ⟨f1, fd1, G_check_blocks, m_check_blocks, k_check_blocks, b_check_blocks⟩ := Cc
  obtain ⟨f2, fd2, G_add_joint, M_add_joint, b_add_joint⟩ := Ca
  have cL := T.cl
  have m_len := B.len
  have m_list := B.list
  have m_range := B.range
  have m_sorted := B.sorted
  refine F.ok sc_Layout_init (fun vs H Q E h => ?_) (fun cdv A outer s H vs Q E hr h => ?_)
  · obtain ⟨G, x, dx, lens, js, parks, a1, a2, a3, rfl, _⟩ := h
    rfl
  · obtain ⟨G, x, dx, lens, js, parks, a1, a2, a3, rfl, hG, gx, hx, d1, d2, d3, n2, hl, hpk, hJ, hjs, k⟩ := h
    refine ⟨_, (pss_cons (ps_for PassesOwn.never rfl (pi_list (pv 1)) (pg_name (i := 4) sc_Layout_init.nd rfl (by first | exact Or.inl rfl | exact Or.inr rfl))
 (pss_one (ps_if (pt_cmpR op_lt (pv 4) pe_int (nomark _))
 (pss_never) pss_nil)))
 (pss_cons (ps_fld (pv 0) (pe_callB call_len_seq (by rfl) m_len PySem.boot_len (pa_cons (pv 1) pa_nil)) rfl)
 (pss_cons (ps_fld (pv 0) (pe_callTy call_list_of (by rfl) m_list (by decide +kernel) (pa_cons (pv 1) pa_nil)) rfl)
 (pss_cons (ps_expr (pe_call G_check_blocks (hr.mono (by decide)) rfl m_check_blocks k_check_blocks b_check_blocks .nil pass0 (pa_cons (pv 0) (pa_cons (pv 3) pa_nil))))
 (pss_cons (ps_fld (pv 0) (pe_lc (own := [("block", 7)]) (g := (gName 7)) (tt := tYes) (te := (tOp (rInD K) (tVar 7) (tVar 3))) rfl sc_Layout_init.nd (pi_range1 rfl m_range (pa_cons (pe_fld (pv 0) rfl) pa_nil)) (blkOk_by (N := ["self", "lengths", "joints", "yards", "length", "west", "east", "block", "_", "blocks"]) (sc := defScope s_Layout_init) (by decide +kernel)) (fun _ _ _ _ _ => pg_name (i := 7) sc_Layout_init.nd rfl (Or.inl rfl)) (fun _ _ _ _ _ => pts_nil) (fun _ _ _ _ _ => (pe_cmpR (op_inD (hu65 hr)) (pv 7) (pv 3) (by rfl)))) rfl)
 (pss_cons (ps_fld (pv 0) (pe_lc (own := [("_", 8)]) (g := (gName 8)) (tt := tYes) rfl sc_Layout_init.nd (pi_range1 rfl m_range (pa_cons (pe_fld (pv 0) rfl) pa_nil)) (blkOk_by (N := ["self", "lengths", "joints", "yards", "length", "west", "east", "block", "_", "blocks"]) (sc := defScope s_Layout_init) (by decide +kernel)) (fun _ _ _ _ _ => pg_name (i := 8) sc_Layout_init.nd rfl (Or.inl rfl)) (fun _ _ _ _ _ => pts_nil) (fun _ _ _ _ _ => (pe_lst pa_nil))) rfl)
 (pss_cons (ps_fld (pv 0) (pe_lc (own := [("_", 8)]) (g := (gName 8)) (tt := tYes) rfl sc_Layout_init.nd (pi_range1 rfl m_range (pa_cons (pe_fld (pv 0) rfl) pa_nil)) (blkOk_by (N := ["self", "lengths", "joints", "yards", "length", "west", "east", "block", "_", "blocks"]) (sc := defScope s_Layout_init) (by decide +kernel)) (fun _ _ _ _ _ => pg_name (i := 8) sc_Layout_init.nd rfl (Or.inl rfl)) (fun _ _ _ _ _ => pts_nil) (fun _ _ _ _ _ => (pe_lst pa_nil))) rfl)
 (pss_cons (ps_for PassesOwn.never rfl (pi_list (pv 2)) (pg_tup rfl (pgs_cons (pg_name (i := 5) sc_Layout_init.nd rfl (by first | exact Or.inl rfl | exact Or.inr rfl)) (pgs_cons (pg_name (i := 6) sc_Layout_init.nd rfl (by first | exact Or.inl rfl | exact Or.inr rfl)) pgs_nil)))
 (pss_one (ps_expr (pe_meth (pv 0) cL M_add_joint G_add_joint (hr.mono (by decide)) b_add_joint .nil pass0 (pa_cons (pv 5) (pa_cons (pv 6) pa_nil))))))
 (pss_cons (ps_fld (pv 0) (pe_lc (own := [("blocks", 9)]) (g := (gName 9)) (tt := tYes) (te := (tCB (rSortedI K) (tCons (tVar 9) tNil))) rfl sc_Layout_init.nd (pi_list (pe_fld (pv 0) rfl)) (blkOk_by (N := ["self", "lengths", "joints", "yards", "length", "west", "east", "block", "_", "blocks"]) (sc := defScope s_Layout_init) (by decide +kernel)) (fun _ _ _ _ _ => pg_name (i := 9) sc_Layout_init.nd rfl (Or.inl rfl)) (fun _ _ _ _ _ => pts_nil) (fun _ _ _ _ _ => (pe_callB cr_sortedI (by rfl) m_sorted (by decide +kernel) (pa_cons (pv 9) pa_nil)))) rfl)
 (pss_one (ps_fld (pv 0) (pe_lc (own := [("blocks", 9)]) (g := (gName 9)) (tt := tYes) (te := (tCB (rSortedI K) (tCons (tVar 9) tNil))) rfl sc_Layout_init.nd (pi_list (pe_fld (pv 0) rfl)) (blkOk_by (N := ["self", "lengths", "joints", "yards", "length", "west", "east", "block", "_", "blocks"]) (sc := defScope s_Layout_init) (by decide +kernel)) (fun _ _ _ _ _ => pg_name (i := 9) sc_Layout_init.nd rfl (Or.inl rfl)) (fun _ _ _ _ _ => pts_nil) (fun _ _ _ _ _ => (pe_callB cr_sortedI (by rfl) m_sorted (by decide +kernel) (pa_cons (pv 9) pa_nil)))) rfl))))))))))), ?_⟩
    obtain ⟨_, xs1, e1, s1, t1⟩ := dp_lst d1
    cases e1
    rw [dpa_ints_eq t1] at s1
    obtain ⟨_, xs3, e3, s3, t3⟩ := dp_lst d3
    cases e3
    rw [dpa_ints_eq t3] at s3
    obtain ⟨_, xs2, e2, s2, t2⟩ := dp_lst d2
    cases e2
    have eGs : Ex G (outH H x) := ex_out hG gx
    have ox : outH H x x = none := out_self
    have len3 : ∀ (f : Str) (v : V) (fs : List (Str × V)), fs.length ≤ 10 → (putF f v fs).length ≤ 11 := fun f v fs h => by have := putF_len f v fs; omega
    refine st_forK (xs := lens.map V.int) hG (ex_var (v := .ref a1) rfl) s1 (fun i σ' H' => Ex H H' ∧ ∃ v, σ' = [some (.ref x), some (.ref a1), some (.ref a2), some (.ref a3), v, none, none, none, none, none]) (fun H' e => ⟨e, _, rfl⟩) (fun i σ' H' hw => hG.trans hw.1) (fun i y σ' H' hi hw => ?_) (fun σ' H1 hw => ?_)
    · obtain ⟨e, v, rfl⟩ := hw
      rw [List.getElem?_map] at hi
      obtain ⟨z, hz, rfl⟩ := Option.map_eq_some_iff.mp hi
      refine st_if0 (Ex.refl H') (et_test (ei_op0 (EF.iv (ex_var (v := .int z) rfl)) (EF.iv ex_c) fun a b G' ha hb => ⟨_, rfl, ?_⟩)) (fun H2 e2 => ⟨e.trans e2, _, rfl⟩)
      subst ha hb
      have := hl _ (List.mem_of_getElem? hz)
      exact decide_eq_false (by omega)
    obtain ⟨q1, v4, rfl⟩ := hw
    have eS1 : Ex (outH H x) H1 := out_ex.trans q1
    refine st_fld (P := XV (.int (lens.length : Int))) (q1 _ _ hx) ((ex_lenL (ex_var (v := .ref a1) rfl) (Evl.ex_l (eGs.trans eS1) s1)).imp fun y G' _ p => by rw [show y = _ from p, List.length_map]; rfl) (ex_var rfl) T.cl T.size (by simp) fun y G2 H2 f2 g2 p2 => ?_
    cases (show y = .int (lens.length : Int) from p2)
    have eS3 : Ex (outH H x) (upd H2 x (.ins C dx (putF "size" (.int (lens.length : Int)) []))) := ex_off (eS1.trans (f2.trans g2)) ox
    have i3 : (upd H2 x (.ins C dx (putF "size" (.int (lens.length : Int)) []))) x = some (.ins C dx (putF "size" (.int (lens.length : Int)) [])) := upd_same
    generalize upd H2 x (.ins C dx (putF "size" (.int (lens.length : Int)) [])) = H3 at eS3 i3 ⊢
    have fl1 : (putF "size" (V.int (lens.length : Int)) []).length ≤ 1 := putF_len _ _ _
    refine st_fld i3 (ed_list (EF.dv (ex_var (v := .ref a1) rfl) (dpx d1 (eGs.trans eS3)))) (ex_var rfl) T.cl T.lens (by omega) fun y G4 H4 f4 g4 p4 => ?_
    obtain ⟨l, xl, rfl, l0, l1, ld⟩ := p4
    have exl := dpa_ints_eq ld
    subst exl
    have hl4 : H4 l = some (.lst (lens.map V.int)) := g4 _ _ l1
    have lx : l ≠ x := fun z => by rw [z, i3] at l0; cases l0
    have l0S : outH H x l = none := none_back eS3 l0
    have eS5o : Ex (outH H x) (upd H4 x (.ins C dx (putF "_lengths" (.ref l) (putF "size" (.int (lens.length : Int)) [])))) := ex_off (eS3.trans (f4.trans g4)) ox
    obtain ⟨BB, hBB⟩ : ∃ BB, BB = upd (outH H x) l (.lst (lens.map V.int)) := ⟨_, rfl⟩
    have eS5 : Ex BB (upd H4 x (.ins C dx (putF "_lengths" (.ref l) (putF "size" (.int (lens.length : Int)) [])))) := by
      rw [hBB]
      exact ex_know eS5o (by rw [upd_ne lx]; exact hl4)
    have eGs0 : Ex G (outH H x) := eGs
    have eBB : Ex (outH H x) BB := by rw [hBB]; exact ex_in l0S
    have eGs : Ex G BB := eGs0.trans eBB
    have BBl : BB l = some (.lst (lens.map V.int)) := by rw [hBB]; exact upd_same
    have BBn : ∀ {a : Addr}, BB a = none → outH H x a = none := fun {a} h => by
      by_cases c : a = l
      · rw [c, BBl] at h; cases h
      · rw [hBB, upd_ne c] at h; exact h
    have ox : BB x = none := by rw [hBB, upd_ne (Ne.symm lx)]; exact ox
    clear hBB
    have i5 : (upd H4 x (.ins C dx (putF "_lengths" (.ref l) (putF "size" (.int (lens.length : Int)) [])))) x = some (.ins C dx (putF "_lengths" (.ref l) (putF "size" (.int (lens.length : Int)) []))) := upd_same
    generalize upd H4 x (.ins C dx (putF "_lengths" (.ref l) (putF "size" (.int (lens.length : Int)) []))) = H5 at eS5 eS5o i5 ⊢
    have fl2 : (putF "_lengths" (.ref l) (putF "size" (V.int (lens.length : Int)) [])).length ≤ 2 := by have := putF_len "_lengths" (.ref l) (putF "size" (V.int (lens.length : Int)) []); omega
    have z5 : (putF "_lengths" (.ref l) (putF "size" (V.int (lens.length : Int)) [])).lookup ("size" : Str) = some (.int (lens.length : Int)) := by rw [lookup_putF, if_neg (by decide +kernel), lookup_putF, if_pos rfl]
    refine st_drop (P := XV .non) (Ex.refl H5) (ex_call2 (ex_var (v := .ref x) rfl) (ex_var (v := .ref a3) rfl) fun G' e' => sa_checks (n := (lens.length : Int)) (bs := parks) ⟨dx, _, e' _ _ i5, z5⟩ (Evl.ex_l (eGs.trans (eS5.trans e')) s3) hpk) (fun v' G6 H6 g6 _ => ?_)
    have eS6 := eS5.trans g6.hp
    have i6 := g6.hp _ _ i5
    have gS : ∀ {H' : Hp} {p : Addr}, Ex BB H' → H' p = none → BB p = none := fun e h => none_back e h
    refine st_fld (P := fun v G' => ∃ p, v = .ref p ∧ H6 p = none ∧ G' p = some (.lst ((marksOf lens.length parks).map V.bl))) i6 (ef_lcR1 (n := (lens.length : Int)) (fun i xs G' => xs = (marksOf i parks).map V.bl) ((ea_one (ex_fld (v := .int (lens.length : Int)) (ex_var rfl) i6 T.cl T.size z5)).imp fun vs G' _ ⟨x, ev, hx⟩ => by rw [ev, show x = _ from hx]) (by omega) (fun x => rfl) (fun G' _ => rfl) (fun i xs G' e1 hi hxs => ec_all ((ed_inD (d := .int (i : Int)) (ds := parks.map PyData.int) (EF.dv (ex_var rfl) (.int _)) (EF.dv (ex_var (v := .ref a3) rfl) (dpx d3 (eGs.trans (eS6.trans e1)))) (sh_int _) (sh_ints _)).imp fun y G' _ ⟨b, eb, hb⟩ => ?_)) (fun p xs G' h1 h2 e1 _ hxs => ⟨p, rfl, h1, by rw [upd_same, hxs]; rfl⟩)) (ex_var rfl) T.cl T.marks (by omega) fun y G7 H7 f7 g7 p7 => ?_
    · rw [eb, hb, any_int, hxs]
      unfold marksOf
      rw [List.range_succ, List.map_append, List.map_append]
      rfl
    obtain ⟨ym, rfl, ym0, ym1⟩ := p7
    have ymS := gS eS6 ym0
    have ymx : ym ≠ x := fun z => by rw [z, i6] at ym0; cases ym0
    have ym8 : (upd H7 x (.ins C dx (putF "_yard_marks" (.ref ym) (putF "_lengths" (.ref l) (putF "size" (.int (lens.length : Int)) []))))) ym = some (.lst ((marksOf lens.length parks).map V.bl)) := by rw [upd_ne ymx]; exact g7 _ _ ym1
    have eS8 : Ex BB (upd H7 x (.ins C dx (putF "_yard_marks" (.ref ym) (putF "_lengths" (.ref l) (putF "size" (.int (lens.length : Int)) []))))) := ex_off (eS6.trans (f7.trans g7)) ox
    have i8 : (upd H7 x (.ins C dx (putF "_yard_marks" (.ref ym) (putF "_lengths" (.ref l) (putF "size" (.int (lens.length : Int)) []))))) x = some (.ins C dx (putF "_yard_marks" (.ref ym) (putF "_lengths" (.ref l) (putF "size" (.int (lens.length : Int)) [])))) := upd_same
    generalize upd H7 x (.ins C dx (putF "_yard_marks" (.ref ym) (putF "_lengths" (.ref l) (putF "size" (.int (lens.length : Int)) [])))) = H8 at ym8 eS8 i8 ⊢
    have fl3 : (putF "_yard_marks" (.ref ym) (putF "_lengths" (.ref l) (putF "size" (V.int (lens.length : Int)) []))).length ≤ 3 := by have := putF_len "_yard_marks" (.ref ym) (putF "_lengths" (.ref l) (putF "size" (V.int (lens.length : Int)) [])); omega
    have z8 : (putF "_yard_marks" (.ref ym) (putF "_lengths" (.ref l) (putF "size" (V.int (lens.length : Int)) []))).lookup ("size" : Str) = some (.int (lens.length : Int)) := by rw [lookup_putF, if_neg (by decide +kernel)]; exact z5
    have mk : ∀ {H8 : Hp} {fs : List (Str × V)} {σ : L2.St}, H8 x = some (.ins C dx fs) → fs.lookup ("size" : Str) = some (.int (lens.length : Int)) → σ = [some (.ref x), some (.ref a1), some (.ref a2), some (.ref a3), v4, none, none, none, none, none] →
        EF (tLc (iRng1 (tCons (tFld K (tVar 0) "size") tNil)) (gName 8) tYes (tLst tNil) [8]) σ H8 fun v G' => ∃ p as, v = .ref p ∧ H8 p = none ∧ G' p = some (.lst ((as : List Addr).map V.ref)) ∧ as.length = lens.length ∧ as.Nodup ∧ ∀ a ∈ as, H8 a = none ∧ G' a = some (.lst []) := fun {H8 fs σ} i8 z8 es => by
      subst es
      refine ef_lcR1 (n := (lens.length : Int)) (fun i xs G' => ∃ as : List Addr, xs = as.map V.ref ∧ as.length = i ∧ as.Nodup ∧ ∀ a ∈ as, H8 a = none ∧ G' a = some (.lst [])) ((ea_one (ex_fld (v := .int (lens.length : Int)) (ex_var rfl) i8 T.cl T.size z8)).imp fun vs G' _ ⟨x, ev, hx⟩ => by rw [ev, show x = _ from hx]) (by omega) (fun x => rfl) (fun G' _ => ⟨[], rfl, rfl, .nil, fun a m => nomatch m⟩) (fun i xs G' e1 hi hxs => ec_all (ef_lst ea_nil (fun vs _ h => by rw [h]; simp) fun q vs G2 e2 h1 h2 ev => ?_)) (fun p xs G' h1 h2 e1 _ hxs => ?_)
      · obtain ⟨as, rfl, hl, hn, ha⟩ := hxs
        have hq : q ∉ as := fun m => by
          have := (ha q m).2
          rw [h1] at this
          cases this
        refine ⟨as ++ [q], by rw [List.map_append]; rfl, by rw [List.length_append, hl]; rfl, List.nodup_append.mpr ⟨hn, by simp, fun a m b mb => ?_⟩, fun a m => ?_⟩
        · have e3 : b = q := by simpa using mb
          subst e3
          exact fun z => hq (z ▸ m)
        · rcases List.mem_append.mp m with m1 | m1
          · have aq : a ≠ q := fun z => by subst z; exact hq m1
            exact ⟨(ha a m1).1, by rw [upd_ne aq]; exact e2 _ _ (ha a m1).2⟩
          · have e3 : a = q := by simpa using m1
            subst e3
            exact ⟨none_back e1 h1, by rw [upd_same, ev]⟩
      · obtain ⟨as, rfl, hl, hn, ha⟩ := hxs
        refine ⟨p, as, rfl, h1, upd_same, by rw [hl]; simp, hn, fun a m => ⟨(ha a m).1, ?_⟩⟩
        have ap : a ≠ p := fun z => by
          subst z
          have q := (ha a m).2
          rw [h2] at q
          cases q
        rw [upd_ne ap]
        exact (ha a m).2
    refine st_fld i8 (mk i8 z8 rfl) (ex_var rfl) T.cl T.east (by omega) fun y G9 H9 f9 g9 p9 => ?_
    obtain ⟨e, ea, rfl, e0, e1, le, ne, he⟩ := p9
    generalize hfs3 : putF "_yard_marks" (.ref ym) (putF "_lengths" (.ref l) (putF "size" (V.int (lens.length : Int)) [])) = fs3 at fl3 z8 i8 ⊢
    have kp : ∀ {H0 H1 H2 : Hp} {fs fs' : List (Str × V)} {b : Addr} {o : HO}, H0 x = some (.ins C dx fs) → Ex H0 H1 → Ex H1 H2 → (H0 b = some o → b ≠ x → (upd H2 x (.ins C dx fs')) b = some o) := fun h0 q1 q2 hb hn => by rw [upd_ne hn]; exact q2 _ _ (q1 _ _ hb)
    have nx : ∀ {H0 : Hp} {fs : List (Str × V)} {b : Addr}, H0 x = some (.ins C dx fs) → H0 b = none → b ≠ x := fun h0 hb z => by rw [z, h0] at hb; cases hb
    have nl : ∀ {H0 : Hp} {fs : List (Str × V)} {b : Addr} {xs : List V}, H0 x = some (.ins C dx fs) → H0 b = some (.lst xs) → b ≠ x := fun h0 hb z => by rw [z, h0] at hb; cases hb
    have ym10 := kp (fs' := putF "_east" (.ref e) fs3) i8 f9 g9 ym8 (nl i8 ym8)
    have e10 : (upd H9 x (.ins C dx (putF "_east" (.ref e) fs3))) e = some (.lst (ea.map V.ref)) := by rw [upd_ne (nx i8 e0)]; exact g9 _ _ e1
    have ea10 : ∀ a ∈ ea, (upd H9 x (.ins C dx (putF "_east" (.ref e) fs3))) a = some (.lst []) := fun a m => by rw [upd_ne (nx i8 (he a m).1)]; exact g9 _ _ (he a m).2
    have eaS : ∀ a ∈ ea, BB a = none := fun a m => gS eS8 (he a m).1
    have eS10 : Ex BB (upd H9 x (.ins C dx (putF "_east" (.ref e) fs3))) := ex_off (eS8.trans (f9.trans g9)) ox
    have i10 : (upd H9 x (.ins C dx (putF "_east" (.ref e) fs3))) x = some (.ins C dx (putF "_east" (.ref e) fs3)) := upd_same
    have eS := gS eS8 e0
    generalize upd H9 x (.ins C dx (putF "_east" (.ref e) fs3)) = H10 at ym10 e10 ea10 eS10 i10 ⊢
    have fl4 : (putF "_east" (.ref e) fs3).length ≤ 4 := by have := putF_len "_east" (.ref e) fs3; omega
    have z10 : (putF "_east" (.ref e) fs3).lookup ("size" : Str) = some (.int (lens.length : Int)) := by rw [lookup_putF, if_neg (by decide +kernel)]; exact z8
    refine st_fld i10 (mk i10 z10 rfl) (ex_var rfl) T.cl T.west (by omega) fun y G11 H11 f11 g11 p11 => ?_
    obtain ⟨w1, wa, rfl, w0, w2, lw, nw, hw⟩ := p11
    have ym12 := kp (fs' := putF "_west" (.ref w1) (putF "_east" (.ref e) fs3)) i10 f11 g11 ym10 (nl i10 ym10)
    have e12 := kp (fs' := putF "_west" (.ref w1) (putF "_east" (.ref e) fs3)) i10 f11 g11 e10 (nl i10 e10)
    have ea12 : ∀ a ∈ ea, (upd H11 x (.ins C dx (putF "_west" (.ref w1) (putF "_east" (.ref e) fs3)))) a = some (.lst []) := fun a m => kp i10 f11 g11 (ea10 a m) (nl i10 (ea10 a m))
    have w12 : (upd H11 x (.ins C dx (putF "_west" (.ref w1) (putF "_east" (.ref e) fs3)))) w1 = some (.lst (wa.map V.ref)) := by rw [upd_ne (nx i10 w0)]; exact g11 _ _ w2
    have wa12 : ∀ a ∈ wa, (upd H11 x (.ins C dx (putF "_west" (.ref w1) (putF "_east" (.ref e) fs3)))) a = some (.lst []) := fun a m => by rw [upd_ne (nx i10 (hw a m).1)]; exact g11 _ _ (hw a m).2
    have waS : ∀ a ∈ wa, BB a = none := fun a m => gS eS10 (hw a m).1
    have eS12 : Ex BB (upd H11 x (.ins C dx (putF "_west" (.ref w1) (putF "_east" (.ref e) fs3)))) := ex_off (eS10.trans (f11.trans g11)) ox
    have i12 : (upd H11 x (.ins C dx (putF "_west" (.ref w1) (putF "_east" (.ref e) fs3)))) x = some (.ins C dx (putF "_west" (.ref w1) (putF "_east" (.ref e) fs3))) := upd_same
    have wS := gS eS10 w0
    generalize upd H11 x (.ins C dx (putF "_west" (.ref w1) (putF "_east" (.ref e) fs3))) = H12 at ym12 e12 ea12 w12 wa12 eS12 i12 ⊢
    have fl5 : (putF "_west" (.ref w1) (putF "_east" (.ref e) fs3)).length ≤ 5 := by have := putF_len "_west" (.ref w1) (putF "_east" (.ref e) fs3); omega
    have fld : FLd (putF "_west" (.ref w1) (putF "_east" (.ref e) fs3)) (lens.length : Int) l ym e w1 := by subst hfs3; exact fld5.1
    generalize putF "_west" (.ref w1) (putF "_east" (.ref e) fs3) = fs5 at i12 fl5 fld ⊢
    have S0 : AddSt C H12 x lens.length parks [] dx fs5 l ym e w1 ea wa := ⟨i12, fld, ym12, e12, w12, le, lw, fun b a h => ea12 a (List.mem_of_getElem? h), fun b a h => wa12 a (List.mem_of_getElem? h), List.nodup_append.mpr ⟨ne, nw, fun a m b mb z => by
      subst z
      have q := (hw a mb).1
      rw [ea10 a m] at q
      cases q⟩⟩
    have l2 : xs2.length = js.length := by rw [dpa_len t2, List.length_map]
    refine st_forK (xs := xs2) eS12 (ex_var (v := .ref a2) rfl) (Evl.ex_l eGs s2) (fun i σ' H' => Ex BB H' ∧ AddSt C H' x lens.length parks (js.take i) dx fs5 l ym e w1 ea wa ∧ ∃ v5 v6, σ' = [some (.ref x), some (.ref a1), some (.ref a2), some (.ref a3), v4, v5, v6, none, none, none]) (fun H' e => ⟨eS12.trans e, S0.ex e, _, _, rfl⟩) (fun i σ' H' hw => hw.1) (fun i y σ' H' hi hw => ?_) (fun σ' H13 hw => ?_)
    · obtain ⟨ew, S, v5, v6, rfl⟩ := hw
      obtain ⟨d, hd, dy⟩ := dpa_get t2 hi
      rw [List.getElem?_map] at hd
      obtain ⟨⟨u, v⟩, huv, rfl⟩ := Option.map_eq_some_iff.mp hd
      obtain ⟨a, xs, rfl, hs, hxs⟩ := dp_tup dy
      have exs : xs = [.int u, .int v] := dpa_ints_eq (zs := [u, v]) hxs
      rw [exs] at hs
      have N := hJ.at huv
      refine ⟨a, [.int u, .int v], rfl, Evl.ex_t (eGs.trans ew) hs, rfl, .int u, [.int v], rfl, .int v, [], rfl, rfl, ?_⟩
      refine ⟨_, rfl, x, dx, fs5, rfl, S.ins, S.fld.no _ (by decide +kernel) (by decide +kernel) (by decide +kernel) (by decide +kernel) (by decide +kernel), _, rfl, _, rfl, x, lens.length, parks, js.take i, dx, fs5, l, ym, e, w1, ea, wa, u, v, rfl, S, N, by rw [List.length_take]; omega, fun H2 S2 hk => ⟨fun b o q => hk b o (fun m => ?_) (fun m => ?_) (ew b o q), ?_, _, _, rfl⟩⟩
      · rw [eaS b m] at q
        cases q
      · rw [waS b m] at q
        cases q
      · rw [take_next huv]
        exact S2
    obtain ⟨eS13, S, v5, v6, rfl⟩ := hw
    rw [l2, List.take_length] at S
    have sortC : ∀ {H0 : Hp} {fs : List (Str × V)} {nm : Str} {o : Addr} {as : List Addr} {f : Int → List Int} {σ : L2.St}, H0 x = some (.ins C dx fs) → NoAttr K C nm → fs.lookup nm = some (.ref o) → H0 o = some (.lst (as.map V.ref)) → as.length = lens.length → (∀ (b : Nat) a, as[b]? = some a → H0 a = some (.lst ((f (b : Int)).map V.int))) → σ = [some (.ref x), some (.ref a1), some (.ref a2), some (.ref a3), v4, v5, v6, none, none, none] →
        EF (tLc (iList K (tFld K (tVar 0) nm)) (gName 9) tYes (tCB (rSortedI K) (tCons (tVar 9) tNil)) [9]) σ H0 fun v G' => ∃ p acc, v = .ref p ∧ H0 p = none ∧ G' p = some (.lst acc) ∧ SI K H0 f lens.length acc G' := fun {H0 fs nm o as f σ} hi hn hl ho hlen ha es => by
      subst es
      refine ef_lcL (xs := as.map V.ref) (fun i acc G' => SI K H0 f i acc G') ((ex_fld (v := .ref o) (ex_var rfl) hi T.cl hn hl).imp fun v G' e p => ⟨o, p, Evl.ex_l e (Evl.sq_of ho)⟩) (by rw [List.length_map]; omega) (fun x => rfl) (fun G' _ => ⟨[], .nil, ⟨rfl, fun b x h => by simp at h⟩, fun v m => nomatch m⟩) (fun i y acc G' e1 hi2 hI => ?_) (fun p acc G' h1 h2 e1 _ hI => ⟨p, acc, rfl, h1, upd_same, ?_⟩)
      · rw [List.getElem?_map] at hi2
        obtain ⟨a, hai, rfl⟩ := Option.map_eq_some_iff.mp hi2
        refine ec_all ((ef_sortI (ns := f (i : Int)) (ex_var (v := .ref a) rfl) (Evl.sq_of (e1 _ _ (ha i a hai)))).imp fun v G2 e2 p => ?_)
        obtain ⟨p, ns', rfl, h1, h2, h3, h4⟩ := p
        exact si_step (hI.ex e2) (none_back e1 h1) h2 h3 h4
      · rw [List.length_map, hlen] at hI
        exact hI.ex (ex_in h2)
    refine st_fld S.ins (sortC S.ins T.east fld.east S.east S.le S.ae rfl) (ex_var rfl) T.cl T.east (by omega) fun y G14 H14 f14 g14 p14 => ?_
    obtain ⟨e2', acc1, rfl, ee0, ee1, ess1, D1, Sr1, F1⟩ := p14
    have freshS : ∀ {H' : Hp} {acc : List V}, Ex BB H' → (∀ v ∈ acc, ∃ a, v = V.ref a ∧ H' a = none) → ∀ a, V.ref a ∈ acc → BB a = none := fun e h a m => by
      obtain ⟨b, eb, hb⟩ := h _ m
      cases eb
      exact gS e hb
    have freshX : ∀ {H' : Hp} {fs : List (Str × V)} {acc : List V}, H' x = some (.ins C dx fs) → (∀ v ∈ acc, ∃ a, v = V.ref a ∧ H' a = none) → ∀ a, V.ref a ∈ acc → a ≠ x := fun e h a m => by
      obtain ⟨b, eb, hb⟩ := h _ m
      cases eb
      exact nx e hb
    have eS15 : Ex BB (upd H14 x (.ins C dx (putF "_east" (.ref e2') fs5))) := ex_off (eS13.trans (f14.trans g14)) ox
    have i15 : (upd H14 x (.ins C dx (putF "_east" (.ref e2') fs5))) x = some (.ins C dx (putF "_east" (.ref e2') fs5)) := upd_same
    have ym15 := kp (fs' := putF "_east" (.ref e2') fs5) S.ins f14 g14 S.marks (nl S.ins S.marks)
    have w15 := kp (fs' := putF "_east" (.ref e2') fs5) S.ins f14 g14 S.west (nl S.ins S.west)
    have aw15 : ∀ (b : Nat) a, wa[b]? = some a → (upd H14 x (.ins C dx (putF "_east" (.ref e2') fs5))) a = some (.lst ((wo js (b : Int)).map V.int)) := fun b a h => kp S.ins f14 g14 (S.aw b a h) (nl S.ins (S.aw b a h))
    have e15 : (upd H14 x (.ins C dx (putF "_east" (.ref e2') fs5))) e2' = some (.lst acc1) := by rw [upd_ne (nx S.ins ee0)]; exact g14 _ _ ee1
    have D15 : DpAll K (upd H14 x (.ins C dx (putF "_east" (.ref e2') fs5))) acc1 (ess1.map dI) := dpa_upd (freshX S.ins F1) (dpax D1 g14)
    have S1x : ∀ a, V.ref a ∈ acc1 → BB a = none := freshS eS13 F1
    have X1x : ∀ a, V.ref a ∈ acc1 → a ≠ x := freshX S.ins F1
    have eeS := gS eS13 ee0
    have eex := nx S.ins ee0
    generalize upd H14 x (.ins C dx (putF "_east" (.ref e2') fs5)) = H15 at eS15 i15 ym15 w15 aw15 e15 D15 ⊢
    have fld6 : FLd (putF "_east" (.ref e2') fs5) (lens.length : Int) l ym e2' w1 := fld.putE (by omega)
    have fl6 : (putF "_east" (.ref e2') fs5).length ≤ 6 := by have := putF_len "_east" (.ref e2') fs5; omega
    generalize putF "_east" (.ref e2') fs5 = fs6 at i15 fld6 fl6 ⊢
    refine st_fld i15 (sortC i15 T.west fld6.west w15 S.lw aw15 rfl) (ex_var rfl) T.cl T.west (by omega) fun y G16 H16 f16 g16 p16 => ?_
    obtain ⟨w2', acc2, rfl, ww0, ww1, ess2, D2, Sr2, F2⟩ := p16
    have eS17 : Ex BB (upd H16 x (.ins C dx (putF "_west" (.ref w2') fs6))) := ex_off (eS15.trans (f16.trans g16)) ox
    have ym17 := kp (fs' := putF "_west" (.ref w2') fs6) i15 f16 g16 ym15 (nl i15 ym15)
    have e17 := kp (fs' := putF "_west" (.ref w2') fs6) i15 f16 g16 e15 eex
    have w17 : (upd H16 x (.ins C dx (putF "_west" (.ref w2') fs6))) w2' = some (.lst acc2) := by rw [upd_ne (nx i15 ww0)]; exact g16 _ _ ww1
    have D17 : DpAll K (upd H16 x (.ins C dx (putF "_west" (.ref w2') fs6))) acc1 (ess1.map dI) := dpa_upd X1x (dpax D15 (f16.trans g16))
    have D18 : DpAll K (upd H16 x (.ins C dx (putF "_west" (.ref w2') fs6))) acc2 (ess2.map dI) := dpa_upd (freshX i15 F2) (dpax D2 g16)
    have S2x : ∀ a, V.ref a ∈ acc2 → BB a = none := freshS eS15 F2
    have wwS := gS eS15 ww0
    have i17 : (upd H16 x (.ins C dx (putF "_west" (.ref w2') fs6))) x = some (.ins C dx (putF "_west" (.ref w2') fs6)) := upd_same
    have fld7 : FLd (putF "_west" (.ref w2') fs6) (lens.length : Int) l ym e2' w2' := fld6.putW (by omega)
    show Q .non (upd H16 x (.ins C dx (putF "_west" (.ref w2') fs6)))
    generalize upd H16 x (.ins C dx (putF "_west" (.ref w2') fs6)) = H17 at eS17 ym17 e17 w17 D17 D18 i17 ⊢
    have hS0 : ∀ a ∈ x :: ym :: e2' :: w2' :: (adrs acc1 ++ adrs acc2), BB a = none := fun a m => by
      rcases List.mem_cons.mp m with rfl | m
      · exact ox
      rcases List.mem_cons.mp m with rfl | m
      · exact ymS
      rcases List.mem_cons.mp m with rfl | m
      · exact eeS
      rcases List.mem_cons.mp m with rfl | m
      · exact wwS
      rcases List.mem_append.mp m with m | m
      · exact S1x a (mem_adrs.mp m)
      · exact S2x a (mem_adrs.mp m)
    have hS : ∀ a ∈ l :: x :: ym :: e2' :: w2' :: (adrs acc1 ++ adrs acc2), outH H x a = none := fun a m => by
      rcases List.mem_cons.mp m with rfl | m
      · exact l0S
      · exact BBn (hS0 a m)
    refine k (l :: x :: ym :: e2' :: w2' :: (adrs acc1 ++ adrs acc2)) H17 fun G0 e0 => ⟨pick_gr hS e0 (eBB.trans eS17), ⟨dx, _, l, ym, e2', w2', ess1, ess2, by rw [pick_in (by simp)]; exact i17, fld7, dp_mkL (xs := (marksOf lens.length parks).map V.bl) (by rw [pick_in (by simp)]; exact ym17) ?_, dp_mkL (xs := acc1) (by rw [pick_in (by simp)]; exact e17) (dpa_pick (fun a m => by simp [mem_adrs, m]) D17), dp_mkL (xs := acc2) (by rw [pick_in (by simp)]; exact w17) (dpa_pick (fun a m => by simp [mem_adrs, m]) D18), Sr1, Sr2⟩, dx, _, l, by rw [pick_in (by simp)]; exact i17, fld7.lens, dp_mkL (xs := lens.map V.int) (by rw [pick_in (List.mem_cons_self ..)]; exact eS17 _ _ BBl) (dpa_ints _)⟩
    exact dpa_bls _
end
end Kx
set_option Elab.async false
set_option linter.all false
set_option maxRecDepth 100000
set_option maxHeartbeats 8000000
namespace Kx
open PySem L2 Lw
open Evl (Ex)
theorem sc_cell : FnScope ["_law_script", "_law_k"] ["_law_script", "_law_k"] (defScope s_cell) := ⟨rfl, rfl, rfl, by decide +kernel, rfl, by decide +kernel, by decide +kernel⟩
theorem sc_draw : FnScope ["_law_cell_here", "_law_k", "_law_size", "_law_rest", "_law_mixed", "_law_turn"] ["_law_cell_here", "_law_k", "_law_size"] (defScope s_draw) := ⟨rfl, rfl, rfl, by decide +kernel, rfl, by decide +kernel, by decide +kernel⟩
section
variable {P : Program} {w : World} {K : PySem.W.Frag} {mg : Str → Option Value} {base : Heap} {C : Addr} {f : Addr} {fd : FuncData}
theorem ok_cell (B : Blt mg) (F : Fun K "_law_cell" "_law_cell" s_cell f fd) : FnOk P w K mg base CX0 1 f fd ["_law_script", "_law_k"] (Lw.spCell K) := by
  have m_len := B.len
  have m_int := B.int
  refine F.ok sc_cell (fun vs H Q E h => ?_) (fun cdv A outer s H vs Q E hr h => ?_)
  · obtain ⟨G, l, ns, k, _, rfl, _⟩ := h
    rfl
  · obtain ⟨G, l, ns, kk, hG, rfl, hs, hn, h0, h1, k⟩ := h
    refine ⟨_, (pss_cons (ps_if (pt_cmpR op_lt (pv 1) (pe_callB call_len_seq (by rfl) m_len PySem.boot_len (pa_cons (pv 0) pa_nil)) (nomark _))
 (pss_one (ps_ret (pe_ix ix_list (pv 0) (pv 1) (fun _ _ => rfl)))) pss_nil)
 (pss_cons (ps_if (pt_cmpR op_eq (pe_callB call_len_seq (by rfl) m_len PySem.boot_len (pa_cons (pv 0) pa_nil)) pe_int (nomark _))
 (pss_one (ps_ret (pe_op op_mul pe_int (pv 1)))) pss_nil)
 (pss_one (ps_ret (pe_op op_add (pe_ix ix_list (pv 0) (pe_op op_mod (pe_callTy call_int1 (by rfl) m_int (by decide +kernel) (pa_cons (pv 1) pa_nil)) (pe_callB call_len_seq (by rfl) m_len PySem.boot_len (pa_cons (pv 0) pa_nil))) (fun _ _ => rfl)) (pe_op op_mul pe_int (pv 1))))))), ?_⟩
    have lenv : ∀ {H' : Hp}, Ex G H' → EF (tCB (Evl.rLenS K) (tCons (tVar 0) tNil)) [some (.ref l), some (.int kk)] H' (XV (.int (ns.length : Int))) := fun {H'} e => (ex_lenL (ex_var (v := .ref l) rfl) (Evl.ex_l e hs)).imp fun y _ _ p => by rw [show y = _ from p, List.length_map]; rfl
    refine st_if (p := (· = decide (kk < (ns.length : Int)))) hG (et_test (ec_int (f := fun i j => decide (i < j)) (EF.iv (ex_var rfl)) (EF.iv (lenv (Ex.refl G))) fun a b ha hb => by rw [ha, hb])) (fun h H' e => ?_) (fun h H' e => ?_)
    · have hlt := of_decide_eq_true h.symm
      obtain ⟨j, rfl⟩ : ∃ j : Nat, kk = (j : Int) := ⟨kk.toNat, by omega⟩
      have hj : j < ns.length := by omega
      exact st_ret (P := XV (.int ns[j])) (hG.trans e) (ex_ixL (ex_var rfl) (ex_var rfl) rfl hs (by rw [List.getElem?_map, List.getElem?_eq_getElem hj]; rfl)) (fun v G' H2 g p => k v G' H2 ((Gr.same hG e).trans g) ⟨_, p, trivial⟩)
    refine st_if (p := (· = decide ((ns.length : Int) = 0))) (hG.trans e) (et_test (ei_eq (EF.iv (lenv (Ex.refl G))) (EF.iv ex_c) fun a b ha hb => by rw [ha, hb])) (fun h2 H2 e2 => ?_) (fun h2 H2 e2 => ?_)
    · exact st_ret (P := IV fun _ => True) (hG.trans (e.trans e2)) (ei_mul (p := (· = 7919)) (q := fun _ => True) (EF.iv ex_c) (EF.ivp (ex_var rfl) trivial) (fun a ha => by omega) fun _ _ _ _ => trivial) (fun v G' H3 g p => k v G' H3 ((Gr.same hG (e.trans e2)).trans g) p)
    · have hne := of_decide_eq_false h2.symm
      refine st_ret (P := IV fun _ => True) (hG.trans (e.trans e2)) (ei_add (p := fun _ => True) (q := fun _ => True) (ed_ixL (ds := ns.map PyData.int) (q := fun z => 0 ≤ z ∧ z < (ns.length : Int)) (EF.dv (ex_var (v := .ref l) rfl) (.lst hs (dpa_ints ns))) (ei_mod (n := (ns.length : Int)) (ei_int (EF.iv (ex_var rfl))) (EF.iv (lenv (Ex.refl G))) (by omega) fun a _ => ⟨Int.emod_nonneg _ (by omega), Int.emod_lt_of_pos _ (by omega)⟩) fun i hi => ?_) (ei_mul (p := (· = 7919)) (q := fun _ => True) (EF.iv ex_c) (EF.ivp (ex_var rfl) trivial) (fun a ha => by omega) fun _ _ _ _ => trivial) fun _ _ _ _ => trivial) (fun v G' H3 g p => k v G' H3 ((Gr.same hG (e.trans e2)).trans g) p)
      have hj : i.toNat < ns.length := by omega
      exact ⟨i.toNat, .int ns[i.toNat], by omega, by rw [List.getElem?_map, List.getElem?_eq_getElem hj]; rfl, fun v G' d => by cases d; exact ⟨_, rfl, trivial⟩⟩
theorem ok_draw (B : Blt mg) (F : Fun K "_law_draw" "_law_draw" s_draw f fd) : FnOk P w K mg base CX0 1 f fd ["_law_cell_here", "_law_k", "_law_size"] spDraw := by
  have m_abs := B.abs
  have m_int := B.int
  have m_range := B.range
  refine F.ok sc_draw (fun vs H Q E h => ?_) (fun cdv A outer s H vs Q E hr h => ?_)
  · obtain ⟨G, c, k, n, _, rfl, _⟩ := h
    rfl
  · obtain ⟨G, c, kk, n, hG, rfl, h0, h1, h2, h3, k⟩ := h
    refine ⟨_, (pss_cons (ps_set (i := 3) sc_draw.nd rfl (by first | exact Or.inl rfl | exact Or.inr rfl) (pe_callB call_abs (by rfl) m_abs (by decide +kernel) (pa_cons (pv 0) pa_nil)))
 (Evl.pss_cut (ps_if (pt_cmpR op_ge (pv 3) pe_int (nomark _))
 (pss_cons (ps_for PassesOwn.never rfl (pi_range1 rfl m_range (pa_cons (pv 1) pa_nil)) (pg_name (i := 5) sc_draw.nd rfl (by first | exact Or.inl rfl | exact Or.inr rfl))
 (pss_one (ps_set (i := 3) sc_draw.nd rfl (by first | exact Or.inl rfl | exact Or.inr rfl) (pe_op op_fdiv (pv 3) pe_int))))
 (pss_one (ps_if (pt_cmpR op_gt (pv 3) pe_int (nomark _))
 (pss_one (ps_ret (pe_op op_mod (pe_callTy call_int1 (by rfl) m_int (by decide +kernel) (pa_cons (pe_op op_mod (pe_callTy call_int1 (by rfl) m_int (by decide +kernel) (pa_cons (pv 3) pa_nil)) pe_int) pa_nil)) (pv 2)))) pss_nil))) pss_nil)
 (pss_cons (ps_set (i := 4) sc_draw.nd rfl (by first | exact Or.inl rfl | exact Or.inr rfl) (pe_op op_mod (pe_callTy call_int1 (by rfl) m_int (by decide +kernel) (pa_cons (pe_op op_add (pe_op op_add (pe_callB call_abs (by rfl) m_abs (by decide +kernel) (pa_cons (pv 0) pa_nil)) (pe_op op_mul pe_int (pv 1))) pe_int) pa_nil)) pe_int))
 (pss_cons (ps_set (i := 4) sc_draw.nd rfl (by first | exact Or.inl rfl | exact Or.inr rfl) (pe_op op_mod (pe_callTy call_int1 (by rfl) m_int (by decide +kernel) (pa_cons (pe_op op_mul (pv 4) (pe_op op_add (pv 4) pe_int)) pa_nil)) pe_int))
 (pss_cons (ps_set (i := 4) sc_draw.nd rfl (by first | exact Or.inl rfl | exact Or.inr rfl) (pe_op op_mod (pe_callTy call_int1 (by rfl) m_int (by decide +kernel) (pa_cons (pe_op op_add (pe_op op_mul (pv 4) (pe_op op_add (pv 4) pe_int)) (pe_op op_mul pe_int (pv 1))) pa_nil)) pe_int))
 (pss_one (ps_ret (pe_op op_mod (pe_callTy call_int1 (by rfl) m_int (by decide +kernel) (pa_cons (pe_op op_fdiv (pv 4) pe_int) pa_nil)) (pv 2))))))))), ?_⟩
    have fin : ∀ {G' H' : Hp} {σ : L2.St} {te : TE} {i : Nat}, Ex H H' → EF te σ G' (IV fun _ => True) → Ex G' H' → σ[i]? = some (some (.int n)) → EF (tOp (rI (fun _ j => 0 < j) fun i j => .int (i % j)) (tCB rIntI (tCons te tNil)) (tVar i)) σ G' (IV fun z => 0 ≤ z ∧ z < n) := fun e hv _ hi =>
      ei_mod (n := n) (ei_int hv) (EF.iv (ex_var hi)) (by omega) fun a _ => ⟨Int.emod_nonneg _ (by omega), Int.emod_lt_of_pos _ (by omega)⟩
    refine st_asg (P := IV fun _ => True) hG (ei_abs (EF.iv (ex_var (v := .int c) rfl))) fun v1 G1 H1 g1 ⟨r1, e1, _⟩ => ?_
    subst e1
    refine ⟨fun σ' H' => Ex H H' ∧ ∃ r v5, σ' = [some (.int c), some (.int kk), some (.int n), some (.int r), none, v5], ?_, ?_⟩
    · refine st_if (p := fun _ => True) (Ex.refl H1) (et_test (ec_int (p := fun _ => True) (q := fun _ => True) (f := fun i j => decide (j ≤ i)) (EF.ivp (ex_var rfl) trivial) (EF.ivp ex_c trivial) fun _ _ _ _ => trivial)) (fun _ H2 e2 => ?_) (fun _ H2 e2 => ⟨g1.hp.trans e2, _, _, rfl⟩)
      refine st_forR1 (n := kk) (Ex.refl H2) ((ea_one (ex_var (v := .int kk) rfl)).imp fun vs G' _ ⟨x, ev, hx⟩ => by rw [ev, show x = _ from hx]) (by omega) (by omega) (fun i σ' H' => Ex H H' ∧ ∃ r v5, σ' = [some (.int c), some (.int kk), some (.int n), some (.int r), none, v5]) (fun H' e => ⟨g1.hp.trans (e2.trans e), _, _, rfl⟩) (fun i σ' H' hi hw => ?_) (fun σ' H' hw => ?_)
      · obtain ⟨e, r, v5, rfl⟩ := hw
        refine st_asg (P := IV fun _ => True) (Ex.refl H') (ei_div (n := 64) (EF.iv (ex_var (v := .int r) rfl)) (EF.iv ex_c) (by omega) (by omega) fun _ _ => trivial) fun v2 G2 H2 g2 ⟨r2, er, _⟩ => ?_
        subst er
        exact ⟨e.trans g2.hp, _, _, rfl⟩
      · obtain ⟨e, r, v5, rfl⟩ := hw
        refine st_if (p := fun _ => True) (Ex.refl H') (et_test (ec_int (p := fun _ => True) (q := fun _ => True) (f := fun i j => decide (j < i)) (EF.ivp (ex_var (v := .int r) rfl) trivial) (EF.ivp ex_c trivial) fun _ _ _ _ => trivial)) (fun _ H3 e3 => ?_) (fun _ H3 e3 => ⟨e.trans e3, _, _, rfl⟩)
        exact st_ret (P := IV fun z => 0 ≤ z ∧ z < n) (hG.trans (e.trans e3)) (fin (e.trans e3) (ei_mod (n := 64) (s := fun _ => True) (ei_int (EF.iv (ex_var (v := .int r) rfl))) (EF.iv ex_c) (by omega) fun _ _ => trivial) (hG.trans (e.trans e3)) rfl) fun v G' H4 g p => k v G' H4 ((Gr.same hG (e.trans e3)).trans g) p
    · rintro σ1 H2 ⟨e2, r, v5, rfl⟩
      have big : ∀ (m : Int), 0 < m → m ≤ 2147483647 → ∀ a, (fun z : Int => 0 ≤ z ∧ z < 2147483647) (a % m) := fun m hm hm2 a => ⟨Int.emod_nonneg _ (by omega), by have := Int.emod_lt_of_pos a hm; omega⟩
      refine st_asg (P := IV fun z => 0 ≤ z ∧ z < 2147483647) (Ex.refl H2) (ei_mod (n := 2147483647) (ei_int (p := fun _ => True) (ei_add (p := fun _ => True) (q := fun _ => True) (ei_add (p := fun _ => True) (q := fun _ => True) (ei_abs (EF.iv (ex_var (v := .int c) rfl))) (ei_mul (p := (· = 7919)) (q := fun _ => True) (EF.iv ex_c) (EF.ivp (ex_var (v := .int kk) rfl) trivial) (fun a ha => by omega) fun _ _ _ _ => trivial) fun _ _ _ _ => trivial) (EF.ivp ex_c trivial) fun _ _ _ _ => trivial)) (EF.iv ex_c) (by omega) fun a _ => big _ (by omega) (by omega) a) fun v1 G3 H3 g3 ⟨m1, em1, hm1⟩ => ?_
      subst em1
      refine st_asg (P := IV fun z => 0 ≤ z ∧ z < 2147483647) (Ex.refl H3) (ei_mod (n := 2147483629) (ei_int (p := fun _ => True) (ei_mul (p := fun z => 0 ≤ z ∧ z < 2147483647) (q := fun _ => True) (EF.ivp (ex_var (v := .int m1) rfl) hm1) (ei_add (p := fun _ => True) (q := fun _ => True) (EF.ivp (ex_var (v := .int m1) rfl) trivial) (EF.ivp ex_c trivial) fun _ _ _ _ => trivial) (fun a ha => by omega) fun _ _ _ _ => trivial)) (EF.iv ex_c) (by omega) fun a _ => big _ (by omega) (by omega) a) fun v1 G4 H4 g4 ⟨m2, em2, hm2⟩ => ?_
      subst em2
      refine st_asg (P := IV fun z => 0 ≤ z ∧ z < 2147483647) (Ex.refl H4) (ei_mod (n := 2147483647) (ei_int (p := fun _ => True) (ei_add (p := fun _ => True) (q := fun _ => True) (ei_mul (p := fun z => 0 ≤ z ∧ z < 2147483647) (q := fun _ => True) (EF.ivp (ex_var (v := .int m2) rfl) hm2) (ei_add (p := fun _ => True) (q := fun _ => True) (EF.ivp (ex_var (v := .int m2) rfl) trivial) (EF.ivp ex_c trivial) fun _ _ _ _ => trivial) (fun a ha => by omega) fun _ _ _ _ => trivial) (ei_mul (p := (· = 31)) (q := fun _ => True) (EF.iv ex_c) (EF.ivp (ex_var (v := .int kk) rfl) trivial) (fun a ha => by omega) fun _ _ _ _ => trivial) fun _ _ _ _ => trivial)) (EF.iv ex_c) (by omega) fun a _ => big _ (by omega) (by omega) a) fun v1 G5 H5 g5 ⟨m3, em3, hm3⟩ => ?_
      subst em3
      have eH : Ex H H5 := e2.trans (g3.hp.trans (g4.hp.trans g5.hp))
      exact st_ret (P := IV fun z => 0 ≤ z ∧ z < n) (hG.trans eH) (fin eH (ei_div (n := 9) (s := fun _ => True) (EF.iv (ex_var (v := .int m3) rfl)) (EF.iv ex_c) (by omega) (by omega) fun _ _ => trivial) (hG.trans eH) rfl) fun v G' H6 g p => k v G' H6 ((Gr.same hG eH).trans g) p
end
end Kx
set_option Elab.async false
set_option linter.all false
set_option maxRecDepth 100000
set_option maxHeartbeats 4000000
/-! lists of new lists; lists that will be changed -/
namespace Lw
open PySem PySem.Spec L2
open Evl (Ex)
section
variable {K : PySem.W.Frag} {C : Addr} {σ : L2.St} {G G0 G' H H' H1 : Hp} {ta tb te tl ti : TE} {P : VP} {D : Ends}
theorem el_mapR {ta : TA} {j : Nat} {n : Nat} {g : Nat → PyData} (h : EA ta σ G fun us _ => us = [.int (n : Int)]) (hn : n ≤ 1000) (hw : ∀ x, wipe ((wipe σ [j]).set j (some x)) [j] = wipe σ [j]) (he : ∀ (i : Nat) G', Ex G G' → i < n → EF te ((wipe σ [j]).set j (some (.int (i : Int)))) G' (DV K (g i))) :
    EF (tLc (iRng1 ta) (gName j) tYes te [j]) σ G (LS K ((List.range n).map g)) := by
  refine ef_lcR1 (n := (n : Int)) (fun i acc G' => DpAll K G' acc ((List.range i).map g)) h ⟨by omega, by omega⟩ hw (fun G' _ => .nil) (fun i acc G' e1 hi hI => ?_) (fun p acc G' h1 h2 _ _ hI => ⟨p, acc, rfl, upd_same, ?_⟩)
  · refine ec_all ((he i G' e1 (by omega)).imp fun v G2 e2 p => ?_)
    rw [List.range_succ, List.map_append]
    exact dpa_snoc (dpax hI e2) p
  · have en : ((n : Int)).toNat = n := by omega
    rw [en] at hI
    exact dpax hI (ex_in h2)
/-- a list of new lists -/
def LN (K : PySem.W.Frag) (G0 : Hp) (ds : List PyData) : VP := fun v G => ∃ l bs, v = .ref l ∧ G0 l = none ∧ G l = some (.lst bs) ∧ DpAll K G bs ds ∧ ∀ b ∈ bs, ∃ a xs, b = .ref a ∧ G0 a = none ∧ a ≠ l ∧ G a = some (.lst xs) ∧ xs.length ≤ 900
theorem LN.dp {ds : List PyData} {v : V} (h : LN K G0 ds v G) : Dp K G v (.list ds) := by
  obtain ⟨l, bs, rfl, _, h1, h2, _⟩ := h
  exact dp_mkL h1 h2
end
/-- lists that are there, some of them not empty -/
def LSt (B B0 : List Addr) (N : Nat) (H : Hp) : Prop := ∀ a ∈ B, ∃ xs, H a = some (.lst xs) ∧ xs.length ≤ N ∧ (a ∈ B0 → 0 < xs.length)
theorem LSt.up {B B0 : List Addr} {N : Nat} {H H' : Hp} (h : LSt B B0 N H) (e : Ex H H') : LSt B B0 N H' := fun a m => by
  obtain ⟨xs, h1, h2⟩ := h a m
  exact ⟨xs, e _ _ h1, h2⟩
theorem LSt.put {B B0 : List Addr} {N : Nat} {H : Hp} {q : Addr} {ys : List V} (h : LSt B B0 N H) (h1 : ys.length ≤ N) (h2 : 0 < ys.length) : LSt B B0 N (upd H q (.lst ys)) := fun a m => by
  by_cases e : a = q
  · rw [e]
    exact ⟨ys, upd_same, h1, fun _ => h2⟩
  · rw [upd_ne e]
    exact h a m
end Lw
set_option Elab.async false
set_option linter.all false
set_option maxRecDepth 100000
set_option maxHeartbeats 4000000
/-! a keyword that is left out -/
namespace Lw
open PySem L2
end Lw
set_option Elab.async false
set_option linter.all false
set_option maxRecDepth 100000
set_option maxHeartbeats 4000000
/-! tuples that are taken apart, enumerate, dicts of lists -/
namespace Lw
open PySem PySem.Spec L2
open Evl (Ex)
section
variable {K : PySem.W.Frag} {σ : L2.St} {G H : Hp} {D : Ends} {Q : L2.St → Hp → Prop}
theorem g_c {i : Nat} {x : V} {r : List V} {u : TGs} (q : u r (σ.set i (some x)) H Q) : gCons (gName i) u (x :: r) σ H Q := ⟨x, r, rfl, q⟩
theorem g_n (q : Q σ H) : gNil [] σ H Q := ⟨rfl, q⟩
theorem g_two {i j : Nat} {a : Addr} {x y : V} (h : SqT K H a [x, y]) (q : Q ((σ.set i (some x)).set j (some y)) H) : gTup K 2 (gCons (gName i) (gCons (gName j) gNil)) (.ref a) σ H Q :=
  ⟨a, _, rfl, h, rfl, g_c (g_c (g_n q))⟩
end
/-! dicts -/
section
variable {K : PySem.W.Frag} {σ : L2.St} {G G' H H1 : Hp} {D : Ends} {d : Addr}
abbrev DM := List (Int × List PyData)
def getM (m : DM) (k : Int) : Option (List PyData) := (m.find? fun p => decide (p.1 = k)).map (·.2)
def getL (m : DM) (k : Int) : List PyData := (getM m k).getD []
def addM (m : DM) (k : Int) (x : PyData) : DM := if k ∈ m.map (·.1) then m.map (fun p => if p.1 = k then (p.1, p.2 ++ [x]) else p) else m ++ [(k, [x])]
/-- a dict of these lists -/
def DkAt (K : PySem.W.Frag) (G : Hp) (d : Addr) (m : DM) : Prop := ∃ kvs : List (Key × V), G d = some (.dK kvs) ∧ kvs.map (·.1) = m.map (fun p => (Sum.inl p.1 : Key)) ∧ DpAll K G (kvs.map (·.2)) (m.map fun p => .list p.2)
theorem DkAt.ex {m : DM} (h : DkAt K G d m) (e : Ex G G') : DkAt K G' d m := by
  obtain ⟨kvs, h1, h2, h3⟩ := h
  exact ⟨kvs, e _ _ h1, h2, dpax h3 e⟩
/-- an entry while the dict is made: key, the list's address, what it holds -/
abbrev BE := Int × Addr × List V × List PyData
structure BOk (K : PySem.W.Frag) (H G' H1 : Hp) (e : BE) : Prop where
  g : G' e.2.1 = none
  h : H e.2.1 = none
  l : H1 e.2.1 = some (.lst e.2.2.1)
  d : DpAll K G' e.2.2.1 e.2.2.2
def DB (K : PySem.W.Frag) (G H H1 : Hp) (d : Addr) (m : DM) : Prop := ∃ (G' : Hp) (es : List BE), Gr G G' H H1 ∧ G' d = none ∧ H1 d = some (.dK (es.map fun e => ((Sum.inl e.1 : Key), V.ref e.2.1))) ∧ (∀ e ∈ es, BOk K H G' H1 e) ∧ (es.map fun e => e.2.1).Nodup ∧ d ∉ es.map (fun e => e.2.1) ∧ es.map (fun e => (e.1, e.2.2.2)) = m
end
end Lw
set_option Elab.async false
set_option linter.all false
set_option maxRecDepth 100000
set_option maxHeartbeats 4000000
/-! a dict of lists that is made: setdefault(k, []).append(x) -/
namespace Lw
open PySem PySem.Spec L2
open Evl (Ex)
section
variable {K : PySem.W.Frag} {σ : L2.St} {G G' H H1 : Hp} {D : Ends} {d : Addr}
theorem BOk.step {H2 G2 : Hp} {e : BE} (b : BOk K H G' H1 e) (g : Gr G' G2 H1 H2) : BOk K H G2 H2 e :=
  ⟨g.2.2.2 _ (ne_none_of b.l) b.g, b.h, g.hp _ _ b.l, dpax b.d g.up⟩
/-- the dict is done -/
theorem DB.get {m : DM} (h : DB K G H H1 d m) (hd : H d = none) : ∃ Gf, Gr G Gf H H1 ∧ DkAt K Gf d m := by
  obtain ⟨G', es, g, gd, hd1, he, nd, dn, em⟩ := h
  have hS : ∀ a ∈ d :: es.map (fun e => e.2.1), H a = none ∧ G' a = none := fun a ha => by
    rcases List.mem_cons.mp ha with e | ha
    · rw [e]; exact ⟨hd, gd⟩
    · obtain ⟨e, h1, rfl⟩ := List.mem_map.mp ha
      exact ⟨(he e h1).h, (he e h1).g⟩
  have up : Ex G' (pick (d :: es.map (fun e => e.2.1)) G' H1) := fun a o q => by
    unfold pick
    rw [if_neg fun m => by rw [(hS a m).2] at q; cases q]
    exact q
  refine ⟨pick (d :: es.map (fun e => e.2.1)) G' H1, ⟨g.up.trans up, fun a o q => ?_, g.hp, fun a h0 h1 => ?_⟩, es.map (fun e => ((Sum.inl e.1 : Key), V.ref e.2.1)), ?_, ?_, ?_⟩
  · unfold pick at q
    split at q
    · exact q
    · exact g.ok _ _ q
  · unfold pick
    rw [if_neg fun m => h0 (hS a m).1]
    exact g.2.2.2 a h0 h1
  · rw [pick_in List.mem_cons_self]; exact hd1
  · rw [← em, List.map_map, List.map_map]; rfl
  · rw [← em, List.map_map, List.map_map]
    have key : ∀ L : List BE, (∀ e ∈ L, e ∈ es) → DpAll K (pick (d :: es.map (fun e => e.2.1)) G' H1) (L.map ((fun x => x.2) ∘ fun e => ((Sum.inl e.1 : Key), V.ref e.2.1))) (L.map ((fun p : Int × List PyData => PyData.list p.2) ∘ fun e => (e.1, e.2.2.2))) := fun L => by
      induction L with
      | nil => exact fun _ => .nil
      | cons e L ih =>
        intro hL
        have b := he e (hL e List.mem_cons_self)
        exact .cons (dp_mkL (by rw [pick_in (List.mem_cons_of_mem _ (List.mem_map.mpr ⟨e, hL e List.mem_cons_self, rfl⟩))]; exact b.l) (dpax b.d up)) (ih fun z hz => hL z (List.mem_cons_of_mem _ hz))
    exact key es fun _ h => h
end
end Lw
set_option Elab.async false
set_option linter.all false
set_option maxRecDepth 100000
set_option maxHeartbeats 4000000
/-! stock: what a place lacks, as mathematics -/
namespace Lw
open PySem PySem.Spec L2
/-- origin, goal, start, end -/
abbrev Wk := Int × Int × Int × Int
/-- what happens at a place -/
def evW (gap p : Int) (v : Wk) : List (Int × Int) := (if v.1 = p then [(v.2.2.1, 1)] else []) ++ (if v.2.1 = p then [(v.2.2.2 + gap, -1)] else [])
def evs (gap p : Int) (l : List Wk) : List (Int × Int) := l.flatMap (evW gap p)
def chg1 (gap : Int) (m : DM) (v : Wk) : DM := addM (addM m v.1 (dP (v.2.2.1, 1))) v.2.1 (dP (v.2.2.2 + gap, -1))
theorem getM_cons {a : Int} {ps : List PyData} {m : DM} {k : Int} : getM ((a, ps) :: m) k = if a = k then some ps else getM m k := by
  unfold getM
  by_cases h : a = k <;> simp [h]
theorem getM_none {m : DM} {k : Int} : getM m k = none ↔ k ∉ m.map (·.1) := by
  induction m with
  | nil => simp [getM]
  | cons p m ih =>
    obtain ⟨a, ps⟩ := p
    rw [getM_cons]
    by_cases h : a = k
    · simp [h]
    · rw [if_neg h, ih]
      simp
      intro _ e
      exact h e.symm
theorem getM_app {m : DM} {a : Int} {ps : List PyData} {k : Int} (h : a ∉ m.map (·.1)) : getM (m ++ [(a, ps)]) k = if a = k then some ps else getM m k := by
  induction m with
  | nil => simp [getM_cons, getM]
  | cons p m ih =>
    obtain ⟨b, qs⟩ := p
    simp only [List.map_cons, List.mem_cons, not_or] at h
    rw [List.cons_append, getM_cons, getM_cons, ih h.2]
    by_cases h1 : b = k <;> by_cases h2 : a = k <;> simp [h1, h2]
    exact absurd (h2.trans h1.symm) h.1
theorem getM_upd {m : DM} {a : Int} {x : PyData} {k : Int} : getM (m.map fun p => if p.1 = a then (p.1, p.2 ++ [x]) else p) k = if a = k then (getM m k).map (· ++ [x]) else getM m k := by
  induction m with
  | nil => simp [getM]
  | cons p m ih =>
    obtain ⟨b, qs⟩ := p
    simp only [List.map_cons]
    by_cases h1 : b = a
    · subst h1
      rw [if_pos rfl, getM_cons, getM_cons, ih]
      by_cases h2 : b = k <;> simp [h2]
    · rw [if_neg h1, getM_cons, getM_cons, ih]
      by_cases h2 : b = k <;> by_cases h3 : a = k <;> simp [h2, h3]
      exact absurd (h2.trans h3.symm) h1
theorem getL_add {m : DM} {a : Int} {x : PyData} {k : Int} : getL (addM m a x) k = if a = k then getL m k ++ [x] else getL m k := by
  unfold getL addM
  by_cases h : a ∈ m.map (·.1)
  · rw [if_pos h, getM_upd]
    by_cases h2 : a = k
    · subst h2
      rw [if_pos rfl, if_pos rfl]
      cases e : getM m a with
      | none => exact absurd h (getM_none.mp e)
      | some ps => rfl
    · rw [if_neg h2, if_neg h2]
  · rw [if_neg h, getM_app h]
    by_cases h2 : a = k
    · subst h2
      rw [if_pos rfl, if_pos rfl, getM_none.mpr h]
      rfl
    · rw [if_neg h2, if_neg h2]
theorem addM_keys {m : DM} {a : Int} {x : PyData} {k : Int} : k ∈ (addM m a x).map (·.1) ↔ k = a ∨ k ∈ m.map (·.1) := by
  unfold addM
  split
  · rename_i h
    rw [List.map_map]
    have : ((fun x : Int × List PyData => x.1) ∘ fun p => if p.1 = a then (p.1, p.2 ++ [x]) else p) = fun x => x.1 := by
      funext p; simp only [Function.comp]; split <;> rfl
    rw [this]
    exact ⟨.inr, fun z => z.elim (fun e => e ▸ h) id⟩
  · rw [List.map_append, List.mem_append]
    simp
    exact ⟨fun z => z.elim .inr .inl, fun z => z.elim .inr .inl⟩
theorem addM_nd {m : DM} {a : Int} {x : PyData} (h : (m.map (·.1)).Nodup) : ((addM m a x).map (·.1)).Nodup := by
  unfold addM
  split
  · rw [List.map_map]
    have : ((fun x : Int × List PyData => x.1) ∘ fun p => if p.1 = a then (p.1, p.2 ++ [x]) else p) = fun x => x.1 := by
      funext p; simp only [Function.comp]; split <;> rfl
    rw [this]; exact h
  · rename_i q
    rw [List.map_append, List.nodup_append]
    refine ⟨h, by simp, fun b hb c hc => ?_⟩
    simp at hc
    subst hc
    exact fun e => q (e ▸ hb)
theorem addM_len {m : DM} {a : Int} {x : PyData} : (addM m a x).length ≤ m.length + 1 := by
  unfold addM
  split <;> simp
theorem addM_row {m : DM} {a : Int} {x : PyData} {N : Nat} (h : ∀ p ∈ m, p.2.length ≤ N) : ∀ p ∈ addM m a x, p.2.length ≤ N + 1 := fun p hp => by
  unfold addM at hp
  split at hp
  · obtain ⟨q, hq, rfl⟩ := List.mem_map.mp hp
    have := h q hq
    split
    · simp; omega
    · omega
  · rcases List.mem_append.mp hp with hp | hp
    · have := h p hp; omega
    · cases List.mem_singleton.mp hp; simp
structure ChgOk (gap : Int) (l : List Wk) (m : DM) : Prop where
  nd : (m.map (·.1)).Nodup
  len : m.length ≤ 2 * l.length
  row : ∀ p ∈ m, p.2.length ≤ 2 * l.length
  get : ∀ k, getL m k = (evs gap k l).map dP
  key : ∀ k, k ∈ m.map (·.1) ↔ ∃ v ∈ l, v.1 = k ∨ v.2.1 = k
theorem evs_app {gap p : Int} {l : List Wk} {v : Wk} : evs gap p (l ++ [v]) = evs gap p l ++ evW gap p v := by simp [evs]
theorem ChgOk.add {gap : Int} {l : List Wk} {m : DM} (h : ChgOk gap l m) (v : Wk) : ChgOk gap (l ++ [v]) (chg1 gap m v) := by
  refine ⟨addM_nd (addM_nd h.nd), ?_, ?_, fun k => ?_, fun k => ?_⟩
  · have := @addM_len (addM m v.1 (dP (v.2.2.1, 1))) v.2.1 (dP (v.2.2.2 + gap, -1))
    have := @addM_len m v.1 (dP (v.2.2.1, 1))
    have := h.len
    unfold chg1
    rw [List.length_append, List.length_singleton]; omega
  · intro p hp
    have := addM_row (addM_row h.row) p hp
    rw [List.length_append, List.length_singleton]; omega
  · unfold chg1
    rw [getL_add, getL_add, h.get, evs_app, List.map_append]
    unfold evW
    by_cases h1 : v.1 = k <;> by_cases h2 : v.2.1 = k <;> simp [h1, h2]
  · unfold chg1
    rw [addM_keys, addM_keys, h.key]
    simp only [List.mem_append, List.mem_singleton]
    constructor
    · rintro (e | e | ⟨u, hu, e⟩)
      · exact ⟨v, .inr rfl, .inr e.symm⟩
      · exact ⟨v, .inr rfl, .inl e.symm⟩
      · exact ⟨u, .inl hu, e⟩
    · rintro ⟨u, hu | rfl, e⟩
      · exact .inr (.inr ⟨u, hu, e⟩)
      · exact e.elim (fun e => .inr (.inl e.symm)) fun e => .inl e.symm
/-! the greatest surplus -/
/-! the sets of all places -/
end Lw
set_option Elab.async false
set_option linter.all false
set_option maxRecDepth 100000
set_option maxHeartbeats 4000000
/-! stock: promises -/
namespace Lw
open PySem PySem.Spec L2
open Evl (Ex)
theorem hu1 {k : Nat} {A : Around} (r : Room k A) : A.units + 1 < cLine := by have := r.un; omega
end Lw
set_option Elab.async false
set_option linter.all false
set_option maxRecDepth 100000
set_option maxHeartbeats 4000000
/-! comprehensions over lists of tuples -/
namespace Lw
open PySem PySem.Spec L2
open Evl (Ex)
end Lw
set_option Elab.async false
set_option linter.all false
set_option maxRecDepth 100000
set_option maxHeartbeats 4000000
/-! comprehensions over lists of data; the law of stock: promises -/
namespace Lw
open PySem PySem.Spec L2
open Evl (Ex)
end Lw
set_option Elab.async false
set_option linter.all false
set_option maxRecDepth 100000
set_option maxHeartbeats 4000000
/-! lists that are changed by item assignment -/
namespace Lw
open PySem PySem.Spec L2
open Evl (Ex)
end Lw
set_option Elab.async false
set_option linter.all false
set_option maxRecDepth 100000
set_option maxHeartbeats 4000000
/-! xs[:-1] -/
namespace Lw
open PySem PySem.Spec L2
open Evl (Ex)
end Lw
set_option Elab.async false
set_option linter.all false
set_option maxRecDepth 100000
set_option maxHeartbeats 4000000
/-! sorted of any data that can be compared -/
namespace Lw
open PySem PySem.Spec L2
open Evl (Ex)
open PyProof.Rows
/-! rows of ints, as tuples or as lists -/
end Lw
set_option Elab.async false
set_option linter.all false
set_option maxRecDepth 100000
set_option maxHeartbeats 4000000
/-! least ways as mathematics: nx a, the next blocks toward b -/
namespace Lw
inductive Wy (nx : Int → List Int) (b : Int) : List Int → Prop
  | one : Wy nx b [b]
  | more {a c : Int} {p : List Int} (h : c ∈ nx a) (hp : Wy nx b (c :: p)) : Wy nx b (a :: c :: p)
def tot (len : Int → Int) (p : List Int) : Int := (p.map len).sum
theorem tot_cons {len : Int → Int} {a : Int} {p : List Int} : tot len (a :: p) = len a + tot len p := by simp [tot]
/-- what a table of distances to b is -/
structure DOk (nx : Int → List Int) (len : Int → Int) (b : Int) (dst : Int → Option Int) : Prop where
  at0 : dst b = some (len b)
  nb : nx b = []
  no : ∀ a, a ≠ b → (∀ c ∈ nx a, dst c = none) → dst a = none
  ye : ∀ a c m, a ≠ b → c ∈ nx a → dst c = some m → (∀ c' ∈ nx a, ∀ m', dst c' = some m' → m ≤ m') → dst a = some (m + len a)
theorem opt_least (dst : Int → Option Int) : ∀ l : List Int, (∀ c ∈ l, dst c = none) ∨ ∃ c ∈ l, ∃ m, dst c = some m ∧ ∀ c' ∈ l, ∀ m', dst c' = some m' → m ≤ m'
  | [] => .inl (by simp)
  | x :: l => by
    rcases opt_least dst l with h | ⟨c, hc, m, hm, hl⟩
    · cases hx : dst x with
      | none => exact .inl fun c hc => by exact (List.mem_cons.mp hc).elim (fun z => by rw [z]; exact hx) (h c)
      | some m => exact .inr ⟨x, List.mem_cons_self, m, hx, fun c' hc' m' e => by
          rcases List.mem_cons.mp hc' with rfl | hc'
          · rw [hx] at e; cases e; exact Int.le_refl _
          · rw [h c' hc'] at e; cases e⟩
    · cases hx : dst x with
      | none => exact .inr ⟨c, List.mem_cons_of_mem _ hc, m, hm, fun c' hc' m' e => by
          rcases List.mem_cons.mp hc' with rfl | hc'
          · rw [hx] at e; cases e
          · exact hl c' hc' m' e⟩
      | some k =>
        by_cases q : k ≤ m
        · exact .inr ⟨x, List.mem_cons_self, k, hx, fun c' hc' m' e => by
            rcases List.mem_cons.mp hc' with rfl | hc'
            · rw [hx] at e; cases e; exact Int.le_refl _
            · have := hl c' hc' m' e; omega⟩
        · exact .inr ⟨c, List.mem_cons_of_mem _ hc, m, hm, fun c' hc' m' e => by
            rcases List.mem_cons.mp hc' with rfl | hc'
            · rw [hx] at e; cases e; omega
            · exact hl c' hc' m' e⟩
section
variable {nx : Int → List Int} {len : Int → Int} {b : Int} {dst : Int → Option Int}
theorem DOk.ne (D : DOk nx len b dst) {a c : Int} (h : c ∈ nx a) : a ≠ b := fun z => by rw [z, D.nb] at h; cases h
theorem DOk.le (D : DOk nx len b dst) {p : List Int} (h : Wy nx b p) : ∀ a q, p = a :: q → ∃ d, dst a = some d ∧ d ≤ tot len p := by
  induction h with
  | one => intro a q e; cases e; exact ⟨_, D.at0, by simp [tot]⟩
  | @more a c p h hp ih =>
    intro a2 q e
    obtain rfl : a = a2 := by injection e
    obtain ⟨d, h1, h2⟩ := ih _ _ rfl
    rcases opt_least dst (nx a) with hn | ⟨c0, hc, m, hm, hl⟩
    · rw [hn _ h] at h1; cases h1
    · refine ⟨_, D.ye a c0 m (D.ne h) hc hm hl, ?_⟩
      have := hl _ h d h1
      rw [tot_cons]
      omega
theorem DOk.ex (D : DOk nx len b dst) {rk : Int → Nat} (hr : ∀ a c, c ∈ nx a → rk c < rk a) : ∀ n a d, rk a ≤ n → dst a = some d → ∃ p, Wy nx b (a :: p) ∧ tot len (a :: p) = d := by
  have main : ∀ n a d, rk a < n → dst a = some d → ∃ p, Wy nx b (a :: p) ∧ tot len (a :: p) = d := fun n => by
    induction n with
    | zero => intro a d h; omega
    | succ n ih =>
      intro a d h e
      by_cases z : a = b
      · rw [z] at e ⊢
        rw [D.at0] at e
        cases e
        exact ⟨[], .one, by simp [tot]⟩
      · rcases opt_least dst (nx a) with hn | ⟨c, hc, m, hm, hl⟩
        · rw [D.no a z hn] at e; cases e
        · rw [D.ye a c m z hc hm hl] at e
          cases e
          obtain ⟨p, hp, ht⟩ := ih c m (by have := hr a c hc; omega) hm
          exact ⟨c :: p, .more hc hp, by rw [tot_cons, ht]; omega⟩
  exact fun n a d h e => main (n + 1) a d (by omega) e
/-- the way that takes the least next block of those that are not farther -/
inductive Gd (nx : Int → List Int) (len : Int → Int) (b : Int) (dst : Int → Option Int) : List Int → Prop
  | one : Gd nx len b dst [b]
  | more {a c d : Int} {p : List Int} (n : a ≠ b) (e : dst a = some d) (h : c ∈ nx a) (ec : dst c = some (d - len a)) (l : ∀ c' ∈ nx a, dst c' = some (d - len a) → c ≤ c') (hp : Gd nx len b dst (c :: p)) : Gd nx len b dst (a :: c :: p)
theorem Gd.way (D : DOk nx len b dst) {p : List Int} (h : Gd nx len b dst p) : Wy nx b p ∧ ∀ a q, p = a :: q → dst a = some (tot len p) := by
  induction h with
  | one => exact ⟨.one, fun a q e => by cases e; rw [D.at0]; simp [tot]⟩
  | more n e h ec l hp ih =>
    obtain ⟨i1, i2⟩ := ih
    refine ⟨.more h i1, fun a q e2 => ?_⟩
    cases e2
    have := i2 _ _ rfl
    rw [ec] at this
    have h3 := Option.some.inj this
    rw [e, tot_cons, ← h3]
    congr 1
    omega
theorem Gd.le (D : DOk nx len b dst) {p : List Int} (h : Gd nx len b dst p) : ∀ q, Wy nx b q → q.head? = p.head? → tot len q = tot len p → p ≤ q := by
  induction h with
  | one =>
    intro q hq hh _
    cases hq with
    | one => exact List.le_refl _
    | more h1 _ => simp at hh; subst hh; rw [D.nb] at h1; cases h1
  | more n e h ec l hp ih =>
    rename_i a c d p
    intro q hq hh ht
    cases hq with
    | one => simp at hh; exact absurd hh.symm n
    | more h1 hq1 =>
      rename_i a' c' q'
      simp at hh
      subst hh
      obtain ⟨w1, w2⟩ := hp.way D
      have tp : tot len (c :: p) = d - len a' := by have := w2 _ _ rfl; rw [ec] at this; exact (Option.some.inj this).symm
      have tq : tot len (c' :: q') = d - len a' := by
        rw [tot_cons, tot_cons (p := c :: p), tp] at ht
        omega
      obtain ⟨d', e1, e2⟩ := D.le hq1 _ _ rfl
      have e3 : d - len a' ≤ d' := by
        rcases opt_least dst (nx a') with hn | ⟨c0, hc, m, hm, hl⟩
        · rw [hn _ h1] at e1; cases e1
        · have := D.ye a' c0 m n hc hm hl
          rw [e] at this
          have := Option.some.inj this
          have := hl _ h1 d' e1
          omega
      have e4 : dst c' = some (d - len a') := by rw [e1]; congr 1; omega
      have hc := l c' h1 e4
      rw [List.cons_le_cons_iff]
      refine .inr ⟨rfl, ?_⟩
      by_cases z : c = c'
      · subst z
        exact ih _ hq1 rfl (by rw [tq, tp])
      · rw [List.cons_le_cons_iff]
        exact .inl (by omega)
/-- the next block is there -/
theorem DOk.next (D : DOk nx len b dst) {a d : Int} (n : a ≠ b) (e : dst a = some d) : ∃ c ∈ nx a, dst c = some (d - len a) := by
  rcases opt_least dst (nx a) with hn | ⟨c, hc, m, hm, hl⟩
  · rw [D.no a n hn] at e; cases e
  · refine ⟨c, hc, ?_⟩
    rw [D.ye a c m n hc hm hl] at e
    cases e
    rw [hm]
    congr 1
    omega
end
end Lw
set_option Elab.async false
set_option linter.all false
set_option maxRecDepth 100000
set_option maxHeartbeats 4000000
/-! the distances that the program reckons, and ways as chains -/
namespace Lw
def dstN (nx : Int → List Int) (len : Int → Int) (b : Int) : Nat → Int → Option Int
  | 0, _ => none
  | k + 1, a => if a = b then some (len b) else (((nx a).filterMap (dstN nx len b k)).min?).map (· + len a)
section
variable {nx : Int → List Int} {len : Int → Int} {b : Int} {rk : Int → Nat}
def dst (nx : Int → List Int) (len : Int → Int) (b : Int) (rk : Int → Nat) (a : Int) : Option Int := dstN nx len b (rk a + 1) a
end
/-! chains -/
end Lw
set_option Elab.async false
set_option linter.all false
set_option maxRecDepth 100000
set_option maxHeartbeats 4000000
/-! all ways of a track from a block, row by row -/
namespace Lw
end Lw
set_option Elab.async false
set_option linter.all false
set_option maxRecDepth 100000
set_option maxHeartbeats 4000000
/-! how many ways there are at most -/
namespace Lw
end Lw
set_option Elab.async false
set_option linter.all false
set_option maxRecDepth 100000
set_option maxHeartbeats 4000000
/-! distances and least ways of a track -/
namespace Lw
open PySem PySem.Spec L2 PySem.SeqAt PyProof.Rows
theorem Gd.ex {nx : Int → List Int} {len : Int → Int} {b : Int} {dst : Int → Option Int} (D : DOk nx len b dst) {rk : Int → Nat} (hr : ∀ a c, c ∈ nx a → rk c < rk a) : ∀ k a d, rk a < k → dst a = some d → ∃ p, Gd nx len b dst (a :: p) := fun k => by
  induction k with
  | zero => intro a d h; omega
  | succ k ih =>
    intro a d h e
    by_cases z : a = b
    · rw [z]; exact ⟨[], .one⟩
    · obtain ⟨c0, hc0, ec0⟩ := D.next z e
      have hm : c0 ∈ (nx a).filter fun c => decide (dst c = some (d - len a)) := List.mem_filter.mpr ⟨hc0, by simpa using ec0⟩
      obtain ⟨c, hc⟩ : ∃ c, ((nx a).filter fun c => decide (dst c = some (d - len a))).min? = some c := by
        cases hq : ((nx a).filter fun c => decide (dst c = some (d - len a))).min? with
        | none => rw [List.min?_eq_none_iff] at hq; rw [hq] at hm; cases hm
        | some c => exact ⟨c, rfl⟩
      rw [List.min?_eq_some_iff] at hc
      obtain ⟨h1, h2⟩ := hc
      obtain ⟨m1, m2⟩ := List.mem_filter.mp h1
      have m2 := of_decide_eq_true m2
      obtain ⟨p, hp⟩ := ih c _ (by have := hr a c m1; omega) m2
      exact ⟨c :: p, .more z e m1 m2 (fun c' h3 h4 => h2 c' (List.mem_filter.mpr ⟨h3, by simpa using h4⟩)) hp⟩
end Lw
set_option Elab.async false
set_option linter.all false
set_option maxRecDepth 100000
set_option maxHeartbeats 4000000
/-! what the law of least ways reckons -/
namespace Lw
open PySem PySem.Spec L2
open Evl (Ex)
theorem okb_int {n : Nat} {z : Int} : Okb n (.int z) := by cases n <;> trivial
end Lw
set_option Elab.async false
set_option linter.all false
set_option maxRecDepth 100000
set_option maxHeartbeats 4000000
/-! comprehensions over enumerate and over pairs; queues by place -/
namespace Lw
open PySem PySem.Spec L2
open Evl (Ex)
section
variable {K : PySem.W.Frag} {σ : L2.St} {G G' H H1 : Hp} {D : Ends} {ta tb te tk tl : TE} {t : TT} {P : VP}
theorem cw_new {T : Addr} {Dl : Addr} {I : Nat → List V → Hp → Prop} {i : Nat} {H' : Hp} {o : HO} (p : CW G H1 Dl I i H') (hT : H' T = none) : CW G H1 Dl I i (upd H' T o) := by
  obtain ⟨G', xs, e1, e2, gD, hd, hl, hI, e3, hc⟩ := p
  have nD : Dl ≠ T := fun z => by rw [z, hT] at hd; cases hd
  exact ⟨G', xs, e1, e2.trans (ex_in hT), gD, by rw [upd_ne nD]; exact hd, hl, hI, e3.trans (ex_in hT), hc⟩
end
/-! queues -/
section
variable {K : PySem.W.Frag} {σ : L2.St} {G G' H H1 : Hp} {D : Ends} {d q : Addr} {tk te : TE}
abbrev Qf := Int → List (Int × Int)
structure QOk (K : PySem.W.Frag) (G H H1 : Hp) (d q : Addr) (f : Qf) (ls : List (Int × Int)) (G' : Hp) (es : List BE) (vs : List V) : Prop where
  g : Gr G G' H H1
  gd : G' d = none
  hd : H1 d = some (.dK (es.map fun e => ((Sum.inl e.1 : Key), V.ref e.2.1)))
  he : ∀ e ∈ es, BOk K H G' H1 e
  nd : (es.map fun e => e.2.1).Nodup
  dn : d ∉ es.map (fun e => e.2.1)
  kn : (es.map fun e => e.1).Nodup
  gt : ∀ k, getL (es.map fun e => (e.1, e.2.2.2)) k = (f k).map dP
  gq : G' q = none
  hq : H1 q = some (.lst vs)
  dq : DpAll K G' vs (ls.map dP)
  qn : q ∉ es.map (fun e => e.2.1)
  ne : q ≠ d
def QSt (K : PySem.W.Frag) (G H H1 : Hp) (d q : Addr) (f : Qf) (ls : List (Int × Int)) : Prop := ∃ G' es vs, QOk K G H H1 d q f ls G' es vs
theorem QOk.grow {f : Qf} {ls : List (Int × Int)} {es : List BE} {vs : List V} {G2 H2 : Hp} (h : QOk K G H H1 d q f ls G' es vs) (g : Gr G' G2 H1 H2) : QOk K G H H2 d q f ls G2 es vs where
  g := h.g.trans g
  gd := g.2.2.2 d (ne_none_of h.hd) h.gd
  hd := g.hp _ _ h.hd
  he := fun e m => (h.he e m).step g
  nd := h.nd
  dn := h.dn
  kn := h.kn
  gt := h.gt
  gq := g.2.2.2 q (ne_none_of h.hq) h.gq
  hq := g.hp _ _ h.hq
  dq := dpax h.dq g.up
  qn := h.qn
  ne := h.ne
theorem QSt.ex {f : Qf} {ls : List (Int × Int)} {H2 : Hp} (h : QSt K G H H1 d q f ls) (e : Ex H1 H2) : QSt K G H H2 d q f ls := by
  obtain ⟨G', es, vs, h⟩ := h
  exact ⟨G', es, vs, h.grow (.same h.g.ok e)⟩
theorem QSt.know {f : Qf} {ls : List (Int × Int)} (h : QSt K G H H1 d q f ls) : Ex G H1 := by
  obtain ⟨G', es, vs, h⟩ := h
  exact h.g.up.trans h.g.ok
end
end Lw
set_option Elab.async false
set_option linter.all false
set_option maxRecDepth 100000
set_option maxHeartbeats 4000000
/-! links, first in first out, as mathematics -/
namespace Lw
open PySem PySem.Spec L2
def wk (ws : List Wk) (n : Nat) : Wk := ws.getD n (0, 0, 0, 0)
abbrev T3i := Int × Int × Int
def x3 (t : T3i) : List Int := [t.1, t.2.1, t.2.2]
def enc3 (t : T3i) : PyData := .tuple ((x3 t).map .int)
def pr (t : T3i) : Int × Int := (t.1, t.2.1)
def goesB (ws : List Wk) (gap a b : Int) : Bool := decide (0 ≤ a ∧ a < (ws.length : Int) ∧ 0 ≤ b ∧ b < (ws.length : Int) ∧ (wk ws a.toNat).2.1 = (wk ws b.toNat).1 ∧ (wk ws a.toNat).2.2.2 + gap ≤ (wk ws b.toNat).2.2.1)
/-! both agree -/
def keep (ws : List Wk) (used : List Int) (k : Int) (p : Int × Int) : Bool := decide ((wk ws p.2.toNat).2.1 = k ∧ p.2 ∉ used)
end Lw
set_option Elab.async false
set_option linter.all false
set_option maxRecDepth 100000
set_option maxHeartbeats 4000000
/-! links: promises -/
namespace Lw
open PySem PySem.Spec L2
open Evl (Ex)
end Lw
set_option Elab.async false
set_option linter.all false
set_option maxRecDepth 100000
set_option maxHeartbeats 4000000
/-! links: the law's promises -/
namespace Lw
open PySem PySem.Spec L2
open Evl (Ex)
end Lw
set_option Elab.async false
set_option linter.all false
set_option maxRecDepth 100000
set_option maxHeartbeats 4000000
/-! first in first out needs the fewest sets -/
namespace Lw
open PySem PySem.Spec L2
/-! the run -/
end Lw
set_option Elab.async false
set_option linter.all false
set_option maxRecDepth 100000
set_option maxHeartbeats 4000000
/-! >= of tuples; fewest sets: the rest of the mathematics -/
namespace Lw
open PySem PySem.Spec L2 PyProof.Rows
open Evl (Ex)
/-! what the program's run is -/
structure LinOk (ws : List Wk) (gap : Int) (B : Int → Prop) (st : List Int × List (Int × Int)) : Prop where
  fst : st.2.map (·.1) = st.1
  nd : st.1.Nodup
  sec : (st.2.map (·.2)).Nodup
  bnd : ∀ q ∈ st.2, B q.2
  goes : ∀ q ∈ st.2, goesB ws gap q.1 q.2 = true
theorem LinOk.add {ws : List Wk} {gap : Int} {B : Int → Prop} {st : List Int × List (Int × Int)} {x k : Int} (h : LinOk ws gap B st) (hx : x ∉ st.1) (hk : ¬ B k) (hg : goesB ws gap x k = true) {B' : Int → Prop} (hB : ∀ z, B z → B' z) (hk' : B' k) : LinOk ws gap B' (st.1 ++ [x], st.2 ++ [(x, k)]) where
  fst := by simp [h.fst]
  nd := by
    rw [List.nodup_append]
    exact ⟨h.nd, by simp, fun a ha b hb => by cases List.mem_singleton.mp hb; exact fun e => hx (by rw [← e]; exact ha)⟩
  sec := by
    rw [List.map_append, List.nodup_append]
    refine ⟨h.sec, by simp, fun a ha b hb => ?_⟩
    simp at hb
    subst hb
    obtain ⟨q, hq, rfl⟩ := List.mem_map.mp ha
    exact fun e => hk (by rw [← e]; exact h.bnd q hq)
  bnd := fun q hq => by
    rcases List.mem_append.mp hq with hq | hq
    · exact hB _ (h.bnd q hq)
    · cases List.mem_singleton.mp hq; exact hk'
  goes := fun q hq => by
    rcases List.mem_append.mp hq with hq | hq
    · exact h.goes q hq
    · cases List.mem_singleton.mp hq; exact hg
theorem LinOk.mono {ws : List Wk} {gap : Int} {B B' : Int → Prop} {st : List Int × List (Int × Int)} (h : LinOk ws gap B st) (hB : ∀ z, B z → B' z) : LinOk ws gap B' st := ⟨h.fst, h.nd, h.sec, fun q hq => hB _ (h.bnd q hq), h.goes⟩
end Lw
set_option Elab.async false
set_option linter.all false
set_option maxRecDepth 100000
set_option maxHeartbeats 4000000
/-! fewest sets: promises -/
namespace Lw
open PySem PySem.Spec L2
open Evl (Ex)
section
variable {K : PySem.W.Frag} {σ : L2.St} {G G' H H1 : Hp} {D : Ends} {ta te : TE} {t : TT}
/-- [x for x in range(n) if p(x)]: a new list -/
theorem el_filRN {ta : TA} {j : Nat} {n : Nat} {p : Nat → Bool} (h : EA ta σ G fun us _ => us = [.int (n : Int)]) (hn : n ≤ 40000) (hw : ∀ x, wipe ((wipe σ [j]).set j (some x)) [j] = wipe σ [j]) (hj : ∀ x, ((wipe σ [j]).set j (some x))[j]? = some (some x))
    (ht : ∀ (i : Nat) G', Ex G G' → i < n → ET t ((wipe σ [j]).set j (some (.int (i : Int)))) G' (· = p i)) :
    EF (tLc (iRng1 ta) (gName j) t (tVar j) [j]) σ G (fun v G' => ∃ r : Addr, v = .ref r ∧ G r = none ∧ G' r = some (.lst (((List.range n).filter p).map fun i : Nat => V.int (i : Int)))) := by
  refine ef_lcR1 (n := (n : Int)) (fun i acc G' => acc = ((List.range i).filter p).map fun i : Nat => V.int (i : Int)) h ⟨by omega, by omega⟩ hw (fun G' _ => rfl) (fun i acc G' e1 hi hI => ?_) (fun p acc G' h1 h2 _ _ hI => ⟨p, rfl, h1, ?_⟩)
  · rw [List.range_succ, List.filter_append]
    refine ec_if (ht i G' e1 (by omega)) (fun hb => EF.imp (P := XV (.int (i : Int))) (ex_var (hj _)) fun v G2 e2 pv => ?_) (fun hb => ?_)
    · rw [show ([i].filter p) = [i] by simp [← hb], List.map_append, hI, show v = _ from pv]
      rfl
    · rw [show ([i].filter p) = [] by simp [← hb], List.append_nil]
      exact hI
  · have en : ((n : Int)).toNat = n := by omega
    rw [en] at hI
    rw [upd_same, hI]
end
end Lw
set_option Elab.async false
set_option linter.all false
set_option maxRecDepth 100000
set_option maxHeartbeats 4000000
/-! calls with a keyword; fewest sets: the rest -/
namespace Lw
open PySem PySem.Spec L2
open Evl (Ex)
end Lw
set_option Elab.async false
set_option linter.all false
set_option maxRecDepth 100000
set_option maxHeartbeats 4000000
/-! fewest sets: what the law needs -/
namespace Lw
open PySem PySem.Spec L2
open Evl (Ex)
end Lw
set_option Elab.async false
set_option linter.all false
set_option maxRecDepth 100000
set_option maxHeartbeats 4000000
/-! [x] * n, while, range downward, min and sum of a list -/
namespace Lw
open PySem PySem.Spec L2
open Evl (Ex)
section
variable {K : PySem.W.Frag} {σ : L2.St} {G G' H H1 : Hp} {D : Ends} {ta tb te tl : TE} {t : TT} {tu : TS} {P : VP}
theorem rep_flat {x : V} : ∀ {n : Nat}, (List.replicate n [x]).flatten = List.replicate n x
  | 0 => rfl
  | n + 1 => by rw [List.replicate_succ, List.flatten_cons, rep_flat, List.replicate_succ]; rfl
theorem ex_sumL {ns : List Int} (h : EF ta σ G (DV K (dI ns))) : EF (tCB (rSum K) (tCons ta tNil)) σ G (XV (.int ns.sum)) := fun H e Q k => (ea_one h) H e _ fun vs G1 H1 g1 ⟨x, ev, d⟩ => by
  obtain ⟨a, xs, rfl, hs, hd⟩ := dp_lst d
  rw [dpa_ints_eq hd] at hs
  subst ev
  exact ⟨a, ns, rfl, Evl.ex_l g1.ok hs, k _ G1 H1 g1 rfl⟩
end
end Lw
set_option Elab.async false
set_option linter.all false
set_option maxRecDepth 100000
set_option maxHeartbeats 4000000
/-! comprehensions over any walk of ints; the long track -/
namespace Lw
open PySem PySem.Spec L2
open Evl (Ex)
/-! the long track: every block is joined to the next and the one after -/
end Lw
set_option Elab.async false
set_option linter.all false
set_option maxRecDepth 100000
set_option maxHeartbeats 4000000
/-! trains, and the releases of a train -/
namespace Lw
open PySem PySem.Spec L2
open Evl (Ex)
abbrev KV := List (Key × V)
/-- d.setdefault(k, z) -/
def setK (kvs : KV) (k : Int) (z : V) : KV := if valV kvs (.inl k : Key) = none then putK kvs (.inl k : Key) z else kvs
/-- block by block its first step -/
def stepN (way : List Int) : Nat → KV
  | 0 => []
  | i + 1 => setK (stepN way i) (way.getD i 0) (.int (i : Int))
theorem stepN_len (way : List Int) : ∀ i, (stepN way i).length ≤ i
  | 0 => by simp [stepN]
  | i + 1 => by
    have ih := stepN_len way i
    unfold stepN setK
    split
    · have := length_putK (stepN way i) (.inl (way.getD i 0) : Key) (V.int (i : Int))
      omega
    · omega
def stepOf (way : List Int) (b : Int) : Int := if b ∈ way then ((way.idxOf b : Nat) : Int) else -1
/-! releases -/
def relGo (lens : List Int) (len : Int) : List Int → Int → Int → Int
  | [], _, j => 2 * j
  | b :: r, room, j => if room + lenOf lens b ≥ len then 2 * j + 1 else relGo lens len r (room + lenOf lens b) (j + 1)
def relOf (lens : List Int) (len : Int) (way : List Int) (step : Nat) : Int := relGo lens len (way.drop (step + 1)) 0 ((step : Int) + 1)
def relsOf (lens : List Int) (len : Int) (way : List Int) : List Int := (List.range way.length).map (relOf lens len way)
section
variable {K : PySem.W.Frag} {C CT CN CW : Addr} {σ : L2.St} {G G' H H' H1 : Hp} {D : Ends} {ta tb te tl td tk tx : TE} {P : VP} {p d : Addr} {way : List Int} {len : Int}
structure TrCl (K : PySem.W.Frag) (CT : Addr) : Prop where
  cl : Cls K CT
  way : NoAttr K CT "_way"
  at_ : NoAttr K CT "_step_at"
  length : NoAttr K CT "length"
  steps : NoAttr K CT "steps"
  last : NoAttr K CT "last"
structure TFl (fs : List (Str × V)) (l d : Addr) (len n : Int) : Prop where
  way : fs.lookup ("_way" : Str) = some (.ref l)
  at_ : fs.lookup ("_step_at" : Str) = some (.ref d)
  length : fs.lookup ("length" : Str) = some (.int len)
  steps : fs.lookup ("steps" : Str) = some (.int n)
  last : fs.lookup ("last" : Str) = some (.int (2 * n))
  no : ∀ m : Str, m ≠ "_way" → m ≠ "_step_at" → m ≠ "length" → m ≠ "steps" → m ≠ "last" → fs.lookup m = none
theorem tfl5 {l d : Addr} {len n : Int} : TFl (putF "last" (.int (2 * n)) (putF "steps" (.int n) (putF "length" (.int len) (putF "_step_at" (.ref d) (putF "_way" (.ref l) []))))) l d len n := by
  refine ⟨?_, ?_, ?_, ?_, ?_, fun m h1 h2 h3 h4 h5 => ?_⟩
  · rw [lookup_putF, if_neg (by decide +kernel), lookup_putF, if_neg (by decide +kernel), lookup_putF, if_neg (by decide +kernel), lookup_putF, if_neg (by decide +kernel), lookup_putF, if_pos rfl]
  · rw [lookup_putF, if_neg (by decide +kernel), lookup_putF, if_neg (by decide +kernel), lookup_putF, if_neg (by decide +kernel), lookup_putF, if_pos rfl]
  · rw [lookup_putF, if_neg (by decide +kernel), lookup_putF, if_neg (by decide +kernel), lookup_putF, if_pos rfl]
  · rw [lookup_putF, if_neg (by decide +kernel), lookup_putF, if_pos rfl]
  · rw [lookup_putF, if_pos rfl]
  · rw [lookup_putF, if_neg h5, lookup_putF, if_neg h4, lookup_putF, if_neg h3, lookup_putF, if_neg h2, lookup_putF, if_neg h1]
    rfl
/-- a train; its list of blocks was not there in G0 -/
def TrNew (CT : Addr) (G0 G : Hp) (p : Addr) (way : List Int) (len : Int) : Prop := ∃ dx fs l d, G p = some (.ins CT dx fs) ∧ TFl fs l d len (way.length : Int) ∧ G l = some (.lst (way.map V.int)) ∧ G d = some (.dK (stepN way way.length)) ∧ G0 l = none
def TrAtT (K : PySem.W.Frag) (CT : Addr) (G : Hp) (p : Addr) (way : List Int) (len : Int) : Prop := ∃ dx fs l d, G p = some (.ins CT dx fs) ∧ TFl fs l d len (way.length : Int) ∧ SqL K G l (way.map V.int) ∧ G d = some (.dK (stepN way way.length))
theorem TrNew.at_ {G0 : Hp} (h : TrNew CT G0 G p way len) : TrAtT K CT G p way len := by
  obtain ⟨dx, fs, l, d, h1, h2, h3, h4, _⟩ := h
  exact ⟨dx, fs, l, d, h1, h2, Evl.sq_of h3, h4⟩
theorem TrNew.ex {G0 : Hp} (h : TrNew CT G0 G p way len) (e : Ex G G') : TrNew CT G0 G' p way len := by
  obtain ⟨dx, fs, l, d, h1, h2, h3, h4, h5⟩ := h
  exact ⟨dx, fs, l, d, e _ _ h1, h2, e _ _ h3, e _ _ h4, h5⟩
theorem TrNew.low {G0 G1 : Hp} (h : TrNew CT G1 G p way len) (e : Ex G0 G1) : TrNew CT G0 G p way len := by
  obtain ⟨dx, fs, l, d, h1, h2, h3, h4, h5⟩ := h
  exact ⟨dx, fs, l, d, h1, h2, h3, h4, none_back e h5⟩
theorem TrNew.drop {G0 : Hp} {q : Addr} {xs ys : List V} (h : TrNew CT G0 G p way len) (h0 : G0 q = some (.lst xs)) (h1 : G q = some (.lst ys)) : TrAtT K CT (dropA G q) p way len := by
  obtain ⟨dx, fs, l, d, a1, a2, a3, a4, a5⟩ := h
  have np : p ≠ q := fun z => by rw [z, h1] at a1; cases a1
  have nl : l ≠ q := fun z => by rw [z, h0] at a5; cases a5
  have nd : d ≠ q := fun z => by rw [z, h1] at a4; cases a4
  exact ⟨dx, fs, l, d, by rw [dropA_ne np]; exact a1, a2, Evl.sq_of (by rw [dropA_ne nl]; exact a3), by rw [dropA_ne nd]; exact a4⟩
theorem TrAtT.ex (h : TrAtT K CT G p way len) (e : Ex G G') : TrAtT K CT G' p way len := by
  obtain ⟨dx, fs, l, d, h1, h2, h3, h4⟩ := h
  exact ⟨dx, fs, l, d, e _ _ h1, h2, Evl.ex_l e h3, e _ _ h4⟩
theorem TrAtT.meth (h : TrAtT K CT G p way len) {m : Str} (hm : m ≠ "_way" ∧ m ≠ "_step_at" ∧ m ≠ "length" ∧ m ≠ "steps" ∧ m ≠ "last") : ∃ dx fs, G p = some (.ins CT dx fs) ∧ fs.lookup m = none := by
  obtain ⟨dx, fs, l, d, h1, h2, _⟩ := h
  exact ⟨dx, fs, h1, h2.no m hm.1 hm.2.1 hm.2.2.1 hm.2.2.2.1 hm.2.2.2.2⟩
/-- d.setdefault(k, z), alone -/
theorem st_setd {kvs : KV} {k : Int} {z : V} (hd : EF td σ H (XV (.ref d))) (hH : H d = some (.dK kvs)) (hk : EF tk σ H (XV (.int k))) (hz : EF tx σ H (XV z)) (hl : kvs.length < 1000) (k0 : ∀ H', Ex H H' → D.nx σ (upd H' d (.dK (setK kvs k z)))) : tDrop (tDSetd td tk tx) D σ H :=
  hd H (Ex.refl H) _ fun v G1 H1 g1 pv => by
    cases (show v = .ref d from pv)
    refine ⟨d, rfl, .inl ⟨kvs, .inl (g1.hp _ _ hH)⟩, hk H1 g1.hp _ fun y G2 H2 g2 py => ?_⟩
    cases (show y = .int k from py)
    refine hz H2 (g1.hp.trans g2.hp) _ fun w G3 H3 g3 pw => ?_
    cases (show w = z from pw)
    have e3 := g1.hp.trans (g2.hp.trans g3.hp)
    refine ⟨kvs, .inl k, e3 _ _ hH, rfl, Nat.lt_of_lt_of_le hl (by decide), fun v hv => ?_, fun hn => ?_⟩
    · have := k0 H3 e3
      unfold setK at this
      rw [if_neg (by rw [hv]; simp), upd_self' (e3 _ _ hH)] at this
      exact this
    · have := k0 H3 e3
      unfold setK at this
      rw [if_pos hn] at this
      exact this
theorem ef_dnew : EF tDNewK σ G fun v G' => ∃ q : Addr, v = .ref q ∧ G q = none ∧ G' q = some (.dK []) := fun H e Q q p hp => q _ (upd G p (.dK [])) _ (Gr.new e hp) ⟨p, rfl, none_back e hp, upd_same⟩
def spTInit (K : PySem.W.Frag) (CT CB CL : Addr) : Sp := fun vs H Q E => ∃ (G : Hp) (x dx a : Addr) (way : List Int) (len : Int), vs = [.ref x, .ref a, .int len] ∧ Ex G H ∧ G x = none ∧ H x = some (.ins CT dx []) ∧ SqL K G a (way.map V.int) ∧ way.length ≤ 400 ∧
  (way = [] → RseH CB [("at", .int 0)] H E) ∧ (way ≠ [] → len < 1 → RseH CL [("length", .int len)] H E) ∧ (way ≠ [] → 1 ≤ len → ∀ G' H', Gr G G' (outH H x) H' → TrNew CT G G' x way len → Q .non H')
theorem tr_core {Er : XK} {Q' : VK} {x dx l : Addr} (e : Ex G H) (hx : H x = none) (hd : H dx = none) (hs : SqL K G l (way.map V.int)) (hw : way.length ≤ 400) (kB : way = [] → RseH CN [("at", .int 0)] H Er) (kL : way ≠ [] → len < 1 → RseH CW [("length", .int len)] H Er) (k : way ≠ [] → 1 ≤ len → ∀ G' H', Gr G G' H H' → TrNew CT G G' x way len → Q' .non H') : spTInit K CT CN CW [.ref x, .ref l, .int len] (newO H CT x dx) Q' Er := by
  have en : Ex H (outH (newO H CT x dx) x) := ex_newO hx hd
  have e2 : Ex H (newO H CT x dx) := en.trans out_ex
  exact ⟨G, x, dx, l, way, len, rfl, e.trans e2, none_back e hx, upd_same, hs, hw, fun h => (kB h).up e2, fun h1 h2 => (kL h1 h2).up e2, fun h1 h2 G' H' g t => k h1 h2 G' H' (g.low en) t⟩
theorem ef_trainK {E : XK} {t tk : TA} (h : EA t σ G fun vs G' => ∃ l : Addr, vs = [.ref l] ∧ SqL K G' l (way.map V.int)) (hk : ∀ G', Ex G G' → EA tk σ G' fun zs _ => zs = [.int len]) (hw : way.length ≤ 400) (hne : way ≠ []) (hl : 1 ≤ len) : EF (tMakeK CT 1 1 (spTInit K CT CN CW) (fun vs zs => vs ++ zs) E t tk) σ G fun v G' => ∃ x, v = .ref x ∧ TrNew CT G G' x way len := fun H hG Q q =>
  h H hG _ fun vs G1 H1 g1 ⟨l, ev, hs⟩ => hk G1 g1.up H1 g1.ok _ fun zs G2 H2 g2 ez => by
    subst ev ez
    refine ⟨rfl, rfl, fun x dx hx hd hn => ?_⟩
    have g12 := g1.trans g2
    exact tr_core g2.ok hx hd (Evl.ex_l g2.up hs) hw (fun h => absurd h hne) (fun _ h2 => by omega) fun h1 h2 G' H' g t => ⟨rfl, q _ G' H' (g12.trans g) ⟨x, rfl, t.low g12.up⟩⟩
def spBlocksT (K : PySem.W.Frag) (CT : Addr) : Sp := fun vs H Q _ => ∃ (G : Hp) (p : Addr) (way : List Int) (len : Int), Ex G H ∧ vs = [.ref p] ∧ TrAtT K CT G p way len ∧ Ret G H (NwD K G (way.map PyData.int)) Q
end
end Lw
set_option Elab.async false
set_option linter.all false
set_option maxRecDepth 100000
set_option maxHeartbeats 4000000
/-! two dicts of lists, by events -/
namespace Lw
open PySem PySem.Spec L2
open Evl (Ex)
abbrev Ev := Int × Int
def evK (e : Ev) : List Key := [.inl e.1, .inl e.2]
structure BT where
  w : Bool
  k : Ev
  a : Addr
  vs : List V
  es : List Ev
def BT.kv (b : BT) : List Key × V := (evK b.k, .ref b.a)
def BT.d (b : BT) : Bool × Ev × List Ev := (b.w, b.k, b.es)
/-- a list of pairs that stand -/
def EvL (G : Hp) (vs : List V) (es : List Ev) : Prop := vs.length = es.length ∧ ∀ (i : Nat) (v : V) (e : Ev), vs[i]? = some v → es[i]? = some e → ∃ p : Addr, v = .ref p ∧ G p = some (.tup [.int e.1, .int e.2])
theorem EvL.nil {G : Hp} : EvL G [] [] := ⟨rfl, fun i v e h => by simp at h⟩
theorem EvL.ex {G G' : Hp} {vs : List V} {es : List Ev} (h : EvL G vs es) (e : Ex G G') : EvL G' vs es := ⟨h.1, fun i v x h1 h2 => by
  obtain ⟨p, e1, e2⟩ := h.2 i v x h1 h2
  exact ⟨p, e1, e _ _ e2⟩⟩
theorem EvL.snoc {G : Hp} {vs : List V} {es : List Ev} (h : EvL G vs es) {p : Addr} {e : Ev} (hp : G p = some (.tup [.int e.1, .int e.2])) : EvL G (vs ++ [.ref p]) (es ++ [e]) := ⟨by rw [List.length_append, List.length_append, h.1]; rfl, fun i v x h1 h2 => by
  by_cases hi : i < vs.length
  · rw [List.getElem?_append_left hi] at h1
    rw [List.getElem?_append_left (by rw [← h.1]; exact hi)] at h2
    exact h.2 i v x h1 h2
  · rw [List.getElem?_append_right (by omega)] at h1
    rw [List.getElem?_append_right (by rw [← h.1]; omega)] at h2
    have e0 : i - vs.length = 0 := by
      have := (List.getElem?_eq_some_iff.mp h1).1
      simp at this
      omega
    rw [e0] at h1
    rw [← h.1, e0] at h2
    have h1' : V.ref p = v := by simpa using h1
    have h2' : e = x := by simpa using h2
    subst h1'
    subst h2'
    exact ⟨p, rfl, hp⟩⟩
theorem EvL.dp {K : PySem.W.Frag} {G : Hp} : ∀ {vs : List V} {es : List Ev}, EvL G vs es → DpAll K G vs (es.map dP)
  | [], [], _ => .nil
  | v :: vs, e :: es, h => by
    obtain ⟨p, e1, e2⟩ := h.2 0 v e rfl rfl
    rw [e1]
    exact .cons (dp_mkT e2 (.cons (.int _) (.cons (.int _) .nil))) (EvL.dp ⟨by have := h.1; simp at this; exact this, fun i v x h1 h2 => h.2 (i + 1) v x h1 h2⟩)
  | [], _ :: _, h => by have := h.1; simp at this
  | _ :: _, [], h => by have := h.1; simp at this
def EvRows (G : Hp) (vs : List V) (ls : List (List Ev)) : Prop := ∀ (i : Nat) (v : V) (es : List Ev), vs[i]? = some v → ls[i]? = some es → ∃ (a : Addr) (xs : List V), v = .ref a ∧ G a = some (.lst xs) ∧ EvL G xs es
def DTAt (K : PySem.W.Frag) (G : Hp) (a : Addr) (l : List (Ev × List Ev)) : Prop := ∃ kvs : List (List Key × V), G a = some (.dT kvs) ∧ kvs.map (·.1) = l.map (fun p => evK p.1) ∧ DpAll K G (kvs.map (·.2)) (l.map fun p => dPs p.2) ∧ EvRows G (kvs.map (·.2)) (l.map (·.2))
section
variable {K : PySem.W.Frag} {σ : L2.St} {G G' H H1 H2 : Hp} {D : Ends} {d : Bool → Addr} {td ti te tx : TE} {m : List (Bool × Ev × List Ev)}
structure BTOk (K : PySem.W.Frag) (H G' H1 : Hp) (b : BT) : Prop where
  g : G' b.a = none
  h : H b.a = none
  l : H1 b.a = some (.lst b.vs)
  d : EvL G' b.vs b.es
theorem BTOk.step {G2 : Hp} {e : BT} (b : BTOk K H G' H1 e) (g : Gr G' G2 H1 H2) : BTOk K H G2 H2 e :=
  ⟨g.2.2.2 _ (ne_none_of b.l) b.g, b.h, g.hp _ _ b.l, b.d.ex g.up⟩
structure D2Ok (K : PySem.W.Frag) (G H H1 : Hp) (d : Bool → Addr) (G' : Hp) (bs : List BT) : Prop where
  g : Gr G G' H H1
  dn : ∀ c, G' (d c) = none
  dh : ∀ c, H1 (d c) = some (.dT ((bs.filter fun b => decide (b.w = c)).map BT.kv))
  ok : ∀ b ∈ bs, BTOk K H G' H1 b
  nd : (bs.map BT.a).Nodup
  na : ∀ b ∈ bs, ∀ c, b.a ≠ d c
def D2 (K : PySem.W.Frag) (G H H1 : Hp) (d : Bool → Addr) (m : List (Bool × Ev × List Ev)) : Prop := ∃ G' bs, D2Ok K G H H1 d G' bs ∧ bs.map BT.d = m
theorem D2Ok.step {bs : List BT} {G2 : Hp} (h : D2Ok K G H H1 d G' bs) (g : Gr G' G2 H1 H2) : D2Ok K G H H2 d G2 bs :=
  ⟨h.g.trans g, fun c => g.2.2.2 _ (ne_none_of (h.dh c)) (h.dn c), fun c => g.hp _ _ (h.dh c), fun b m => (h.ok b m).step g, h.nd, h.na⟩
theorem D2.up (h : D2 K G H H1 d m) (e : Ex H1 H2) : D2 K G H H2 d m := by
  obtain ⟨G', bs, h, em⟩ := h
  exact ⟨G', bs, h.step (.same h.g.ok e), em⟩
theorem D2.ok (h : D2 K G H H1 d m) : Ex G H1 := by
  obtain ⟨G', bs, h, _⟩ := h
  exact h.g.up.trans h.g.ok
def addE (c : Bool) (k e : Ev) (x : Bool × Ev × List Ev) : Bool × Ev × List Ev := if x.1 = c ∧ x.2.1 = k then (x.1, x.2.1, x.2.2 ++ [e]) else x
def BT.add (c : Bool) (k e : Ev) (v : V) (b : BT) : BT := if b.w = c ∧ b.k = k then { b with vs := b.vs ++ [v], es := b.es ++ [e] } else b
/-- both dicts are done -/
theorem D2.get (h : D2 K G H H1 d m) (h0 : ∀ c, H (d c) = none) : ∃ Gf, Gr G Gf H H1 ∧ ∀ c, DTAt K Gf (d c) ((m.filter fun x => decide (x.1 = c)).map (·.2)) := by
  obtain ⟨G', bs, h, em⟩ := h
  obtain ⟨S, hS⟩ : ∃ S : List Addr, S = [d false, d true] ++ bs.map BT.a := ⟨_, rfl⟩
  have hS0 : ∀ a ∈ S, H a = none ∧ G' a = none := fun a ha => by
    rw [hS] at ha
    rcases List.mem_append.mp ha with ha | ha
    · simp at ha
      rcases ha with rfl | rfl
      · exact ⟨h0 _, h.dn _⟩
      · exact ⟨h0 _, h.dn _⟩
    · obtain ⟨b, hb, rfl⟩ := List.mem_map.mp ha
      exact ⟨(h.ok b hb).h, (h.ok b hb).g⟩
  have inD : ∀ c, d c ∈ S := fun c => by rw [hS]; cases c <;> simp
  have inB : ∀ b ∈ bs, b.a ∈ S := fun b hb => by rw [hS]; exact List.mem_append_right _ (List.mem_map.mpr ⟨b, hb, rfl⟩)
  have up : Ex G' (pick S G' H1) := fun a o q => by
    unfold pick
    rw [if_neg fun m => by rw [(hS0 a m).2] at q; cases q]
    exact q
  refine ⟨pick S G' H1, ⟨h.g.up.trans up, fun a o q => ?_, h.g.hp, fun a h0 h1 => ?_⟩, fun c => ⟨(bs.filter fun b => decide (b.w = c)).map BT.kv, ?_, ?_, ?_, ?_⟩⟩
  · unfold pick at q
    split at q
    · exact q
    · exact h.g.ok _ _ q
  · unfold pick
    rw [if_neg fun m => h0 (hS0 a m).1]
    exact h.g.2.2.2 a h0 h1
  · rw [pick_in (inD c)]; exact h.dh c
  · rw [← em, List.filter_map, List.map_map, List.map_map, List.map_map]; rfl
  · rw [← em, List.filter_map, List.map_map, List.map_map, List.map_map]
    have key : ∀ L : List BT, (∀ e ∈ L, e ∈ bs) → DpAll K (pick S G' H1) (L.map ((fun x : List Key × V => x.2) ∘ BT.kv)) (L.map ((fun p : Ev × List Ev => dPs p.2) ∘ ((fun x : Bool × Ev × List Ev => x.2) ∘ BT.d))) := fun L => by
      induction L with
      | nil => exact fun _ => .nil
      | cons e L ih =>
        intro hL
        have hb := hL e List.mem_cons_self
        have b := h.ok e hb
        exact .cons (dp_mkL (by rw [pick_in (inB e hb)]; exact b.l) (b.d.ex up).dp) (ih fun z hz => hL z (List.mem_cons_of_mem _ hz))
    exact key _ fun e he => (List.mem_filter.mp he).1
  · intro i v es hv he
    rw [List.map_map, List.getElem?_map] at hv
    rw [← em, List.filter_map, List.map_map, List.map_map, List.getElem?_map] at he
    have e0 : ((fun x : Bool × Ev × List Ev => decide (x.1 = c)) ∘ BT.d) = fun b : BT => decide (b.w = c) := rfl
    rw [e0] at he
    obtain ⟨b, hb, rfl⟩ := Option.map_eq_some_iff.mp hv
    rw [hb] at he
    have hbs := (List.mem_filter.mp (List.mem_of_getElem? hb)).1
    have b' := h.ok b hbs
    have ee : es = b.es := by simpa [BT.d] using he.symm
    subst ee
    exact ⟨b.a, b.vs, rfl, by rw [pick_in (inB b hbs)]; exact b'.l, b'.d.ex up⟩
end
end Lw
set_option Elab.async false
set_option linter.all false
set_option maxRecDepth 100000
set_option maxHeartbeats 4000000
/-! trains of a plan, who uses a block, orders by time -/
namespace Lw
open PySem PySem.Spec L2
open Evl (Ex)
structure Trn where
  way : List Int
  len : Int
def isWayB (n : Int) (js : List (Int × Int)) (row : List Int) : Bool := match headR n js row with
  | .way _ => true
  | _ => false
def TsOk (ts : List Trn) : Prop := ts.length ≤ 40 ∧ ∀ (i : Nat) (t : Trn), ts[i]? = some t → t.way.length ≤ 400
/-- the step at a block, or -1 -/
def stepAt (ts : List Trn) (i : Nat) (b : Int) : Int := match ts[i]? with
  | some t => stepOf t.way b
  | none => -1
theorem stepAt_eq {ts : List Trn} {i : Nat} {t : Trn} {b : Int} (h : ts[i]? = some t) : stepAt ts i b = stepOf t.way b := by unfold stepAt; rw [h]
theorem stepOf_lt (way : List Int) (b : Int) : stepOf way b < (way.length : Int) := by
  unfold stepOf
  split
  · rename_i m
    have := List.idxOf_lt_length_iff.mpr m
    omega
  · omega
theorem stepOf_ge {way : List Int} {b : Int} : 0 ≤ stepOf way b ↔ b ∈ way := by
  unfold stepOf
  split
  · rename_i m; exact ⟨fun _ => m, fun _ => by omega⟩
  · rename_i m; exact ⟨fun h => by omega, fun h => absurd h m⟩
def usersOf (parks : List Int) (ts : List Trn) (b : Int) : List Nat := if b ∈ parks then [] else (List.range ts.length).filter fun i => decide (stepAt ts i b ≥ 0)
theorem users_in {parks : List Int} {ts : List Trn} {b : Int} {i : Nat} (h : i ∈ usersOf parks ts b) : i < ts.length ∧ 0 ≤ stepAt ts i b := by
  unfold usersOf at h
  split at h
  · nomatch h
  · have := List.mem_filter.mp h
    exact ⟨List.mem_range.mp this.1, of_decide_eq_true this.2⟩
theorem users_len {parks : List Int} {ts : List Trn} {b : Int} : (usersOf parks ts b).length ≤ ts.length := by
  unfold usersOf
  split
  · simp
  · have := List.length_filter_le (fun i => decide (stepAt ts i b ≥ 0)) (List.range ts.length)
    rwa [List.length_range] at this
def momOf (ts : List Trn) (ms : List (List Int)) (b : Int) (i : Nat) : Int := (ms.getD i []).getD (stepAt ts i b).toNat 0
def timedOf (parks : List Int) (ts : List Trn) (ms : List (List Int)) (b : Int) : List (Int × Int) := (usersOf parks ts b).map fun i : Nat => (momOf ts ms b i, (i : Int))
def orderOf (parks : List Int) (ts : List Trn) (ms : List (List Int)) (b : Int) : List Int := (srtP (timedOf parks ts ms b)).map Prod.snd
section
variable {K : PySem.W.Frag} {C CT CP CN CW CB : Addr} {σ : L2.St} {G G' H H' H1 : Hp} {D : Ends} {ta tb te ti tl td tk tx : TE} {P : VP} {p a : Addr} {ts : List Trn}
/-- a list of trains -/
def TrsAt (K : PySem.W.Frag) (CT : Addr) (G : Hp) (a : Addr) (ts : List Trn) : Prop := ∃ ps : List Addr, SqL K G a (ps.map V.ref) ∧ ps.length = ts.length ∧ ∀ (i : Nat) (p : Addr) (t : Trn), ps[i]? = some p → ts[i]? = some t → TrAtT K CT G p t.way t.len
theorem TrsAt.ex (h : TrsAt K CT G a ts) (e : Ex G G') : TrsAt K CT G' a ts := by
  obtain ⟨ps, h1, h2, h3⟩ := h
  exact ⟨ps, Evl.ex_l e h1, h2, fun i p t hp ht => (h3 i p t hp ht).ex e⟩
theorem TrsAt.at_ (h : TrsAt K CT G a ts) {i : Nat} {t : Trn} (ht : ts[i]? = some t) : ∃ p, TrAtT K CT G p t.way t.len ∧ ∀ {σ : L2.St} {te ti : TE} {G' : Hp}, Ex G G' → EF te σ G' (XV (.ref a)) → EF ti σ G' (XV (.int (i : Int))) → EF (tOp (rIxL K) te ti) σ G' (XV (.ref p)) := by
  obtain ⟨ps, h1, h2, h3⟩ := h
  have hi := (List.getElem?_eq_some_iff.mp ht).1
  have hp : ps[i]? = some ps[i] := List.getElem?_eq_getElem (by omega)
  refine ⟨ps[i], h3 i _ t hp ht, fun e h1' h2' => ex_ixL (i := i) h1' h2' rfl (Evl.ex_l e h1) (by rw [List.getElem?_map, hp]; rfl)⟩
def BRet (CB : Addr) (G H : Hp) (r : Option Nat) (P : VP) (Q : VK) (E : XK) : Prop := match r with
  | none => Ret G H P Q
  | some i => Rse CB [("train", .int (i : Int))] G H E
theorem BRet.up {r : Option Nat} {Q : VK} {E : XK} {G0 G1 H0 H1 : Hp} (h : BRet CB G0 H0 r P Q E) (g : Gr G0 G1 H0 H1) : BRet CB G1 H1 r P Q E := by
  cases r with
  | none => exact fun v G' H' g' p => h v G' H' (g.trans g') p
  | some i => exact Rse.up h g
/-- a list of new lists that grows -/
def LNSt (K : PySem.W.Frag) (G H H' : Hp) (q : Addr) (L : List PyData) : Prop := ∃ G' bs, Gr G G' H H' ∧ G' q = none ∧ H' q = some (.lst bs) ∧ DpAll K G' bs L ∧ ∀ b ∈ bs, ∃ a xs, b = .ref a ∧ G a = none ∧ G' a = some (.lst xs) ∧ xs.length ≤ 900
theorem LNSt.up {q : Addr} {L : List PyData} {H2 : Hp} (h : LNSt K G H H1 q L) (e : Ex H1 H2) : LNSt K G H H2 q L := by
  obtain ⟨G', bs, g, gq, hq, hd, hb⟩ := h
  exact ⟨G', bs, g.then e, gq, e _ _ hq, hd, hb⟩
theorem LNSt.app {q : Addr} {L : List PyData} {G1 H2 : Hp} {bs : List V} {v : V} {ds : List PyData} (g : Gr G G1 H H2) (hqH : H q = none) (gq : G1 q = none) (hd : DpAll K G1 bs L) (hb : ∀ b ∈ bs, ∃ a xs, b = .ref a ∧ G a = none ∧ G1 a = some (.lst xs) ∧ xs.length ≤ 900) (hv : NwD K G ds v G1) (hl : ds.length ≤ 900) : LNSt K G H (upd H2 q (.lst (bs ++ [v]))) q (L ++ [.list ds]) := by
  refine ⟨G1, bs ++ [v], g.put hqH gq, gq, upd_same, dpa_snoc hd hv.dp, fun b m => ?_⟩
  rcases List.mem_append.mp m with m | m
  · exact hb b m
  · rw [List.mem_singleton.mp m]
    obtain ⟨a, xs, ev, h0, h1, h2⟩ := hv
    exact ⟨a, xs, ev, h0, h1, by rw [dpa_len h2]; exact hl⟩
theorem LNSt.done {q : Addr} {L : List PyData} (h : LNSt K G H H1 q L) (hG : Ex G H) (hqH : H q = none) : ∃ G2, Gr G G2 H H1 ∧ LN K G L (.ref q) G2 := by
  obtain ⟨G', bs, g, gq, hq, hd, hb⟩ := h
  have ei := ex_in (o := .lst bs) gq
  refine ⟨upd G' q (.lst bs), g.know hG hqH hq, q, bs, rfl, none_back hG hqH, upd_same, dpax hd ei, fun b m => ?_⟩
  obtain ⟨a, xs, eb, h0, h1, h2⟩ := hb b m
  exact ⟨a, xs, eb, h0, (fun z => by rw [z, gq] at h1; cases h1), ei _ _ h1, h2⟩
end
end Lw
set_option Elab.async false
set_option linter.all false
set_option maxRecDepth 100000
set_option maxHeartbeats 4000000
/-! new lists of pairs; rows of times -/
namespace Lw
open PySem PySem.Spec L2
open Evl (Ex)
section
variable {K : PySem.W.Frag} {C CT CP CN CW CB : Addr} {σ : L2.St} {G G' H H' H1 : Hp} {D : Ends} {ta tb te ti tl td tk tx : TE} {P : VP}
theorem LN.low {G0 G1 : Hp} {ds : List PyData} {v : V} (e : Ex G0 G1) (h : LN K G1 ds v G) : LN K G0 ds v G := by
  obtain ⟨l, bs, ev, h0, h1, h2, h3⟩ := h
  exact ⟨l, bs, ev, none_back e h0, h1, h2, fun b m => by
    obtain ⟨a, xs, eb, q0, q1, q2, q3⟩ := h3 b m
    exact ⟨a, xs, eb, none_back e q0, q1, q2, q3⟩⟩
theorem ex_lsize {p : Addr} {n : Nat} {parks : List Int} {js : List (Int × Int)} (T : Cl K C) (hL : LayAt K C G p n parks js) (h : EF ta σ G (XV (.ref p))) : EF (tFld K ta "size") σ G (XV (.int (n : Int))) := by
  obtain ⟨dx, fs, h1, h2⟩ := hL.size
  exact ex_fld h h1 T.cl T.size h2
end
end Lw
set_option Elab.async false
set_option linter.all false
set_option maxRecDepth 100000
set_option maxHeartbeats 4000000
/-! plans: lists of pairs of events, sorted, zipped -/
namespace Lw
open PySem PySem.Spec L2
open Evl (Ex)
open PyProof.Rows
open PySem.W (EachIs)
def encE (q : Ev × Ev) : PyData := .tuple [dP q.1, dP q.2]
def srtE (l : List (Ev × Ev)) : List (Ev × Ev) := l.mergeSort (PySem.W.dataLe false encE)
theorem srtE_perm (l : List (Ev × Ev)) : (srtE l).Perm l := List.mergeSort_perm l _
/-- a new pair of ints -/
def XEv (e : Ev) : VP := fun v G => ∃ b : Addr, v = .ref b ∧ G b = some (.tup [.int e.1, .int e.2])
/-- a new pair of two -/
def XPr (G : Hp) (v : V) (q : Ev × Ev) : Prop := ∃ b p1 p2 : Addr, v = .ref b ∧ G b = some (.tup [.ref p1, .ref p2]) ∧ G p1 = some (.tup [.int q.1.1, .int q.1.2]) ∧ G p2 = some (.tup [.int q.2.1, .int q.2.2])
theorem XPr.ex {G G' : Hp} {v : V} {q : Ev × Ev} (h : XPr G v q) (e : Ex G G') : XPr G' v q := by
  obtain ⟨b, p1, p2, ev, h1, h2, h3⟩ := h
  exact ⟨b, p1, p2, ev, e _ _ h1, e _ _ h2, e _ _ h3⟩
theorem dp_ev {K : PySem.W.Frag} {G : Hp} {p : Addr} {e : Ev} (h : G p = some (.tup [.int e.1, .int e.2])) : Dp K G (.ref p) (dP e) := dp_mkT h (.cons (.int _) (.cons (.int _) .nil))
theorem XEv.dp {K : PySem.W.Frag} {G : Hp} {v : V} {e : Ev} (h : XEv e v G) : Dp K G v (dP e) := by
  obtain ⟨b, rfl, h⟩ := h
  exact dp_ev h
theorem XPr.dp {K : PySem.W.Frag} {G : Hp} {v : V} {q : Ev × Ev} (h : XPr G v q) : Dp K G v (encE q) := by
  obtain ⟨b, p1, p2, rfl, h1, h2, h3⟩ := h
  exact dp_mkT h1 (.cons (dp_ev h2) (.cons (dp_ev h3) .nil))
theorem xprs_ex {G G' : Hp} (e : Ex G G') {xs : List V} {l : List (Ev × Ev)} (h : EachIs (XPr G) xs l) : EachIs (XPr G') xs l := h.mono fun _ _ z => z.ex e
/-- a new list of such pairs -/
def XPs (G0 : Hp) (l : List (Ev × Ev)) : VP := fun v G => ∃ (a : Addr) (xs : List V), v = .ref a ∧ G0 a = none ∧ G a = some (.lst xs) ∧ EachIs (XPr G) xs l
section
variable {K : PySem.W.Frag} {C CT CP CN CW CB : Addr} {σ : L2.St} {G G' H H' H1 H2 : Hp} {D : Ends} {ta tb te ti tl td tk tx : TE} {P : VP}
theorem XPs.low {G0 G1 : Hp} {l : List (Ev × Ev)} {v : V} (e : Ex G0 G1) (h : XPs G1 l v G) : XPs G0 l v G := by
  obtain ⟨a, xs, ev, h0, h1, h2⟩ := h
  exact ⟨a, xs, ev, none_back e h0, h1, h2⟩
/-- a list of such pairs that grows -/
def XSt (G H H' : Hp) (q : Addr) (L : List (Ev × Ev)) : Prop := ∃ G' vs, Gr G G' H H' ∧ G' q = none ∧ H' q = some (.lst vs) ∧ EachIs (XPr G') vs L
theorem XSt.ok {q : Addr} {L : List (Ev × Ev)} (h : XSt G H H1 q L) : Ex G H1 := by
  obtain ⟨G', vs, g, _⟩ := h
  exact g.up.trans g.ok
theorem XSt.up {q : Addr} {L : List (Ev × Ev)} (h : XSt G H H1 q L) (e : Ex H1 H2) : XSt G H H2 q L := by
  obtain ⟨G', vs, g, gq, hq, hd⟩ := h
  exact ⟨G', vs, g.then e, gq, e _ _ hq, hd⟩
theorem XSt.done {q : Addr} {L : List (Ev × Ev)} (h : XSt G H H1 q L) (hG : Ex G H) (hqH : H q = none) : ∃ G2, Gr G G2 H H1 ∧ XPs G L (.ref q) G2 := by
  obtain ⟨G', vs, g, gq, hq, hd⟩ := h
  have ei := ex_in (o := .lst vs) gq
  exact ⟨upd G' q (.lst vs), g.know hG hqH hq, q, vs, rfl, none_back hG hqH, upd_same, xprs_ex ei hd⟩
/-- for over zip of two lists -/
theorem st_forZ {xs ys : List V} {n : Nat} {ta : TA} {g : TG} {tu : TS} (hn : n = min xs.length ys.length) (hG : Ex G H) (h : EA ta σ G fun vs G' => ∃ a b : Addr, vs = [.ref a, .ref b] ∧ SqL K G' a xs ∧ SqL K G' b ys)
    (k : ∀ G1 H1, Gr G G1 H H1 → ∃ W : Nat → L2.St → Hp → Prop, W 0 σ H1 ∧ (∀ i σ' H', W i σ' H' → Ex G1 H') ∧ (∀ i x y T σ' H', i < n → xs[i]? = some x → ys[i]? = some y → W i σ' H' → H' T = none → g (.ref T) σ' (upd H' T (.tup [x, y])) fun σ2 H2 => tu { D with nx := W (i + 1), ct := W (i + 1), bk := D.nx } σ2 H2) ∧ (∀ σ' H', W n σ' H' → D.nx σ' H')) : tFor (iZip K ta) g tu D σ H :=
  h H hG _ fun vs G1 H1 g1 ⟨a, b, ev, hx, hy⟩ => by
    obtain ⟨W, h0, hp, hs, hd⟩ := k G1 H1 g1
    refine ⟨a, b, xs, ys, ev, Evl.ex_l g1.ok hx, Evl.ex_l g1.ok hy, ?_⟩
    refine for_it (walk_zip hn) W h0 (fun i σ' H' _ hw => ⟨Evl.ex_l (hp i σ' H' hw) hx, Evl.ex_l (hp i σ' H' hw) hy⟩) (fun i x σ' H' H'' hi hw hY => ?_) hd
    obtain ⟨T, u, v, rfl, hT, rfl, e1, e2⟩ := hY
    exact hs i u v T σ' H' hi e1 e2 hw hT
end
end Lw
set_option Elab.async false
set_option linter.all false
set_option maxRecDepth 100000
set_option maxHeartbeats 4000000
/-! plans -/
namespace Lw
open PySem PySem.Spec L2
open Evl (Ex)
structure Pl where
  lens : List Int
  parks : List Int
  js : List (Int × Int)
  ts : List Trn
  ord : List (List Int)
  trn : List (Int × Int)
def Pl.rels (pl : Pl) : List (List Int) := pl.ts.map fun t => relsOf pl.lens t.len t.way
def wl (ts : List Trn) (i : Nat) : Nat := match ts[i]? with
  | some t => t.way.length
  | none => 0
theorem wl_eq {ts : List Trn} {i : Nat} {t : Trn} (h : ts[i]? = some t) : wl ts i = t.way.length := by unfold wl; rw [h]
def Pl.rel (pl : Pl) (i s : Nat) : Int := (pl.rels.getD i []).getD s 0
def Pl.bnd (pl : Pl) (i : Nat) (b : Int) : Int × Int := (2 * stepAt pl.ts i b, pl.rel i (stepAt pl.ts i b).toNat)
def prI (ts : List Trn) (i : Nat) (k : Nat) : Ev × Ev := (((i : Int), (k : Int)), ((i : Int), (k : Int) + 1))
def prB (pl : Pl) (b : Int) (q : Int × Int) : Ev × Ev := ((q.1, (pl.bnd q.1.toNat b).2), (q.2, (pl.bnd q.2.toNat b).1))
def prT (ts : List Trn) (q : Int × Int) : Ev × Ev := ((q.1, 2 * (wl ts q.1.toNat : Int)), (q.2, 0))
def Pl.row (pl : Pl) (b : Nat) : List Int := pl.ord.getD b []
def Pl.pr1 (pl : Pl) (m : Nat) : List (Ev × Ev) := (List.range m).flatMap fun i => (List.range (2 * wl pl.ts i)).map (prI pl.ts i)
def Pl.pr2 (pl : Pl) (m : Nat) : List (Ev × Ev) := (List.range m).flatMap fun b => ((pl.row b).zip ((pl.row b).drop 1)).map (prB pl (b : Int))
def Pl.pr3 (pl : Pl) : List (Ev × Ev) := pl.trn.map (prT pl.ts)
def Pl.prs (pl : Pl) : List (Ev × Ev) := pl.pr1 pl.ts.length ++ pl.pr2 pl.lens.length ++ pl.pr3
theorem pr1_succ {pl : Pl} {m : Nat} : pl.pr1 (m + 1) = pl.pr1 m ++ (List.range (2 * wl pl.ts m)).map (prI pl.ts m) := by
  unfold Pl.pr1
  rw [List.range_succ, List.flatMap_append]
  simp
theorem pr2_succ {pl : Pl} {m : Nat} : pl.pr2 (m + 1) = pl.pr2 m ++ ((pl.row m).zip ((pl.row m).drop 1)).map (prB pl (m : Int)) := by
  unfold Pl.pr2
  rw [List.range_succ, List.flatMap_append]
  simp
def dNi (l : List Nat) : List Int := l.map fun i : Nat => (i : Int)
def OrdOk (n : Nat) (parks : List Int) (ts : List Trn) (ord : List (List Int)) : Prop := ord.length = n ∧ ∀ (b : Nat) (row : List Int), ord[b]? = some row → srtI row = dNi (usersOf parks ts (b : Int))
theorem OrdOk.at_ {n : Nat} {parks : List Int} {ts : List Trn} {ord : List (List Int)} (h : OrdOk n parks ts ord) {b : Nat} {row : List Int} (hb : ord[b]? = some row) {f : Int} (hf : f ∈ row) : ∃ i : Nat, f = (i : Int) ∧ i < ts.length ∧ 0 ≤ stepAt ts i (b : Int) := by
  have := (srtI_perm row).mem_iff.mpr hf
  rw [h.2 b row hb] at this
  obtain ⟨i, hi, e⟩ := List.mem_map.mp this
  exact ⟨i, e.symm, users_in hi⟩
theorem OrdOk.len {n : Nat} {parks : List Int} {ts : List Trn} {ord : List (List Int)} (h : OrdOk n parks ts ord) {b : Nat} {row : List Int} (hb : ord[b]? = some row) : row.length ≤ ts.length := by
  have := (srtI_perm row).length_eq
  rw [h.2 b row hb] at this
  unfold dNi at this
  rw [List.length_map] at this
  have := users_len (parks := parks) (ts := ts) (b := (b : Int))
  omega
structure PlOk (pl : Pl) : Prop where
  ts : TsOk pl.ts
  few : pl.lens.length ≤ 200
  ways : ∀ (i : Nat) (t : Trn), pl.ts[i]? = some t → isWayB (pl.lens.length : Int) pl.js t.way = true
  ord : OrdOk pl.lens.length pl.parks pl.ts pl.ord
  trn : ∀ q ∈ pl.trn, ∃ i j : Nat, q = ((i : Int), (j : Int)) ∧ i < pl.ts.length ∧ j < pl.ts.length
  prs : pl.prs.length < 1000
structure PFl (fs : List (Str × V)) (p t o u r b a : Addr) (n tot : Int) : Prop where
  layout : fs.lookup ("layout" : Str) = some (.ref p)
  size : fs.lookup ("size" : Str) = some (.int n)
  total : fs.lookup ("total" : Str) = some (.int tot)
  trains : fs.lookup ("_trains" : Str) = some (.ref t)
  orders : fs.lookup ("_orders" : Str) = some (.ref o)
  turns : fs.lookup ("_turns" : Str) = some (.ref u)
  rels : fs.lookup ("_releases" : Str) = some (.ref r)
  befs : fs.lookup ("_befores" : Str) = some (.ref b)
  afts : fs.lookup ("_afters" : Str) = some (.ref a)
  no : ∀ m : Str, m ≠ "layout" → m ≠ "size" → m ≠ "total" → m ≠ "_trains" → m ≠ "_orders" → m ≠ "_turns" → m ≠ "_releases" → m ≠ "_befores" → m ≠ "_afters" → fs.lookup m = none
def totOf (ts : List Trn) : Int := (ts.map fun t => 2 * (t.way.length : Int) + 1).sum
section
variable {K : PySem.W.Frag} {C CT CP CN CW CB : Addr} {σ : L2.St} {G G' H H' H1 H2 : Hp} {D : Ends} {ta tb te ti tl td tk tx : TE} {P : VP} {p x : Addr} {d : Bool → Addr} {pl : Pl}
/-- a plan, its two dicts not told -/
def PlanC (K : PySem.W.Frag) (C CT CP : Addr) (G : Hp) (x : Addr) (d : Bool → Addr) (pl : Pl) : Prop := ∃ dx fs p t o u r, G x = some (.ins CP dx fs) ∧ PFl fs p t o u r (d false) (d true) (pl.ts.length : Int) (totOf pl.ts) ∧ LayL K C G p pl.lens pl.parks pl.js ∧ TrsAt K CT G t pl.ts ∧ Dp K G (.ref o) (.list (pl.ord.map dI)) ∧ Dp K G (.ref u) (dPs pl.trn) ∧ Dp K G (.ref r) (.list (pl.rels.map dI))
theorem PlanC.ex (h : PlanC K C CT CP G x d pl) (e : Ex G G') : PlanC K C CT CP G' x d pl := by
  obtain ⟨dx, fs, p, t, o, u, r, h1, h2, h3, h4, h5, h6, h7⟩ := h
  exact ⟨dx, fs, p, t, o, u, r, e _ _ h1, h2, h3.ex e, h4.ex e, dpx h5 e, dpx h6 e, dpx h7 e⟩
theorem PlanC.meth (h : PlanC K C CT CP G x d pl) {m : Str} (hm : m ≠ "layout" ∧ m ≠ "size" ∧ m ≠ "total" ∧ m ≠ "_trains" ∧ m ≠ "_orders" ∧ m ≠ "_turns" ∧ m ≠ "_releases" ∧ m ≠ "_befores" ∧ m ≠ "_afters") : ∃ dx fs, G x = some (.ins CP dx fs) ∧ fs.lookup m = none := by
  obtain ⟨dx, fs, p, t, o, u, r, h1, h2, _⟩ := h
  obtain ⟨m1, m2, m3, m4, m5, m6, m7, m8, m9⟩ := hm
  exact ⟨dx, fs, h1, h2.no m m1 m2 m3 m4 m5 m6 m7 m8 m9⟩
/-! promises -/
/-- the train with this number -/
def TrnQ (K : PySem.W.Frag) (CP : Addr) (G : Hp) (x : Addr) (i : Nat) (q : Addr) : Prop := ∃ dx fs a xs, G x = some (.ins CP dx fs) ∧ fs.lookup ("_trains" : Str) = some (.ref a) ∧ SqL K G a xs ∧ xs[i]? = some (.ref q)
theorem TrnQ.ex {i : Nat} {q : Addr} (h : TrnQ K CP G x i q) (e : Ex G G') : TrnQ K CP G' x i q := by
  obtain ⟨dx, fs, a, xs, h1, h2, h3, h4⟩ := h
  exact ⟨dx, fs, a, xs, e _ _ h1, h2, Evl.ex_l e h3, h4⟩
theorem PlanC.trn {i : Nat} {t : Trn} (h : PlanC K C CT CP G x d pl) (ht : pl.ts[i]? = some t) : ∃ q, TrAtT K CT G q t.way t.len ∧ TrnQ K CP G x i q := by
  obtain ⟨dx, fs, p, a, o, u, r, h1, h2, h3, ⟨ps, s1, s2, s3⟩, _⟩ := h
  have hi := (List.getElem?_eq_some_iff.mp ht).1
  have hp : ps[i]? = some ps[i] := List.getElem?_eq_getElem (by omega)
  exact ⟨ps[i], s3 i _ t hp ht, dx, fs, a, _, h1, h2.trains, s1, by rw [List.getElem?_map, hp]; rfl⟩
/-- a plan as its orders need it -/
def PlanO (K : PySem.W.Frag) (C CP : Addr) (G : Hp) (x : Addr) (n : Nat) (parks : List Int) (js : List (Int × Int)) (ord : List (List Int)) : Prop := ∃ dx fs p o, G x = some (.ins CP dx fs) ∧ fs.lookup ("layout" : Str) = some (.ref p) ∧ fs.lookup ("_orders" : Str) = some (.ref o) ∧ fs.lookup ("order" : Str) = none ∧ LayAt K C G p n parks js ∧ Dp K G (.ref o) (.list (ord.map dI))
theorem PlanC.o (h : PlanC K C CT CP G x d pl) : PlanO K C CP G x pl.lens.length pl.parks pl.js pl.ord := by
  obtain ⟨dx, fs, p, a, o, u, r, h1, h2, h3, h4, h5, _⟩ := h
  exact ⟨dx, fs, p, o, h1, h2.layout, h2.orders, h2.no _ (by decide +kernel) (by decide +kernel) (by decide +kernel) (by decide +kernel) (by decide +kernel) (by decide +kernel) (by decide +kernel) (by decide +kernel) (by decide +kernel), h3.1, h5⟩
theorem PlanO.ex {n : Nat} {parks : List Int} {js : List (Int × Int)} {ord : List (List Int)} (h : PlanO K C CP G x n parks js ord) (e : Ex G G') : PlanO K C CP G' x n parks js ord := by
  obtain ⟨dx, fs, p, o, h1, h2, h3, h4, h5, h6⟩ := h
  exact ⟨dx, fs, p, o, e _ _ h1, h2, h3, h4, h5.ex e, dpx h6 e⟩
end
end Lw
set_option Elab.async false
set_option linter.all false
set_option maxRecDepth 100000
set_option maxHeartbeats 4000000
/-! plans are made: helpers, and the events as mathematics -/
namespace Lw
open PySem PySem.Spec L2
open Evl (Ex)
open PySem.W (EachIs)
/-! the events -/
def evsOf (ts : List Trn) (m : Nat) : List Ev := (List.range m).flatMap fun i => (List.range (2 * wl ts i + 1)).map fun k : Nat => (((i : Int), (k : Int)) : Ev)
abbrev DMp := List (Bool × Ev × List Ev)
def m0 (l : List Ev) : DMp := l.flatMap fun e => [(false, e, []), (true, e, [])]
def lnkE (m : DMp) (q : Ev × Ev) : DMp := (m.map (addE true q.1 q.2)).map (addE false q.2 q.1)
def Pl.evs (pl : Pl) : List Ev := evsOf pl.ts pl.ts.length
def Pl.linkM (pl : Pl) : DMp := (srtE pl.prs).foldl lnkE (m0 pl.evs)
theorem Gr.comp {G G1 G2 H H1 H2 : Hp} (a : Gr G G1 H H1) (b : Gr G1 G2 H H2) : Gr G G2 H H2 := ⟨a.up.trans b.up, b.ok, b.hp, fun x h g => b.2.2.2 x h (a.2.2.2 x h g)⟩
section
variable {K : PySem.W.Frag} {C CT CP CN CW CB : Addr} {σ : L2.St} {G G' H H' H1 H2 : Hp} {D : Ends} {ta tb te ti tl td tk tx : TE} {P : VP} {p x : Addr} {d : Bool → Addr} {pl : Pl}
theorem XSt.base {q : Addr} {L : List (Ev × Ev)} (h : XSt G H H1 q L) : ∃ G', Gr G G' H H1 ∧ G' q = none ∧ ∀ G2 H2, Gr G' G2 H1 H2 → XSt G2 H H2 q L := by
  obtain ⟨G', vs, g, gq, hq, hd⟩ := h
  refine ⟨G', g, gq, fun G2 H2 g2 => ⟨G2, vs, ⟨Ex.refl _, g2.ok, g.hp.trans g2.hp, fun _ _ h => h⟩, g2.2.2.2 q (ne_none_of hq) gq, g2.hp _ _ hq, xprs_ex g2.up hd⟩⟩
theorem D2.base {m : DMp} (h : D2 K G H H1 d m) : ∃ G', Gr G G' H H1 ∧ (∀ c, G' (d c) = none) ∧ ∀ G2 H2, Gr G' G2 H1 H2 → D2 K G2 H H2 d m := by
  obtain ⟨G', bs, h, em⟩ := h
  refine ⟨G', h.g, h.dn, fun G2 H2 g2 => ?_⟩
  have s := h.step g2
  exact ⟨G2, bs, ⟨⟨Ex.refl _, s.g.ok, s.g.hp, fun _ _ h => h⟩, s.dn, s.dh, s.ok, s.nd, s.na⟩, em⟩
theorem ex_listV {a : Addr} {xs : List V} (ha : EF ta σ G (XV (.ref a))) (hs : SqL K G a xs) : EF (tCB (Evl.rListS K) (tCons ta tNil)) σ G fun v G' => ∃ q : Addr, v = .ref q ∧ G q = none ∧ G' q = some (.lst xs) := fun H e Q q => ha H e _ fun x G1 H1 g1 p => by
  cases (show x = .ref a from p)
  refine ⟨a, xs, rfl, .inl (Evl.ex_l (g1.up.trans g1.ok) hs), fun l hl => ?_⟩
  exact q _ _ _ (g1.trans (.new g1.ok hl)) ⟨l, rfl, none_back (g1.up.trans g1.ok) hl, upd_same⟩
theorem ex_fst {q : Int × Int} (h : EF ta σ G (DV K (dP q))) : EF (tOp (rIxT K) ta (tC (.int 0))) σ G (XV (.int q.1)) := ed_ixT (q := (· = 0)) h (EF.iv ex_c) fun i hi => ⟨0, .int q.1, hi, rfl, fun v G' d => by cases d; rfl⟩
theorem ex_snd {q : Int × Int} (h : EF ta σ G (DV K (dP q))) : EF (tOp (rIxT K) ta (tC (.int 1))) σ G (XV (.int q.2)) := ed_ixT (q := (· = 1)) h (EF.iv ex_c) fun i hi => ⟨1, .int q.2, hi, rfl, fun v G' d => by cases d; rfl⟩
/-! promises -/
end
end Lw
set_option Elab.async false
set_option linter.all false
set_option maxRecDepth 100000
set_option maxHeartbeats 4000000
/-! an instance field by field; the constructor of plans -/
namespace Lw
open PySem PySem.Spec L2
open Evl (Ex)
section
variable {K : PySem.W.Frag} {C CT CP CN CW CB : Addr} {σ : L2.St} {G G' Kn S H H' H1 H2 : Hp} {D : Ends} {ta tb te ti tl td tk tx tv to : TE} {P : VP} {p x dx : Addr} {d : Bool → Addr} {pl : Pl} {fs : List (Str × V)} {f : Str} {n : Nat}
/-- x.f = v, what is known growing, x unknown -/
theorem st_fldK (hG : Gr G Kn S H) (hx : H x = some (.ins C dx fs)) (kx : Kn x = none) (sx : S x = none) (hv : EF tv σ Kn P) (ho : EF ta σ H (XV (.ref x))) (hc : Cls K C) (hn : NoAttr K C f) (hl : fs.length ≤ n) (h9 : n < 1000)
    (k : ∀ y K2 H2, Gr G K2 S H2 → Ex Kn K2 → K2 x = none → H2 x = some (.ins C dx (putF f y fs)) → (putF f y fs).length ≤ n + 1 → P y K2 → D.nx σ H2) : sFld K ta tv f D σ H := hv H hG.ok _ fun y G1 H1 g1 p1 => ho H1 g1.hp _ fun z G2 H2 g2 p2 => by
  have e2 : Ex H1 H2 := g2.hp
  refine ⟨x, C, dx, fs, p2, e2 _ _ (g1.hp _ _ hx), hc, hn, Nat.lt_of_le_of_lt hl h9, ?_⟩
  have kx1 : G1 x = none := g1.2.2.2 x (ne_none_of hx) kx
  refine k y G1 _ (((hG.trans g1).then e2).put sx kx1) g1.up kx1 upd_same ?_ p1
  have := putF_len f y fs
  omega
/-- a list of new rows of ints -/
def LNI (G0 : Hp) (rows : List (List Int)) : VP := fun v G => ∃ (l : Addr) (as : List Addr), v = .ref l ∧ G0 l = none ∧ G l = some (.lst (as.map V.ref)) ∧ as.length = rows.length ∧ ∀ (i : Nat) (a : Addr) (r : List Int), as[i]? = some a → rows[i]? = some r → G0 a = none ∧ a ≠ l ∧ G a = some (.lst (r.map V.int))
theorem LNI.low {G0 G1 : Hp} {rows : List (List Int)} {v : V} (e : Ex G0 G1) (h : LNI G1 rows v G) : LNI G0 rows v G := by
  obtain ⟨l, as, ev, h0, h1, h2, h3⟩ := h
  exact ⟨l, as, ev, none_back e h0, h1, h2, fun i a r ha hr => by
    obtain ⟨q0, q1, q2⟩ := h3 i a r ha hr
    exact ⟨none_back e q0, q1, q2⟩⟩
theorem dpa_idx {K : PySem.W.Frag} {G : Hp} : ∀ {vs : List V} {ds : List PyData}, vs.length = ds.length → (∀ (j : Nat) v d, vs[j]? = some v → ds[j]? = some d → Dp K G v d) → DpAll K G vs ds
  | [], [], _, _ => .nil
  | [], _ :: _, h, _ => nomatch h
  | _ :: _, [], h, _ => nomatch h
  | v :: vs, d :: ds, h, k => .cons (k 0 v d rfl rfl) (dpa_idx (by simpa using h) fun j v d h1 h2 => k (j + 1) v d (by simpa using h1) (by simpa using h2))
theorem LNI.dp {G0 : Hp} {rows : List (List Int)} {v : V} (h : LNI G0 rows v G) : Dp K G v (.list (rows.map dI)) := by
  obtain ⟨l, as, rfl, h0, h1, h2, h3⟩ := h
  refine dp_mkL h1 (dpa_idx (by rw [List.length_map, List.length_map, h2]) fun j v d hv hd => ?_)
  rw [List.getElem?_map] at hv hd
  obtain ⟨a, ha, rfl⟩ := Option.map_eq_some_iff.mp hv
  obtain ⟨r, hr, rfl⟩ := Option.map_eq_some_iff.mp hd
  exact dp_mkL (h3 j a r ha hr).2.2 (dpa_ints r)
/-- without these addresses -/
def dropS (B : List Addr) (G : Hp) : Hp := fun a => if a ∈ B then none else G a
theorem dropS_out {B : List Addr} {G : Hp} {a : Addr} (h : a ∉ B) : dropS B G a = G a := if_neg h
theorem LNI.drop {G0 : Hp} {rows : List (List Int)} {v : V} {B : List Addr} (h : LNI G0 rows v G) (hB : ∀ a ∈ B, G0 a ≠ none) : LNI G0 rows v (dropS B G) := by
  obtain ⟨l, as, ev, h0, h1, h2, h3⟩ := h
  refine ⟨l, as, ev, h0, by rw [dropS_out fun m => hB l m h0]; exact h1, h2, fun i a r ha hr => ?_⟩
  obtain ⟨q0, q1, q2⟩ := h3 i a r ha hr
  exact ⟨q0, q1, by rw [dropS_out fun m => hB a m q0]; exact q2⟩
/-- a plan that was made: what is its own was not there before -/
def PlanN (K : PySem.W.Frag) (C CT CP : Addr) (G0 G : Hp) (x p : Addr) (d : Bool → Addr) (pl : Pl) : Prop := PlanC K C CT CP G x d pl ∧ (∃ dx fs o, G x = some (.ins CP dx fs) ∧ G0 x = none ∧ fs.lookup ("layout" : Str) = some (.ref p) ∧ fs.lookup ("_orders" : Str) = some (.ref o) ∧ fs.lookup ("order" : Str) = none ∧ LNI G0 pl.ord (.ref o) G) ∧
  ∀ c, DTAt K G (d c) ((pl.linkM.filter fun x => decide (x.1 = c)).map (·.2))
end
end Lw
set_option Elab.async false
set_option linter.all false
set_option maxRecDepth 100000
set_option maxHeartbeats 4000000
/-! tracks that may be empty -/
namespace Lw
open PySem PySem.Spec L2
open Evl (Ex)
structure TrkW (t : Trk) : Prop where
  few : t.lens.length ≤ 40
  one : ∀ l ∈ t.lens, 1 ≤ l
  fewP : t.parks.length ≤ 300
  inP : ∀ b ∈ t.parks, 0 ≤ b ∧ b < (t.lens.length : Int)
  fewJ : t.joints.length ≤ 900
  js : JOk (t.lens.length : Int) t.parks t.joints
theorem TrkW.of {t : Trk} (h : TrkOk t) (hl : t.lens.length ≤ 40) : TrkW t := ⟨hl, h.one, by have := h.fewP; omega, h.inP, h.fewJ, h.js⟩
theorem TrkW.low {t : Trk} (h : TrkW t) {ps : List Int} (h1 : ∀ b ∈ t.parks, b ∈ ps) (h2 : ∀ b ∈ ps, 0 ≤ b ∧ b < (t.lens.length : Int)) (h3 : ps.length ≤ 300) : TrkW ⟨t.lens, t.joints, ps⟩ := ⟨h.few, h.one, h3, h2, h.fewJ, h.js.yards h1⟩
/-- a new list of rows -/
def RowsN (K : PySem.W.Frag) (G0 : Hp) (p : List (List Int) → Prop) : VP := fun v G => ∃ (rows : List (List Int)) (q : Addr) (vs : List V) (G1 : Hp), p rows ∧ v = .ref q ∧ G0 q = none ∧ G q = some (.lst vs) ∧ Ex G0 G1 ∧ Ex G1 G ∧ G1 q = none ∧ DpAll K G1 vs (rows.map dI)
def NwI (K : PySem.W.Frag) (G0 : Hp) (p : List Int → Prop) : VP := fun v G => ∃ (q : Addr) (ns : List Int), v = .ref q ∧ G0 q = none ∧ G q = some (.lst (ns.map V.int)) ∧ p ns
section
variable {K : PySem.W.Frag} {C CT CP CN CW CB : Addr} {σ : L2.St} {G G' Kn S H H' H1 H2 : Hp} {D : Ends} {ta tb te ti tl td tk tx tv to : TE} {P : VP}
theorem RowsN.low {G0 G1 : Hp} {p : List (List Int) → Prop} {v : V} (e : Ex G0 G1) (h : RowsN K G1 p v G) : RowsN K G0 p v G := by
  obtain ⟨rows, q, vs, G2, h1, h2, h3, h4, h5, h6, h7, h8⟩ := h
  exact ⟨rows, q, vs, G2, h1, h2, none_back e h3, h4, e.trans h5, h6, h7, h8⟩
theorem NwI.low {G0 G1 : Hp} {p : List Int → Prop} {v : V} (e : Ex G0 G1) (h : NwI K G1 p v G) : NwI K G0 p v G := by
  obtain ⟨q, ns, ev, h0, h1, h2⟩ := h
  exact ⟨q, ns, ev, none_back e h0, h1, h2⟩
/-- [.. for j in range(n)], ints -/
theorem ef_intsR {ta : TA} {j : Nat} {n : Int} {p : Int → Prop} (h : EA ta σ G fun us _ => us = [.int n]) (hn : 0 ≤ n ∧ n ≤ 1000) (hw : ∀ x, wipe ((wipe σ [j]).set j (some x)) [j] = wipe σ [j]) (he : ∀ (i : Nat) G', Ex G G' → (i : Int) < n → EF te ((wipe σ [j]).set j (some (.int (i : Int)))) G' (IV p)) :
    EF (tLc (iRng1 ta) (gName j) tYes te [j]) σ G (NwI K G fun ns => (ns.length : Int) = n ∧ ∀ z ∈ ns, p z) := by
  refine ef_lcR1 (n := n) (fun i xs G' => ∃ ns : List Int, xs = ns.map V.int ∧ ns.length = i ∧ ∀ z ∈ ns, p z) h ⟨hn.1, by omega⟩ hw (fun G' _ => ⟨[], rfl, rfl, fun z m => nomatch m⟩) (fun i xs G' e1 hi ⟨ns, ex, hl, hp⟩ => ec_all ((he i G' e1 hi).imp fun v G2 _ ⟨z, ez, hz⟩ => ⟨ns ++ [z], by rw [ex, ez, List.map_append]; rfl, by rw [List.length_append, hl]; rfl, fun y m => ?_⟩)) (fun p xs G' h1 h2 _ _ ⟨ns, ex, hl, hp⟩ => ⟨p, ns, rfl, h1, by rw [upd_same, ex], by omega, hp⟩)
  rcases List.mem_append.mp m with m | m
  · exact hp y m
  · have e : y = z := by simpa using m
    rw [e]
    exact hz
end
end Lw
set_option Elab.async false
set_option linter.all false
set_option maxRecDepth 100000
set_option maxHeartbeats 4000000
/-! orders by time, one train after another -/
namespace Lw
open PySem PySem.Spec L2
open Evl (Ex)
def userB (parks : List Int) (ts : List Trn) (b : Int) (i : Nat) : Bool := decide (b ∉ parks) && decide (stepAt ts i b ≥ 0)
def usersM (parks : List Int) (ts : List Trn) (b : Int) (m : Nat) : List Nat := (List.range m).filter (userB parks ts b)
theorem usersM_all {parks : List Int} {ts : List Trn} {b : Int} : usersM parks ts b ts.length = usersOf parks ts b := by
  unfold usersM usersOf
  by_cases h : b ∈ parks
  · rw [if_pos h, List.filter_eq_nil_iff]
    intro i _
    unfold userB
    simp [h]
  · rw [if_neg h]
    congr 1
    funext i
    unfold userB
    simp [h]
def timedM (parks : List Int) (ts : List Trn) (ms : List (List Int)) (b : Int) (m : Nat) : List (Int × Int) := (usersM parks ts b m).map fun i : Nat => (momOf ts ms b i, (i : Int))
theorem timedM_succ {parks : List Int} {ts : List Trn} {ms : List (List Int)} {b : Int} {m : Nat} : timedM parks ts ms b (m + 1) = timedM parks ts ms b m ++ if userB parks ts b m = true then [(momOf ts ms b m, (m : Int))] else [] := by
  unfold timedM usersM
  rw [List.range_succ, List.filter_append, List.map_append]
  congr 1
  by_cases h : userB parks ts b m = true
  · simp [h]
  · simp [h]
/-- the row of a block when m trains have been asked -/
def RowL (parks : List Int) (ts : List Trn) (ms : List (List Int)) (b : Int) (m : Nat) (L : List (Int × Int)) : Prop := L.Pairwise lexLe ∧ L.Perm (timedM parks ts ms b m)
theorem RowL.mem {parks : List Int} {ts : List Trn} {ms : List (List Int)} {b : Int} {m : Nat} {L : List (Int × Int)} (h : RowL parks ts ms b m L) {p : Int × Int} (hp : p ∈ L) : ∃ j : Nat, p = (momOf ts ms b j, (j : Int)) ∧ j < m ∧ userB parks ts b j = true := by
  have := h.2.mem_iff.mp hp
  unfold timedM usersM at this
  obtain ⟨j, hj, rfl⟩ := List.mem_map.mp this
  obtain ⟨h1, h2⟩ := List.mem_filter.mp hj
  exact ⟨j, rfl, List.mem_range.mp h1, h2⟩
theorem RowL.len {parks : List Int} {ts : List Trn} {ms : List (List Int)} {b : Int} {m : Nat} {L : List (Int × Int)} (h : RowL parks ts ms b m L) : L.length ≤ m := by
  rw [h.2.length_eq]
  unfold timedM usersM
  rw [List.length_map]
  have := List.length_filter_le (userB parks ts b) (List.range m)
  rwa [List.length_range] at this
theorem RowL.no {parks : List Int} {ts : List Trn} {ms : List (List Int)} {b : Int} {m : Nat} {L : List (Int × Int)} (h : RowL parks ts ms b m L) (hu : userB parks ts b m = false) : RowL parks ts ms b (m + 1) L := by
  refine ⟨h.1, ?_⟩
  rw [timedM_succ, hu]
  simpa using h.2
theorem RowL.done {parks : List Int} {ts : List Trn} {ms : List (List Int)} {b : Int} {L : List (Int × Int)} (h : RowL parks ts ms b ts.length L) : L.map Prod.snd = orderOf parks ts ms b := by
  unfold orderOf
  congr 1
  refine srtP_of (h.2.trans ?_) h.1
  unfold timedM timedOf
  rw [usersM_all]
end Lw
set_option Elab.async false
set_option linter.all false
set_option maxRecDepth 100000
set_option maxHeartbeats 4000000
/-! what the law asks of a plan: helpers -/
namespace Lw
open PySem PySem.Spec L2
open Evl (Ex)
theorem okb_I {n : Nat} {r : List Int} (h : r.length ≤ 1000) : Okb (n + 1) (dI r) := ⟨by rw [List.length_map]; exact h, fun d m => by
  obtain ⟨z, _, rfl⟩ := List.mem_map.mp m
  exact okb_int⟩
section
variable {K : PySem.W.Frag} {C CT CP CN CW CB CL : Addr} {σ : L2.St} {G G' Kn S H H' H1 H2 : Hp} {D : Ends} {ta tb te ti tl td tk tx tv to : TE} {P : VP} {p x : Addr} {d : Bool → Addr} {pl : Pl}
/-- trains at addresses -/
def TrsIn (K : PySem.W.Frag) (CT : Addr) (G : Hp) (ps : List Addr) (ts : List Trn) : Prop := ps.length = ts.length ∧ ∀ (i : Nat) (p : Addr) (t : Trn), ps[i]? = some p → ts[i]? = some t → TrAtT K CT G p t.way t.len
theorem TrsIn.ex {ps : List Addr} {ts : List Trn} (h : TrsIn K CT G ps ts) (e : Ex G G') : TrsIn K CT G' ps ts := ⟨h.1, fun i p t hp ht => (h.2 i p t hp ht).ex e⟩
theorem TrsIn.at_ {ps : List Addr} {ts : List Trn} {a : Addr} (h : TrsIn K CT G ps ts) (ha : SqL K G a (ps.map V.ref)) : TrsAt K CT G a ts := ⟨ps, ha, h.1, h.2⟩
theorem PlanN.low {G0 G1 : Hp} (e : Ex G0 G1) (h : PlanN K C CT CP G1 G x p d pl) : PlanN K C CT CP G0 G x p d pl := by
  obtain ⟨h1, ⟨dx, fs, o, a1, a2, a3, a4, a5, a6⟩, h3⟩ := h
  exact ⟨h1, ⟨dx, fs, o, a1, none_back e a2, a3, a4, a5, LNI.low e a6⟩, h3⟩
theorem PlanN.drop {G0 Gc : Hp} {B : List Addr} (h : PlanN K C CT CP G0 G x p d pl) (hB : ∀ a ∈ B, G0 a ≠ none) (hL : LayAt K C Gc p pl.lens.length pl.parks pl.js) (ec : Ex Gc (dropS B G)) : PlanO K C CP (dropS B G) x pl.lens.length pl.parks pl.js pl.ord := by
  obtain ⟨h1, ⟨dx, fs, o, a1, a2, a3, a4, a5, a6⟩, h3⟩ := h
  exact ⟨dx, fs, p, o, by rw [dropS_out fun m => hB x m a2]; exact a1, a3, a4, a5, hL.ex ec, LNI.dp (LNI.drop a6 hB)⟩
end
end Lw
set_option Elab.async false
set_option linter.all false
set_option maxRecDepth 100000
set_option maxHeartbeats 4000000
/-! turns of a plan -/
namespace Lw
open PySem PySem.Spec L2
open Evl (Ex)
def headI (way : List Int) : Int := way.getD 0 0
def lastI (way : List Int) : Int := way.getD (way.length - 1) 0
def mayTn (parks : List Int) (ts : List Trn) (q : Int × Int) : Prop := ∃ (i j : Nat) (t u : Trn), q = ((i : Int), (j : Int)) ∧ ts[i]? = some t ∧ ts[j]? = some u ∧ i ≠ j ∧ t.way ≠ [] ∧ u.way ≠ [] ∧ lastI t.way = headI u.way ∧ lastI t.way ∈ parks
def TrnOk (parks : List Int) (ts : List Trn) (trn : List (Int × Int)) : Prop := trn.length ≤ 200 ∧ (∀ q ∈ trn, mayTn parks ts q) ∧ ∀ (i j : Nat) (q r : Int × Int), j < i → trn[i]? = some q → trn[j]? = some r → q.1 ≠ r.1 ∧ q.2 ≠ r.2
theorem TrnOk.pl {parks : List Int} {ts : List Trn} {trn : List (Int × Int)} (h : TrnOk parks ts trn) : ∀ q ∈ srtP trn, ∃ i j : Nat, q = ((i : Int), (j : Int)) ∧ i < ts.length ∧ j < ts.length := fun q hq => by
  obtain ⟨i, j, t, u, e, h1, h2, _⟩ := h.2.1 q ((srtP_perm trn).mem_iff.mp hq)
  exact ⟨i, j, e, (List.getElem?_eq_some_iff.mp h1).1, (List.getElem?_eq_some_iff.mp h2).1⟩
section
variable {K : PySem.W.Frag} {C CT CP CN CW CB CL : Addr} {σ : L2.St} {G G0 G' Kn S H H' H1 H2 : Hp} {D : Ends} {ta tb te ti tl td tk tx tv to : TE} {P : VP} {p x : Addr} {d : Bool → Addr} {pl : Pl}
theorem EF.bvx {b : Bool} (h : EF te σ G (BV (· = b))) : EF te σ G (XV (.bl b)) := h.imp fun v _ _ ⟨z, ez, hz⟩ => by rw [ez, hz]; rfl
end
end Lw
set_option Elab.async false
set_option linter.all false
set_option maxRecDepth 100000
set_option maxHeartbeats 4000000
/-! visits of a site -/
namespace Lw
open PySem PySem.Spec L2
open Evl (Ex)
def stepsIn (way site : List Int) : List Nat := (List.range way.length).filter fun k => decide (way.getD k 0 ∈ site)
def vis1 (lens : List Int) (t : Trn) (i : Nat) (site : List Int) : Option T3i := match stepsIn t.way site with
  | [] => none
  | s :: r => some ((i : Int), 2 * (s : Int), (relsOf lens t.len t.way).getD ((s :: r).getLast (by simp)) 0)
def visAt (lens : List Int) (ts : List Trn) (site : List Int) (i : Nat) : Option T3i := match ts[i]? with
  | some t => vis1 lens t i site
  | none => none
def visM (lens : List Int) (ts : List Trn) (site : List Int) (m : Nat) : List T3i := (List.range m).filterMap (visAt lens ts site)
end Lw
set_option Elab.async false
set_option linter.all false
set_option maxRecDepth 100000
set_option maxHeartbeats 4000000
/-! orders drawn, and turns drawn -/
namespace Lw
open PySem PySem.Spec L2
open Evl (Ex)
theorem usersM_succ {parks : List Int} {ts : List Trn} {b : Int} {m : Nat} : usersM parks ts b (m + 1) = usersM parks ts b m ++ if userB parks ts b m = true then [m] else [] := by
  unfold usersM
  rw [List.range_succ, List.filter_append]
  by_cases h : userB parks ts b m = true
  · simp [h]
  · simp [h]
def RowP (parks : List Int) (ts : List Trn) (b : Int) (m : Nat) (L : List Int) : Prop := L.Perm (dNi (usersM parks ts b m))
theorem RowP.len {parks : List Int} {ts : List Trn} {b : Int} {m : Nat} {L : List Int} (h : RowP parks ts b m L) : L.length ≤ m := by
  have := h.length_eq
  unfold dNi usersM at this
  rw [List.length_map] at this
  have l2 := List.length_filter_le (userB parks ts b) (List.range m)
  rw [List.length_range] at l2
  omega
theorem RowP.no {parks : List Int} {ts : List Trn} {b : Int} {m : Nat} {L : List Int} (h : RowP parks ts b m L) (hu : userB parks ts b m = false) : RowP parks ts b (m + 1) L := by
  unfold RowP at h ⊢
  rw [usersM_succ, hu]
  simpa using h
theorem TrnOk.nil {parks : List Int} {ts : List Trn} : TrnOk parks ts [] := ⟨by simp, (fun q m => nomatch m), fun i j q r _ h _ => by simp at h⟩
theorem TrnOk.snoc {parks : List Int} {ts : List Trn} {l : List (Int × Int)} {q : Int × Int} (h : TrnOk parks ts l) (hl : l.length < 200) (hq : mayTn parks ts q) (hn : ∀ r ∈ l, q.1 ≠ r.1 ∧ q.2 ≠ r.2) : TrnOk parks ts (l ++ [q]) := by
  refine ⟨by simp; omega, fun r hr => ?_, fun i j a b hji ha hb => ?_⟩
  · rcases List.mem_append.mp hr with hr | hr
    · exact h.2.1 r hr
    · rw [List.mem_singleton.mp hr]; exact hq
  · have jl : j < l.length := by
      have := (List.getElem?_eq_some_iff.mp ha).1
      simp at this
      omega
    rw [List.getElem?_append_left jl] at hb
    by_cases hi : i < l.length
    · rw [List.getElem?_append_left hi] at ha
      exact h.2.2 i j a b hji ha hb
    · rw [List.getElem?_append_right (by omega)] at ha
      have hi0 : i - l.length = 0 := by
        have := (List.getElem?_eq_some_iff.mp ha).1
        simp at this
        omega
      rw [hi0] at ha
      simp at ha
      subst ha
      exact hn b (List.mem_of_getElem? hb)
end Lw
set_option Elab.async false
set_option linter.all false
set_option maxRecDepth 100000
set_option maxHeartbeats 4000000
/-! a plan of positional arguments and turns; what is wanted of a site -/
namespace Lw
open PySem PySem.Spec L2
open Evl (Ex)
def wantV (pl : Pl) (site : List Int) : PyData := match badB (pl.lens.length : Int) site with
  | some z => .tuple [.str "NoBlock", .int z, .bool true, .bool true, .bool false]
  | none => .tuple [.str "told", .list ((visM pl.lens pl.ts site pl.ts.length).map enc3)]
end Lw
set_option Elab.async false
set_option linter.all false
set_option maxRecDepth 100000
set_option maxHeartbeats 4000000
/-! what is told of a site, and sites drawn -/
namespace Lw
open PySem PySem.Spec L2
open Evl (Ex)
section
variable {K : PySem.W.Frag} {C CT CP CN CW CB CL : Addr} {σ : L2.St} {G G0 G' Kn S H H' H1 H2 : Hp} {D : Ends} {ta tb tc te ti tl td tk tx tv to : TE} {P : VP} {p x : Addr} {d : Bool → Addr} {pl : Pl}
def TolW (K : PySem.W.Frag) (G0 : Hp) (pl : Pl) (site : List Int) : VP := fun v G => Dp K G v (wantV pl site) ∧ (badB (pl.lens.length : Int) site = none → ∃ a q : Addr, v = .ref a ∧ G0 a = none ∧ G a = some (.tup [.str "told", .ref q]) ∧ G0 q = none ∧ ∃ xs, G q = some (.lst xs) ∧ xs.length ≤ 40)
theorem TolW.low {G0 G1 : Hp} {site : List Int} {v : V} (e : Ex G0 G1) (h : TolW K G1 pl site v G) : TolW K G0 pl site v G := ⟨h.1, fun hb => by
  obtain ⟨a, q, h1, h2, h3, h4, h5⟩ := h.2 hb
  exact ⟨a, q, h1, none_back e h2, h3, none_back e h4, h5⟩⟩
end
end Lw
set_option Elab.async false
set_option linter.all false
set_option maxRecDepth 100000
set_option maxHeartbeats 4000000
/-! ways that follow joints -/
namespace Lw
open PySem PySem.Spec L2
open Evl (Ex)
def chainE (js : List (Int × Int)) (row : List Int) : Prop := ∀ (j : Nat) (a b : Int), row[j]? = some a → row[j + 1]? = some b → (a, b) ∈ js
theorem chainE.one {js : List (Int × Int)} {z : Int} : chainE js [z] := fun j a b _ h => by simp at h
theorem chainE.snoc {js : List (Int × Int)} {row : List Int} {l m : Int} (h : chainE js row) (hl : row[row.length - 1]? = some l) (hm : (l, m) ∈ js) : chainE js (row ++ [m]) := fun j a b ha hb => by
  have hlt : row.length - 1 < row.length := (List.getElem?_eq_some_iff.mp hl).1
  by_cases hj : j + 1 < row.length
  · rw [List.getElem?_append_left (by omega)] at ha
    rw [List.getElem?_append_left hj] at hb
    exact h j a b ha hb
  · have hj2 : j + 1 = row.length := by
      have := (List.getElem?_eq_some_iff.mp hb).1
      rw [List.length_append, List.length_singleton] at this
      omega
    rw [List.getElem?_append_left (by omega)] at ha
    rw [List.getElem?_append_right (by omega), hj2, Nat.sub_self] at hb
    cases hb
    rw [show j = row.length - 1 by omega, hl] at ha
    cases ha
    exact hm
end Lw
set_option Elab.async false
set_option linter.all false
set_option maxRecDepth 100000
set_option maxHeartbeats 4000000
/-! trains drawn; a plan that can be made -/
namespace Lw
open PySem PySem.Spec L2
open Evl (Ex)
theorem plok_draw {lens parks : List Int} {js trn : List (Int × Int)} {ts : List Trn} {ord : List (List Int)} (hn : lens.length ≤ 7) (h12 : ts.length ≤ 12) (hw : ∀ (i : Nat) (t : Trn), ts[i]? = some t → t.way.length ≤ 8 ∧ isWayB (lens.length : Int) js t.way = true) (ho : OrdOk lens.length parks ts ord) (ht : TrnOk parks ts trn) : PlOk ⟨lens, parks, js, ts, ord, srtP trn⟩ := by
  refine ⟨⟨by show ts.length ≤ 40; omega, fun i t h => by have := (hw i t h).1; omega⟩, (by show lens.length ≤ 200; omega), fun i t h => (hw i t h).2, ho, ht.pl, ?_⟩
  have wlb : ∀ i, wl ts i ≤ 8 := fun i => by
    unfold wl
    cases hi : ts[i]? with
    | none => simp
    | some t => exact (hw i t hi).1
  have b1 : ∀ m, (Pl.pr1 ⟨lens, parks, js, ts, ord, srtP trn⟩ m).length ≤ m * 16 := fun m => by
    induction m with
    | zero => simp [Pl.pr1]
    | succ m ih =>
      rw [pr1_succ, List.length_append, List.length_map, List.length_range]
      have : wl ts m ≤ 8 := wlb m
      show _ + 2 * wl ts m ≤ _
      omega
  have b2 : ∀ m, (Pl.pr2 ⟨lens, parks, js, ts, ord, srtP trn⟩ m).length ≤ m * 12 := fun m => by
    induction m with
    | zero => simp [Pl.pr2]
    | succ m ih =>
      rw [pr2_succ, List.length_append, List.length_map, List.length_zip]
      have : (Pl.row ⟨lens, parks, js, ts, ord, srtP trn⟩ m).length ≤ 12 := by
        unfold Pl.row
        rw [List.getD_eq_getElem?_getD]
        cases hr : ord[m]? with
        | none => simp
        | some r =>
          have h1 := ho.2 m r hr
          have h2 : (srtI r).length = r.length := (srtI_perm r).length_eq
          rw [h1] at h2
          unfold dNi usersOf at h2
          rw [List.length_map] at h2
          show r.length ≤ 12
          rw [← h2]
          split
          · simp
          · have := List.length_filter_le (fun i => decide (stepAt ts i (m : Int) ≥ 0)) (List.range ts.length)
            rw [List.length_range] at this
            exact Nat.le_trans (List.length_filter_le _ _) (by rw [List.length_range]; exact h12)
      omega
  have h1 := b1 ts.length
  have h2 := b2 lens.length
  have h3 : (Pl.pr3 ⟨lens, parks, js, ts, ord, srtP trn⟩).length ≤ 200 := by
    unfold Pl.pr3
    rw [List.length_map]
    show (srtP trn).length ≤ 200
    rw [(srtP_perm trn).length_eq]
    exact ht.1
  unfold Pl.prs
  rw [List.length_append, List.length_append]
  show (Pl.pr1 _ ts.length).length + (Pl.pr2 _ lens.length).length + _ < 1000
  omega
section
variable {K : PySem.W.Frag} {C CT CP CN CW CB CL : Addr} {σ : L2.St} {G G0 G' Kn S H H' H1 H2 : Hp} {D : Ends} {ta tb tc te ti tl td tk tx tv to : TE} {P : VP} {p x : Addr} {d : Bool → Addr} {pl : Pl}
theorem ea_dn : EA tNil σ G fun vs G' => DpAll K G' vs [] := fun H e _ q => q [] G H (.refl e) .nil
theorem ea_dc {d : PyData} {ds : List PyData} {tl : TA} (ha : EF ta σ G (DV K d)) (hr : EA tl σ G fun vs G' => DpAll K G' vs ds) : EA (tCons ta tl) σ G fun vs G' => DpAll K G' vs (d :: ds) := ea_cons (R := fun vs G' => DpAll K G' vs ds) mo_DV (fun vs G G' e h => dpax h e) ha hr fun x xs G' _ hx h => .cons hx h
end
end Lw
set_option Elab.async false
set_option linter.all false
set_option maxRecDepth 100000
set_option maxHeartbeats 4000000
/-! what comes before an event -/
namespace Lw
open PySem PySem.Spec L2
open Evl (Ex)
def sideE (l : List (Ev × Ev)) (c : Bool) (k : Ev) : List Ev := if c = true then (l.filter fun q => decide (q.1 = k)).map (·.2) else (l.filter fun q => decide (q.2 = k)).map (·.1)
def Pl.side (pl : Pl) (c : Bool) (e : Ev) : List Ev := sideE (srtE pl.prs) c e
theorem mem_befs {pl : Pl} {e x : Ev} : x ∈ pl.side false e ↔ (x, e) ∈ pl.prs := by
  unfold Pl.side sideE
  simp only [Bool.false_eq_true, if_false]
  rw [List.mem_map]
  constructor
  · rintro ⟨q, hq, rfl⟩
    obtain ⟨h1, h2⟩ := List.mem_filter.mp hq
    have := of_decide_eq_true h2
    rw [← this]
    exact (srtE_perm pl.prs).mem_iff.mp h1
  · intro h
    exact ⟨(x, e), List.mem_filter.mpr ⟨(srtE_perm pl.prs).mem_iff.mpr h, by simp⟩, rfl⟩
end Lw
set_option Elab.async false
set_option linter.all false
set_option maxRecDepth 100000
set_option maxHeartbeats 4000000
/-! what comes before an event, read off the model -/
namespace Lw
open PySem PySem.Spec L2
open Evl (Ex)
theorem zip_mem {row : List Int} {f s : Int} : (f, s) ∈ row.zip (row.drop 1) ↔ ∃ a : Nat, row[a]? = some f ∧ row[a + 1]? = some s := by
  rw [List.mem_iff_getElem?]
  constructor
  · rintro ⟨a, h⟩
    rw [List.getElem?_zip_eq_some] at h
    obtain ⟨h1, h2⟩ := h
    rw [List.getElem?_drop] at h2
    exact ⟨a, h1, by rw [Nat.add_comm a 1]; exact h2⟩
  · rintro ⟨a, h1, h2⟩
    exact ⟨a, by rw [List.getElem?_zip_eq_some]; exact ⟨h1, by rw [List.getElem?_drop, Nat.add_comm 1 a]; exact h2⟩⟩
theorem OrdOk.perm {n : Nat} {parks : List Int} {ts : List Trn} {ord : List (List Int)} (h : OrdOk n parks ts ord) {b : Nat} {row : List Int} (hb : ord[b]? = some row) : row.Perm (dNi (usersOf parks ts (b : Int))) := by
  have := (srtI_perm row).symm
  rwa [h.2 b row hb] at this
theorem OrdOk.nodup {n : Nat} {parks : List Int} {ts : List Trn} {ord : List (List Int)} (h : OrdOk n parks ts ord) {b : Nat} {row : List Int} (hb : ord[b]? = some row) : row.Nodup := by
  refine (h.perm hb).nodup_iff.mpr ?_
  unfold dNi usersOf
  split
  · exact List.nodup_nil
  · refine List.Pairwise.map _ (fun a b (h : a < b) => ?_) (List.Pairwise.filter _ List.pairwise_lt_range)
    omega
theorem OrdOk.mem {n : Nat} {parks : List Int} {ts : List Trn} {ord : List (List Int)} (h : OrdOk n parks ts ord) {b : Nat} {row : List Int} (hb : ord[b]? = some row) {i : Nat} : (i : Int) ∈ row ↔ (b : Int) ∉ parks ∧ i < ts.length ∧ 0 ≤ stepAt ts i (b : Int) := by
  rw [(h.perm hb).mem_iff]
  unfold dNi usersOf
  split
  · rename_i hp
    simp [hp]
  · rename_i hp
    rw [List.mem_map]
    constructor
    · rintro ⟨j, hj, e⟩
      have : j = i := by omega
      subst this
      obtain ⟨h1, h2⟩ := List.mem_filter.mp hj
      exact ⟨hp, List.mem_range.mp h1, of_decide_eq_true h2⟩
    · rintro ⟨_, h1, h2⟩
      exact ⟨i, List.mem_filter.mpr ⟨List.mem_range.mpr h1, decide_eq_true h2⟩, rfl⟩
theorem stepOf_at {way : List Int} (hn : way.Nodup) {k : Nat} {b : Int} (h : way[k]? = some b) : stepOf way b = (k : Int) := by
  obtain ⟨hk, e⟩ := List.getElem?_eq_some_iff.mp h
  unfold stepOf
  rw [if_pos (List.mem_of_getElem? h), ← e, hn.idxOf_getElem k hk]
theorem stepOf_get {way : List Int} {b : Int} (h : 0 ≤ stepOf way b) : way[(stepOf way b).toNat]? = some b := by
  have hm := stepOf_ge.mp h
  unfold stepOf
  rw [if_pos hm, Int.toNat_natCast]
  have hl := List.idxOf_lt_length_of_mem hm
  rw [List.getElem?_eq_getElem hl, List.getElem_idxOf hl]
structure PlD (pl : Pl) (trn : List (Int × Int)) : Prop where
  ok : PlOk pl
  trn : pl.trn = srtP trn
  nd : ∀ (i : Nat) (t : Trn), pl.ts[i]? = some t → t.way.Nodup
  inn : ∀ (i : Nat) (t : Trn), pl.ts[i]? = some t → ∀ b ∈ t.way, 0 ≤ b ∧ b < (pl.lens.length : Int)
/-- the one before in an order -/
def BefB (pl : Pl) (i : Nat) (n : Int) (x : Ev) : Prop := ∃ (k b a : Nat) (f : Int) (t : Trn), n = 2 * (k : Int) ∧ pl.ts[i]? = some t ∧ t.way[k]? = some (b : Int) ∧ (pl.row b)[a]? = some f ∧ (pl.row b)[a + 1]? = some (i : Int) ∧ x = (f, (pl.bnd f.toNat (b : Int)).2)
theorem bef_iff {pl : Pl} {trn : List (Int × Int)} (h : PlD pl trn) {i : Nat} {t : Trn} (ht : pl.ts[i]? = some t) {n : Int} (h0 : 0 ≤ n) (h1 : n ≤ 2 * (t.way.length : Int)) {x : Ev} :
    x ∈ pl.side false ((i : Int), n) ↔ (0 < n ∧ x = ((i : Int), n - 1)) ∨ (n = 0 ∧ ∃ q ∈ trn, q.2 = (i : Int) ∧ x = (q.1, 2 * (wl pl.ts q.1.toNat : Int))) ∨ BefB pl i n x := by
  have hi := (List.getElem?_eq_some_iff.mp ht).1
  rw [mem_befs]
  unfold Pl.prs
  rw [List.mem_append, List.mem_append]
  have p1 : (x, ((i : Int), n)) ∈ pl.pr1 pl.ts.length ↔ 0 < n ∧ x = ((i : Int), n - 1) := by
    unfold Pl.pr1
    rw [List.mem_flatMap]
    constructor
    · rintro ⟨j, hj, hm⟩
      obtain ⟨k, hk, e⟩ := List.mem_map.mp hm
      unfold prI at e
      simp only [Prod.mk.injEq] at e
      obtain ⟨e1, e2, e3⟩ := e
      exact ⟨by omega, by rw [← e1, e2]; congr 1; omega⟩
    · rintro ⟨hn, rfl⟩
      refine ⟨i, List.mem_range.mpr hi, List.mem_map.mpr ⟨n.toNat - 1, List.mem_range.mpr ?_, ?_⟩⟩
      · rw [wl_eq ht]; omega
      · unfold prI
        simp only [Prod.mk.injEq, true_and]
        omega
  have p3 : (x, ((i : Int), n)) ∈ pl.pr3 ↔ n = 0 ∧ ∃ q ∈ trn, q.2 = (i : Int) ∧ x = (q.1, 2 * (wl pl.ts q.1.toNat : Int)) := by
    unfold Pl.pr3
    rw [h.trn, List.mem_map]
    constructor
    · rintro ⟨q, hq, e⟩
      unfold prT at e
      simp only [Prod.mk.injEq] at e
      obtain ⟨e1, e2, e3⟩ := e
      exact ⟨e3.symm, q, (srtP_perm trn).mem_iff.mp hq, e2, e1.symm⟩
    · rintro ⟨rfl, q, hq, e2, rfl⟩
      exact ⟨q, (srtP_perm trn).mem_iff.mpr hq, by unfold prT; rw [e2]⟩
  have p2 : (x, ((i : Int), n)) ∈ pl.pr2 pl.lens.length ↔ BefB pl i n x := by
    unfold Pl.pr2
    rw [List.mem_flatMap]
    constructor
    · rintro ⟨b, hb, hm⟩
      obtain ⟨⟨f, s⟩, hz, e⟩ := List.mem_map.mp hm
      obtain ⟨a, ha1, ha2⟩ := zip_mem.mp hz
      unfold prB at e
      simp only [Prod.mk.injEq] at e
      obtain ⟨e1, e2, e3⟩ := e
      subst e2
      rw [Int.toNat_natCast] at e3
      have hbl := List.mem_range.mp hb
      obtain ⟨row, hr⟩ : ∃ row, pl.ord[b]? = some row := ⟨_, List.getElem?_eq_getElem (by rw [h.ok.ord.1]; exact hbl)⟩
      have er : pl.row b = row := by unfold Pl.row; rw [List.getD_eq_getElem?_getD, hr]; rfl
      have hs := (h.ok.ord.mem hr (i := i)).mp (by rw [← er]; exact List.mem_of_getElem? ha2)
      have hst : 0 ≤ stepOf t.way (b : Int) := by rw [← stepAt_eq ht]; exact hs.2.2
      refine ⟨(stepOf t.way (b : Int)).toNat, b, a, f, t, ?_, ht, stepOf_get hst, ha1, ha2, e1.symm⟩
      rw [← e3]
      unfold Pl.bnd
      rw [stepAt_eq ht]
      show 2 * stepOf t.way (b : Int) = _
      omega
    · rintro ⟨k, b, a, f, t', rfl, ht', hk, ha1, ha2, rfl⟩
      rw [ht] at ht'
      cases ht'
      have hbl := h.inn i t ht _ (List.mem_of_getElem? hk)
      refine ⟨b, List.mem_range.mpr (by omega), List.mem_map.mpr ⟨(f, (i : Int)), zip_mem.mpr ⟨a, ha1, ha2⟩, ?_⟩⟩
      unfold prB
      simp only [Prod.mk.injEq, true_and, Int.toNat_natCast]
      unfold Pl.bnd
      rw [stepAt_eq ht]
      show 2 * stepOf t.way (b : Int) = _
      rw [stepOf_at (h.nd i t ht) hk]
  rw [p1, p2, p3]
  constructor
  · rintro ((q | q) | q)
    · exact .inl q
    · exact .inr (.inr q)
    · exact .inr (.inl q)
  · rintro (q | q | q)
    · exact .inl (.inl q)
    · exact .inr q
    · exact .inl (.inr q)
end Lw
set_option Elab.async false
set_option linter.all false
set_option maxRecDepth 100000
set_option maxHeartbeats 4000000
/-! xs[i] += z -/
namespace Lw
open PySem PySem.Spec L2
open Evl (Ex)
end Lw
set_option Elab.async false
set_option linter.all false
set_option maxRecDepth 100000
set_option maxHeartbeats 4000000
/-! a plan with what comes before each event; drivings as mathematics -/
namespace Lw
open PySem PySem.Spec L2
open Evl (Ex)
theorem DTAt.ex {K : PySem.W.Frag} {G G' : Hp} {a : Addr} {l : List (Ev × List Ev)} (h : DTAt K G a l) (e : Ex G G') : DTAt K G' a l := by
  obtain ⟨kvs, h1, h2, h3, h4⟩ := h
  exact ⟨kvs, e _ _ h1, h2, dpax h3 e, fun i v es a b => by
    obtain ⟨q, xs, c1, c2, c3⟩ := h4 i v es a b
    exact ⟨q, xs, c1, e _ _ c2, c3.ex e⟩⟩
/-- a NEW list of pairs that stand -/
def NwE (G0 : Hp) (es : List Ev) : VP := fun v G => ∃ (a : Addr) (xs : List V), v = .ref a ∧ G0 a = none ∧ G a = some (.lst xs) ∧ EvL G xs es
theorem NwE.low {G G0 G1 : Hp} {es : List Ev} {v : V} (e : Ex G0 G1) (h : NwE G1 es v G) : NwE G0 es v G := by
  obtain ⟨a, xs, ev, h0, h1, h2⟩ := h
  exact ⟨a, xs, ev, none_back e h0, h1, h2⟩
theorem NwE.nw {K : PySem.W.Frag} {G G0 : Hp} {es : List Ev} {v : V} (h : NwE G0 es v G) : NwD K G0 (es.map dP) v G := by
  obtain ⟨a, xs, ev, h0, h1, h2⟩ := h
  exact ⟨a, xs, ev, h0, h1, h2.dp⟩
def dnAt (done : List Int) (i : Nat) : Int := done.getD i 0
def mayB (pl : Pl) (done : List Int) (i : Nat) : Bool := if dnAt done i > 2 * (wl pl.ts i : Int) then false else (pl.side false ((i : Int), dnAt done i)).all fun x => decide (dnAt done x.1.toNat > x.2)
def walkD (pl : Pl) : List Int → List Int → Nat → List Int × Option Nat
  | [], done, _ => (done, none)
  | z :: r, done, at' => if z < 0 ∨ z ≥ (pl.ts.length : Int) ∨ mayB pl done z.toNat = false then (done, some at') else walkD pl r (done.set z.toNat (dnAt done z.toNat + 1)) (at' + 1)
def DnOk (pl : Pl) (done : List Int) : Prop := done.length = pl.ts.length ∧ ∀ (i : Nat) (z : Int), done[i]? = some z → 0 ≤ z ∧ z ≤ 2 * (wl pl.ts i : Int) + 1
theorem dn_get {done : List Int} {i : Nat} (h : i < done.length) : done[i]? = some (dnAt done i) := by
  unfold dnAt
  rw [List.getD_eq_getElem?_getD, List.getElem?_eq_getElem h]
  rfl
theorem DnOk.zero {pl : Pl} : DnOk pl (List.replicate pl.ts.length 0) := ⟨by simp, fun i z h => by
  rw [List.getElem?_replicate] at h
  split at h
  · cases h; omega
  · cases h⟩
theorem DnOk.step {pl : Pl} {done : List Int} {i : Nat} (h : DnOk pl done) (hi : i < pl.ts.length) (hm : mayB pl done i = true) : DnOk pl (done.set i (dnAt done i + 1)) := ⟨by rw [List.length_set]; exact h.1, fun j z hz => by
  by_cases e : i = j
  · subst e
    have hl : i < done.length := by rw [h.1]; exact hi
    rw [List.getElem?_set_self hl] at hz
    cases hz
    have := h.2 i _ (dn_get hl)
    unfold mayB at hm
    split at hm
    · cases hm
    · omega
  · rw [List.getElem?_set_ne e] at hz
    exact h.2 j z hz⟩
def driveR (pl : Pl) (drv : List Int) : List Int × Option Nat := walkD pl drv (List.replicate pl.ts.length 0) 0
section
variable {K : PySem.W.Frag} {C CT CP CN CW CB CL : Addr} {σ : L2.St} {G G0 G' Kn S H H' H1 H2 : Hp} {D : Ends} {ta tb tc te ti tl td tk tx tv to : TE} {P : VP} {p x : Addr} {d : Bool → Addr} {pl : Pl}
/-- a plan, its two dicts told -/
def PlanX (K : PySem.W.Frag) (C CT CP : Addr) (G : Hp) (x : Addr) (d : Bool → Addr) (pl : Pl) : Prop := PlanC K C CT CP G x d pl ∧ ∀ c, DTAt K G (d c) (pl.evs.map fun e => (e, pl.side c e))
theorem PlanX.ex (h : PlanX K C CT CP G x d pl) (e : Ex G G') : PlanX K C CT CP G' x d pl := ⟨h.1.ex e, fun c => (h.2 c).ex e⟩
end
end Lw
set_option Elab.async false
set_option linter.all false
set_option maxRecDepth 100000
set_option maxHeartbeats 4000000
/-! a comprehension over pairs just told -/
namespace Lw
open PySem PySem.Spec L2
open Evl (Ex)
end Lw
set_option Elab.async false
set_option linter.all false
set_option maxRecDepth 100000
set_option maxHeartbeats 4000000
/-! what the model says of a driving -/
namespace Lw
open PySem PySem.Spec L2
open Evl (Ex)
end Lw
set_option Elab.async false
set_option linter.all false
set_option maxRecDepth 100000
set_option maxHeartbeats 4000000
/-! a driving walked by the model; a plan made, its dicts told -/
namespace Lw
open PySem PySem.Spec L2
open Evl (Ex)
end Lw
set_option Elab.async false
set_option linter.all false
set_option maxRecDepth 100000
set_option maxHeartbeats 4000000
/-! zeros; an argument that is changed -/
namespace Lw
open PySem PySem.Spec L2
open Evl (Ex)
end Lw
set_option Elab.async false
set_option linter.all false
set_option maxRecDepth 100000
set_option maxHeartbeats 4000000
/-! who is present -/
namespace Lw
open PySem PySem.Spec L2
open Evl (Ex)
def inP (done : List Int) (t : T3i) : Bool := decide (t.2.1 < dnAt done t.1.toNat) && decide (dnAt done t.1.toNat ≤ t.2.2)
def presM (pl : Pl) (site done : List Int) (m : Nat) : List Int := ((visM pl.lens pl.ts site m).filter (inP done)).map (·.1)
def wantP (pl : Pl) (site drv : List Int) : PyData := match badB (pl.lens.length : Int) site with
  | some z => .tuple [.str "NoBlock", .int z, .bool true, .bool true, .bool false]
  | none => match (driveR pl drv).2 with
    | some m => .tuple [.str "BadDriving", .int (m : Int), .bool true, .bool true, .bool false]
    | none => .tuple [.str "told", dI (presM pl site (driveR pl drv).1 pl.ts.length)]
section
variable {K : PySem.W.Frag} {C CT CP CN CW CB CL : Addr} {σ : L2.St} {G G0 G' Kn S H H' H1 H2 : Hp} {D : Ends} {ta tb tc te ti tl td tk tx tv to : TE} {t : TT} {P : VP} {p x : Addr} {d : Bool → Addr} {pl : Pl}
theorem eb_chain {a b c : Int} {f g : Int → Int → Bool} (ha : EF ta σ G (XV (.int a))) (hb : EF tb σ G (XV (.int b))) (hc : EF tc σ G (XV (.int c))) : EF (tChain (rI0 fun i j => .bl (f i j)) (rI0 fun i j => .bl (g i j)) ta tb tc) σ G (BV (· = (f a b && g b c))) := fun H e Q q => ha H e _ fun x G1 H1 g1 px => hb H1 (e.trans g1.hp) _ fun y G2 H2 g2 py => by
  cases (show x = _ from px)
  cases (show y = _ from py)
  refine ⟨a, b, rfl, rfl, f a b, rfl, ?_⟩
  have g12 := (Gr.same e g1.hp).trans g2
  cases hf : f a b with
  | true =>
    rw [if_pos rfl]
    refine hc H2 (e.trans (g1.hp.trans g2.hp)) _ fun z G3 H3 g3 pz => ?_
    cases (show z = _ from pz)
    exact ⟨b, c, rfl, rfl, q _ G3 H3 ((Gr.same e (g1.hp.trans g2.hp)).trans g3) ⟨_, rfl, by rw [hf]; rfl⟩⟩
  | false =>
    rw [if_neg (by simp)]
    exact q _ G2 H2 g12 ⟨_, rfl, by rw [hf]; rfl⟩
/-- what is told: the data, a list of its own -/
def TolQ (K : PySem.W.Frag) (G0 : Hp) (pl : Pl) (site drv : List Int) : VP := fun v G => Dp K G v (wantP pl site drv) ∧ (badB (pl.lens.length : Int) site = none → (driveR pl drv).2 = none → ∃ a q : Addr, v = .ref a ∧ G0 a = none ∧ G a = some (.tup [.str "told", .ref q]) ∧ G0 q = none ∧ ∃ xs, G q = some (.lst xs) ∧ xs.length ≤ 40)
theorem TolQ.low {G0 G1 : Hp} {site drv : List Int} {v : V} (e : Ex G0 G1) (h : TolQ K G1 pl site drv v G) : TolQ K G0 pl site drv v G := ⟨h.1, fun hb hd => by
  obtain ⟨a, q, h1, h2, h3, h4, h5⟩ := h.2 hb hd
  exact ⟨a, q, h1, none_back e h2, h3, none_back e h4, h5⟩⟩
end
end Lw
set_option Elab.async false
set_option linter.all false
set_option maxRecDepth 100000
set_option maxHeartbeats 4000000
/-! lengths -/
namespace Lw
open PySem PySem.Spec L2
end Lw
set_option Elab.async false
set_option linter.all false
set_option maxRecDepth 100000
set_option maxHeartbeats 4000000
/-! drivings spoilt, sites drawn -/
namespace Lw
open PySem PySem.Spec L2
open Evl (Ex)
end Lw
set_option Elab.async false
set_option linter.all false
set_option maxRecDepth 100000
set_option maxHeartbeats 4000000
/-! a way meets no block twice -/
namespace Lw
open PySem PySem.Spec L2
end Lw
set_option Elab.async false
set_option linter.all false
set_option maxRecDepth 100000
set_option maxHeartbeats 4000000
/-! a slice up to a drawn bound; lengths of rows -/
namespace Lw
open PySem PySem.Spec L2
open Evl (Ex)
end Lw
set_option Elab.async false
set_option linter.all false
set_option maxRecDepth 100000
set_option maxHeartbeats 4000000
/-! a driving drawn -/
namespace Lw
open PySem PySem.Spec L2
open Evl (Ex)
end Lw
set_option Elab.async false
set_option linter.all false
set_option maxRecDepth 100000
set_option maxHeartbeats 4000000
/-! what comes behind an event; a plan run out as mathematics -/
namespace Lw
open PySem PySem.Spec L2
open Evl (Ex)
def stepD (done : List Int) (i : Nat) : List Int := done.set i (dnAt done i + 1)
theorem dnAt_step {done : List Int} {i : Nat} (hi : i < done.length) (j : Nat) : dnAt (stepD done i) j = if j = i then dnAt done i + 1 else dnAt done j := by
  unfold stepD
  by_cases h : j = i
  · subst h
    rw [if_pos rfl]
    unfold dnAt
    rw [List.getD_eq_getElem?_getD, List.getElem?_set_self hi]
    rfl
  · rw [if_neg h]
    unfold dnAt
    rw [List.getD_eq_getElem?_getD, List.getElem?_set_ne (fun z => h z.symm), List.getD_eq_getElem?_getD]
def leastF (pl : Pl) (done : List Int) : Option Nat := (List.range pl.ts.length).find? fun i => mayB pl done i
theorem leastF_none {pl : Pl} {done : List Int} : leastF pl done = none ↔ ∀ i, i < pl.ts.length → mayB pl done i = false := by
  unfold leastF
  rw [List.find?_eq_none]
  constructor
  · intro h i hi
    have := h i (List.mem_range.mpr hi)
    simpa using this
  · intro h i hi
    rw [h i (List.mem_range.mp hi)]
    simp
theorem leastF_at {pl : Pl} {done : List Int} {i : Nat} (h : leastF pl done = some i) : i < pl.ts.length ∧ mayB pl done i = true := ⟨List.mem_range.mp (List.mem_of_find?_eq_some h), by have := List.find?_some h; exact this⟩
def gst (pl : Pl) (d0 : List Int) : Nat → List Int × List Int
  | 0 => (d0, [])
  | n + 1 => match leastF pl (gst pl d0 n).1 with
    | none => gst pl d0 n
    | some i => (stepD (gst pl d0 n).1 i, (gst pl d0 n).2 ++ [(i : Int)])
theorem gst_none {pl : Pl} {d0 : List Int} {n : Nat} (h : leastF pl (gst pl d0 n).1 = none) : ∀ k, gst pl d0 (n + k) = gst pl d0 n
  | 0 => rfl
  | k + 1 => by
    have ih := gst_none h k
    show (match leastF pl (gst pl d0 (n + k)).1 with
      | none => gst pl d0 (n + k)
      | some i => (stepD (gst pl d0 (n + k)).1 i, (gst pl d0 (n + k)).2 ++ [(i : Int)])) = _
    rw [ih, h]
theorem gst_succ {pl : Pl} {d0 : List Int} {n i : Nat} (h : leastF pl (gst pl d0 n).1 = some i) : gst pl d0 (n + 1) = (stepD (gst pl d0 n).1 i, (gst pl d0 n).2 ++ [(i : Int)]) := by
  show (match leastF pl (gst pl d0 n).1 with
    | none => gst pl d0 n
    | some i => (stepD (gst pl d0 n).1 i, (gst pl d0 n).2 ++ [(i : Int)])) = _
  rw [h]
theorem sum_set : ∀ {l : List Int} {i : Nat} {z : Int}, i < l.length → (l.set i z).sum = l.sum - l.getD i 0 + z
  | [], i, z, h => by simp at h
  | x :: l, 0, z, h => by simp; omega
  | x :: l, i + 1, z, h => by
    have ih := sum_set (l := l) (i := i) (z := z) (by simpa using h)
    simp only [List.set_cons_succ, List.sum_cons, List.getD_cons_succ]
    rw [ih]
    omega
theorem sum_stepD {done : List Int} {i : Nat} (hi : i < done.length) : (stepD done i).sum = done.sum + 1 := by
  unfold stepD
  rw [sum_set hi]
  unfold dnAt
  omega
theorem sum_le : ∀ {l m : List Int}, l.length = m.length → (∀ (i : Nat) (x y : Int), l[i]? = some x → m[i]? = some y → x ≤ y) → l.sum ≤ m.sum
  | [], [], _, _ => by simp
  | x :: l, y :: m, h, hl => by
    have := sum_le (l := l) (m := m) (by simpa using h) fun i a b ha hb => hl (i + 1) a b (by simpa using ha) (by simpa using hb)
    have h0 := hl 0 x y rfl rfl
    simp only [List.sum_cons]
    omega
  | [], _ :: _, h, _ => by simp at h
  | _ :: _, [], h, _ => by simp at h
theorem sum_pos : ∀ {l : List Int}, (∀ z ∈ l, 0 ≤ z) → 0 ≤ l.sum
  | [], _ => by simp
  | x :: l, h => by
    have := sum_pos (l := l) fun z m => h z (List.mem_cons_of_mem _ m)
    have h0 := h x List.mem_cons_self
    simp only [List.sum_cons]
    omega
theorem DnOk.sum {pl : Pl} {done : List Int} (h : DnOk pl done) : 0 ≤ done.sum ∧ done.sum ≤ totOf pl.ts := by
  refine ⟨sum_pos fun z m => ?_, ?_⟩
  · obtain ⟨i, hi⟩ := List.getElem?_of_mem m
    exact (h.2 i z hi).1
  · unfold totOf
    refine sum_le (by rw [List.length_map]; exact h.1) fun i x y hx hy => ?_
    rw [List.getElem?_map] at hy
    obtain ⟨t, ht, rfl⟩ := Option.map_eq_some_iff.mp hy
    have := (h.2 i x hx).2
    rw [wl_eq ht] at this
    exact this
/-- the run: as long as the total, or shorter -/
def runG (pl : Pl) (d0 : List Int) : List Int := (gst pl d0 (totOf pl.ts).toNat).2
section
variable {K : PySem.W.Frag} {C CT CP CN CW CB CL : Addr} {σ : L2.St} {G G0 G' Kn S H H' H1 H2 : Hp} {D : Ends} {ta tb tc te ti tl td tk tx tv to : TE} {P : VP} {p x : Addr} {d : Bool → Addr} {pl : Pl}
def zerosD (pl : Pl) : List Int := List.replicate pl.ts.length 0
end
end Lw
set_option Elab.async false
set_option linter.all false
set_option maxRecDepth 100000
set_option maxHeartbeats 4000000
/-! ways turned round, begun -/
namespace Lw
open PySem PySem.Spec L2
theorem chainE.take {js : List (Int × Int)} {row : List Int} (h : chainE js row) (k : Nat) : chainE js (row.take k) := fun j a b ha hb => by
  rw [List.getElem?_take] at ha hb
  split at hb
  · rw [if_pos (by omega)] at ha
    exact h j a b ha hb
  · cases hb
theorem chainE.drop {js : List (Int × Int)} {row : List Int} (h : chainE js row) (k : Nat) : chainE js (row.drop k) := fun j a b ha hb => by
  rw [List.getElem?_drop] at ha hb
  exact h (k + j) a b ha (by rw [show k + j + 1 = k + (j + 1) by omega]; exact hb)
end Lw
set_option Elab.async false
set_option linter.all false
set_option maxRecDepth 100000
set_option maxHeartbeats 4000000
/-! a made object's first argument made before; the model's run -/
namespace Lw
open PySem PySem.Spec L2
open Evl (Ex)
end Lw
set_option Elab.async false
set_option linter.all false
set_option maxRecDepth 100000
set_option maxHeartbeats 4000000
/-! calls with keywords, any order; what the law asks of a plan run out -/
namespace Lw
open PySem PySem.Spec L2
open Evl (Ex)
def gIx {α : Type} (n m : Nat) (idx : List Nat) (us ws : List α) : List α := if us.length = n ∧ ws.length = m then idx.filterMap fun i => (us ++ ws)[i]? else []
theorem vals_ix {vs : List V} {us : List Value} (h : Vals vs us) : ∀ idx : List Nat, Vals (idx.filterMap fun i => vs[i]?) (idx.filterMap fun i => us[i]?)
  | [] => .nil
  | i :: r => by
    rw [List.filterMap_cons, List.filterMap_cons]
    cases e : vs[i]? with
    | none => rw [Vals.none_of h e]; exact vals_ix h r
    | some x =>
      obtain ⟨u, hu, ru⟩ := h.get e
      rw [hu]
      exact .cons ru (vals_ix h r)
theorem kbinds_of {K : PySem.W.Frag} {fd : FuncData} {ps ks : List Str} {n m : Nat} {idx : List Nat} (h0 : ps.length ≠ 0) (h : ∀ us ws : List Value, us.length = n → ws.length = m → bindArgs fd ⟨us, ks.zip ws⟩ = pure (ps.zip (idx.filterMap fun i => (us ++ ws)[i]?))) : KBinds K fd ps ks (gIx n m idx) (gIx n m idx) := ⟨fun s us ws _ hl => by
  unfold gIx at hl ⊢
  split at hl
  · rename_i hc
    rw [if_pos hc]
    exact .of_eq (h us ws hc.1 hc.2)
  · exact absurd hl.symm h0, fun {vs us zs ws} r1 r2 => by
  unfold gIx
  rw [r1.length, r2.length]
  split
  · exact vals_ix (r1.append r2) idx
  · exact .nil⟩
section
variable (P : Program) (w : World) (K : PySem.W.Frag) (mg : Str → Option Value) (base : Heap)
def CalK (x : Str) (k n m : Nat) (idx : List Nat) (ps ks : List Str) (sp : Sp) : Prop := ∃ f fd, FnOk P w K mg base CX0 k f fd ps sp ∧ mg x = some (.ref f) ∧ PySem.W.keepIn K (.ref f) = true ∧ Binds K fd ps [] ∧ KBinds K fd ps ks (gIx n m idx) (gIx n m idx)
def CalKX (x : Str) (k n m : Nat) (idx : List Nat) (ps ks : List Str) (sp : Sp) : Prop := ∃ f fd, FnOk P w K mg base (L2.CX P w) k f fd ps sp ∧ mg x = some (.ref f) ∧ PySem.W.keepIn K (.ref f) = true ∧ Binds K fd ps [] ∧ KBinds K fd ps ks (gIx n m idx) (gIx n m idx)
end
end Lw
set_option Elab.async false
set_option linter.all false
set_option maxRecDepth 100000
set_option maxHeartbeats 4000000
/-! standstills: every run ends at the same place; who waits for whom -/
namespace Lw
open PySem PySem.Spec L2
open Evl (Ex)
inductive Rch (pl : Pl) (d0 : List Int) : List Int → Prop
  | refl : Rch pl d0 d0
  | step {d : List Int} {i : Nat} : Rch pl d0 d → i < pl.ts.length → mayB pl d i = true → Rch pl d0 (stepD d i)
theorem Rch.ok {pl : Pl} {d0 d : List Int} (h0 : DnOk pl d0) (h : Rch pl d0 d) : DnOk pl d := by
  induction h with
  | refl => exact h0
  | step _ hi hm ih => exact ih.step hi hm
theorem Rch.mono {pl : Pl} {d0 d : List Int} (h0 : DnOk pl d0) (h : Rch pl d0 d) (j : Nat) : dnAt d0 j ≤ dnAt d j := by
  induction h with
  | refl => exact Int.le_refl _
  | @step d i hr hi hm ih =>
    rw [dnAt_step (by rw [(hr.ok h0).1]; exact hi)]
    split
    · rename_i e; subst e; omega
    · exact ih
theorem mayB_iff {pl : Pl} {d : List Int} {i : Nat} : mayB pl d i = true ↔ dnAt d i ≤ 2 * (wl pl.ts i : Int) ∧ ∀ x ∈ pl.side false ((i : Int), dnAt d i), x.2 < dnAt d x.1.toNat := by
  unfold mayB
  split
  · rename_i h
    constructor
    · intro h; cases h
    · intro h; omega
  · rename_i h
    rw [List.all_eq_true]
    constructor
    · intro h2
      exact ⟨by omega, fun x hx => of_decide_eq_true (h2 x hx)⟩
    · intro h2 x hx
      exact decide_eq_true (h2.2 x hx)
theorem Rch.le {pl : Pl} {d0 d F : List Int} (h0 : DnOk pl d0) (h : Rch pl d0 d) (hF : Rch pl d0 F) (hs : leastF pl F = none) : ∀ j, j < pl.ts.length → dnAt d j ≤ dnAt F j := by
  induction h with
  | refl => exact fun j _ => hF.mono h0 j
  | @step d i hr hi hm ih =>
    intro j hj
    rw [dnAt_step (by rw [(hr.ok h0).1]; exact hi)]
    split
    · rename_i e
      subst e
      have := ih j hj
      by_cases he : dnAt d j = dnAt F j
      · exfalso
        have hn := leastF_none.mp hs j hj
        obtain ⟨h1, h2⟩ := mayB_iff.mp hm
        have : mayB pl F j = true := mayB_iff.mpr ⟨by rw [← he]; exact h1, fun x hx => by
          rw [← he] at hx
          have hy := h2 x hx
          by_cases hl : x.1.toNat < pl.ts.length
          · have := ih x.1.toNat hl
            omega
          · have e1 : dnAt d x.1.toNat = dnAt F x.1.toNat := by
              unfold dnAt
              rw [List.getD_eq_getElem?_getD, List.getD_eq_getElem?_getD, List.getElem?_eq_none (by rw [(hr.ok h0).1]; omega), List.getElem?_eq_none (by rw [(hF.ok h0).1]; omega)]
            omega⟩
        rw [hn] at this
        cases this
      · omega
    · exact ih j hj
theorem dn_ext {d F : List Int} (hl : d.length = F.length) (h : ∀ j, j < d.length → dnAt d j = dnAt F j) : d = F := by
  apply List.ext_getElem? 
  intro i
  by_cases hi : i < d.length
  · rw [dn_get hi, dn_get (by omega), h i hi]
  · rw [List.getElem?_eq_none (by omega), List.getElem?_eq_none (by omega)]
theorem Rch.same {pl : Pl} {d0 d F : List Int} (h0 : DnOk pl d0) (h : Rch pl d0 d) (hF : Rch pl d0 F) (hd : leastF pl d = none) (hs : leastF pl F = none) : d = F := by
  have e1 := (h.ok h0).1
  have e2 := (hF.ok h0).1
  refine dn_ext (by rw [e1, e2]) fun j hj => ?_
  have a := h.le h0 hF hs j (by omega)
  have b := hF.le h0 h hd j (by omega)
  omega
theorem zeros_sum {n : Nat} : (List.replicate n (0 : Int)).sum = 0 := by
  induction n with
  | zero => rfl
  | succ n ih => rw [List.replicate_succ, List.sum_cons, ih]; rfl
theorem dnAt_zeros {pl : Pl} (i : Nat) : dnAt (zerosD pl) i = 0 := by
  unfold dnAt zerosD
  rw [List.getD_eq_getElem?_getD, List.getElem?_replicate]
  split <;> rfl
end Lw
set_option Elab.async false
set_option linter.all false
set_option maxRecDepth 100000
set_option maxHeartbeats 4000000
/-! a dict out of triples; the least of a list; rings -/
namespace Lw
open PySem PySem.Spec L2
open Evl (Ex)
/-- the ring of these waits -/
def nxW (ws : List T3i) (z : Int) : Int := ((ws.find? fun w => decide (w.1 = z)).map fun w => w.2.1).getD 0
structure WtOk (ws : List T3i) : Prop where
  ne : ws ≠ []
  nd : (ws.map (·.1)).Nodup
  nx : ∀ w ∈ ws, w.2.1 ∈ ws.map (·.1)
theorem nxW_at {ws : List T3i} (h : WtOk ws) {w : T3i} (hw : w ∈ ws) : ws.find? (fun u => decide (u.1 = w.1)) = some w := by
  obtain ⟨u, hu⟩ : ∃ u, ws.find? (fun u => decide (u.1 = w.1)) = some u := by
    cases e : ws.find? (fun u => decide (u.1 = w.1)) with
    | some u => exact ⟨u, rfl⟩
    | none => rw [List.find?_eq_none] at e; exact absurd (decide_eq_true rfl) (e w hw)
  have h1 := List.mem_of_find?_eq_some hu
  have h2 : u.1 = w.1 := by have := List.find?_some hu; simpa using this
  rw [hu]
  obtain ⟨a, ha⟩ := List.getElem?_of_mem h1
  obtain ⟨b, hb⟩ := List.getElem?_of_mem hw
  have la := List.getElem?_eq_some_iff.mp ha
  have lb := List.getElem?_eq_some_iff.mp hb
  have key := List.pairwise_iff_getElem.mp (List.nodup_iff_pairwise_ne.mp h.nd)
  have : a = b := Classical.byContradiction fun hne => by
    rcases Nat.lt_or_gt_of_ne hne with hlt | hlt
    · have := key a b (by rw [List.length_map]; exact la.1) (by rw [List.length_map]; exact lb.1) hlt
      rw [List.getElem_map, List.getElem_map, la.2, lb.2] at this
      exact this h2
    · have := key b a (by rw [List.length_map]; exact lb.1) (by rw [List.length_map]; exact la.1) hlt
      rw [List.getElem_map, List.getElem_map, la.2, lb.2] at this
      exact this h2.symm
  subst this
  rw [ha] at hb
  exact hb
theorem WtOk.step {ws : List T3i} (h : WtOk ws) : ∀ x ∈ ws.map (·.1), nxW ws x ∈ ws.map (·.1) := fun x hx => by
  obtain ⟨w, hw, rfl⟩ := List.mem_map.mp hx
  unfold nxW
  rw [nxW_at h hw]
  exact h.nx w hw
theorem WtOk.head {ws : List T3i} (h : WtOk ws) : (ws.map (·.1)).headD 0 ∈ ws.map (·.1) := by
  cases ws with
  | nil => exact absurd rfl h.ne
  | cons w r => exact List.mem_cons_self
end Lw
set_option Elab.async false
set_option linter.all false
set_option maxRecDepth 100000
set_option maxHeartbeats 4000000
/-! who waits for whom: promises; a row out of a list of rows changed -/
namespace Lw
open PySem PySem.Spec L2
open Evl (Ex)
def TrnU (trn : List (Int × Int)) : Prop := ∀ q ∈ trn, ∀ r ∈ trn, q.2 = r.2 → q = r
theorem TrnOk.u {parks : List Int} {ts : List Trn} {trn : List (Int × Int)} (h : TrnOk parks ts trn) : TrnU trn := fun q hq r hr e => by
  obtain ⟨i, hi⟩ := List.getElem?_of_mem hq
  obtain ⟨j, hj⟩ := List.getElem?_of_mem hr
  rcases Nat.lt_trichotomy i j with hlt | he | hlt
  · exact absurd e.symm (h.2.2 j i r q hlt hj hi).2
  · subst he; rw [hi] at hj; exact Option.some.inj hj
  · exact absurd e (h.2.2 i j q r hlt hi hj).2
section
variable {K : PySem.W.Frag} {C CT CP CN CW CB CL : Addr} {σ : L2.St} {G G0 G' Kn S H H' H1 H2 : Hp} {D : Ends} {ta tb tc te ti tl td tk tx tv to : TE} {P P0 : VP} {p x : Addr} {d : Bool → Addr} {pl : Pl}
/-- rows, each of them with its places changed -/
def PrmR (rows ms : List (List Int)) : Prop := ms.length = rows.length ∧ ∀ (i : Nat) (r m : List Int), rows[i]? = some r → ms[i]? = some m → m.Perm r
theorem PrmR.ord {n : Nat} {parks : List Int} {ts : List Trn} {rows ms : List (List Int)} (h : PrmR rows ms) (ho : OrdOk n parks ts rows) : OrdOk n parks ts ms := ⟨by rw [h.1]; exact ho.1, fun b m hm => by
  obtain ⟨r, hr⟩ : ∃ r, rows[b]? = some r := ⟨_, List.getElem?_eq_getElem (by have := (List.getElem?_eq_some_iff.mp hm).1; have := h.1; omega)⟩
  rw [srtI_congr (h.2 b r m hr hm)]
  exact ho.2 b r hr⟩
def spNear (K : PySem.W.Frag) : Sp := fun vs H Q _ => ∃ (G : Hp) (a : Addr) (c : Int) (rows : List (List Int)), Ex G H ∧ vs = [.ref a, .int c] ∧ Dp K G (.ref a) (.list (rows.map dI)) ∧ 0 < rows.length ∧ rows.length ≤ 200 ∧ (∀ r ∈ rows, r.length ≤ 900) ∧ Ret G H (fun v G' => ∃ ms, PrmR rows ms ∧ Dp K G' v (.list (ms.map dI))) Q
theorem sa_near {a : Addr} {c : Int} {rows : List (List Int)} (h : Dp K G (.ref a) (.list (rows.map dI))) (h0 : 0 < rows.length) (h1 : rows.length ≤ 200) (h2 : ∀ r ∈ rows, r.length ≤ 900) : SA (spNear K) [.ref a, .int c] G (fun v G' => ∃ ms, PrmR rows ms ∧ Dp K G' v (.list (ms.map dI))) := fun H e' Q _ k => ⟨G, a, c, rows, e', rfl, h, h0, h1, h2, k⟩
end
end Lw
set_option Elab.async false
set_option linter.all false
set_option maxRecDepth 100000
set_option maxHeartbeats 4000000
namespace Lw
open PySem PySem.Spec L2
open Evl (Ex)
section
variable {K : PySem.W.Frag} {σ : L2.St} {G G0 G' H H' H1 H2 : Hp} {D : Ends} {ta tb tc te ti tl td tk tx tv to : TE} {P P0 : VP}
theorem ei_catN {l m : List Int} (ha : EF ta σ G (LS K (l.map PyData.int))) (hb : EF tb σ G (LS K (m.map PyData.int))) (hz : l.length + m.length ≤ 10000) : EF (tOp rCat ta tb) σ G (NwI K G (· = l ++ m)) :=
  ef_op mo_LS mo_LS ha hb fun x y G' e ⟨q, xs, ex, h1, d1⟩ ⟨b, ys, ey, h2, d2⟩ => fun H e2 Q k => by
    have e1 := dpa_ints_eq d1
    have e3 := dpa_ints_eq d2
    subst e1 e3
    refine ⟨q, b, _, _, ex, ey, e2 _ _ h1, e2 _ _ h2, ?_, fun p hp => k _ _ _ (.new e2 hp) ⟨p, l ++ m, rfl, none_back (e.trans e2) hp, by rw [List.map_append]; exact upd_same, rfl⟩⟩
    rw [List.length_map, List.length_map]
    exact Nat.le_trans hz (by decide)
end
end Lw
set_option Elab.async false
set_option linter.all false
set_option maxRecDepth 100000
set_option maxHeartbeats 4000000
/-! name = {..} on one line, the name a local -/
namespace L2
open PySem PySem.Spec
end L2
set_option Elab.async false
set_option linter.all false
set_option maxRecDepth 100000
set_option maxHeartbeats 4000000
namespace Lw
open PySem PySem.Spec L2
open Evl (Ex)
end Lw
set_option Elab.async false
set_option linter.all false
set_option maxRecDepth 100000
set_option maxHeartbeats 4000000
namespace Lw
open PySem PySem.Spec L2
open Evl (Ex)
/-- a list of ours, and a value beside it -/
def WSt (K : PySem.W.Frag) (G H H' : Hp) (r : Addr) (L : List PyData) (v : V) (x : PyData) : Prop := ∃ Gk vs, Gr G Gk H H' ∧ Gk r = none ∧ H' r = some (.lst vs) ∧ DpAll K Gk vs L ∧ Dp K Gk v x
section
variable {K : PySem.W.Frag} {C CT CP CN CW CB CL : Addr} {σ : L2.St} {G G0 G' Kn S H H' H1 H2 : Hp} {D : Ends} {ta tb tc te ti tl td tk tx tv to : TE} {t : TT} {P P0 : VP} {p x : Addr} {d : Bool → Addr} {pl : Pl} {r : Addr} {L : List PyData} {v : V} {x : PyData} {j : Nat}
theorem WSt.ok (h : WSt K G H H1 r L v x) : Ex G H1 := by
  obtain ⟨Gk, vs, g, _⟩ := h
  exact g.up.trans g.ok
theorem WSt.up (h : WSt K G H H1 r L v x) (e : Ex H1 H2) : WSt K G H H2 r L v x := by
  obtain ⟨Gk, vs, g, h1, h2, h3, h4⟩ := h
  exact ⟨Gk, vs, g.then e, h1, e _ _ h2, h3, h4⟩
theorem DSt.w (h : DSt K G H H1 r L) : WSt K G H H1 r L .non .none := by
  obtain ⟨Gk, vs, g, h1, h2, h3⟩ := h
  exact ⟨Gk, vs, g, h1, h2, h3, .non⟩
theorem DSt.done (h : DSt K G H H1 r L) (hG : Ex G H) (hr : H r = none) : ∃ G2, Gr G G2 H H1 ∧ Dp K G2 (.ref r) (.list L) := by
  obtain ⟨Gk, vs, g, h1, h2, h3⟩ := h
  exact ⟨_, Gr.know hG g hr h2, dp_mkL upd_same (dpax h3 (ex_in h1))⟩
end
end Lw
set_option Elab.async false
set_option linter.all false
set_option maxRecDepth 100000
set_option maxHeartbeats 4000000
namespace Lw
open PySem PySem.Spec L2
open Evl (Ex)
def unI : List V → List Int
  | [] => []
  | .int z :: r => z :: unI r
  | _ :: r => unI r
theorem unI_map : ∀ {l : List Int}, unI (l.map V.int) = l
  | [] => rfl
  | z :: l => by
    show z :: unI (l.map V.int) = _
    rw [unI_map]
def rowOf (H : Hp) (a : Addr) : List Int := match H a with
  | some (.lst vs) => unI vs
  | _ => []
theorem rowOf_eq {H : Hp} {a : Addr} {m : List Int} (h : H a = some (.lst (m.map V.int))) : rowOf H a = m := by
  unfold rowOf
  rw [h]
  exact unI_map
/-- rows that are ours, each with its places changed -/
def NrS (H0 H : Hp) (l : Addr) (as : List Addr) (rows : List (List Int)) : Prop := Ex H0 H ∧ H l = some (.lst (as.map V.ref)) ∧ ∀ (i : Nat) (a : Addr) (r : List Int), as[i]? = some a → rows[i]? = some r → ∃ m : List Int, m.Perm r ∧ H a = some (.lst (m.map V.int))
section
variable {K : PySem.W.Frag} {σ : L2.St} {G G0 G' H H0 H' H1 H2 : Hp} {D : Ends} {ta tb tc te ti : TE} {P : VP}
theorem NrS.up {l : Addr} {as : List Addr} {rows : List (List Int)} (h : NrS H0 H l as rows) (e : Ex H H') : NrS H0 H' l as rows := ⟨h.1.trans e, e _ _ h.2.1, fun i a r ha hr => by
  obtain ⟨m, h1, h2⟩ := h.2.2 i a r ha hr
  exact ⟨m, h1, e _ _ h2⟩⟩
theorem NrS.put {l : Addr} {as : List Addr} {rows : List (List Int)} {a : Addr} {m m' : List Int} (h : NrS H0 H l as rows) (h0 : H0 a = none) (hl : a ≠ l) (hm : H a = some (.lst (m.map V.int))) (hp : m'.Perm m) (e : Ex H H') : NrS H0 (upd H' a (.lst (m'.map V.int))) l as rows := ⟨ex_off (h.1.trans e) h0, by rw [upd_ne (Ne.symm hl)]; exact e _ _ h.2.1, fun i b r hb hr => by
  obtain ⟨n, h1, h2⟩ := h.2.2 i b r hb hr
  by_cases eb : b = a
  · subst eb
    rw [hm] at h2
    have : m = n := by
      have := congrArg unI (HO.lst.inj (Option.some.inj h2))
      rwa [unI_map, unI_map] at this
    exact ⟨m', by rw [this] at hp; exact hp.trans h1, upd_same⟩
  · exact ⟨n, h1, by rw [upd_ne eb]; exact e _ _ h2⟩⟩
open Classical in
theorem NrS.done {l : Addr} {as : List Addr} {rows : List (List Int)} (h : NrS H0 H l as rows) (hG : Ex G H0) (hl : G l = none) (hl0 : H0 l = none) (hal : as.length = rows.length) (ha : ∀ a ∈ as, G a = none ∧ H0 a = none ∧ a ≠ l) : ∃ G2, Gr G G2 H0 H ∧ ∃ ms, PrmR rows ms ∧ Dp K G2 (.ref l) (.list (ms.map dI)) := by
  obtain ⟨h1, h2, h3⟩ := h
  have key : ∀ (i : Nat) (a : Addr), as[i]? = some a → ∃ (r m : List Int), rows[i]? = some r ∧ m.Perm r ∧ H a = some (.lst (m.map V.int)) := fun i a hi => by
    obtain ⟨r, hr⟩ : ∃ r, rows[i]? = some r := ⟨_, List.getElem?_eq_getElem (by have := (List.getElem?_eq_some_iff.mp hi).1; omega)⟩
    obtain ⟨m, q1, q2⟩ := h3 i a r hi hr
    exact ⟨r, m, hr, q1, q2⟩
  refine ⟨fun b => if b = l ∨ b ∈ as then H b else G b, ⟨fun b o hb => ?_, fun b o hb => ?_, h1, fun b hb gb => ?_⟩, as.map (rowOf H), ⟨by rw [List.length_map, hal], fun i r m hr hm => ?_⟩, ?_⟩
  · have : ¬ (b = l ∨ b ∈ as) := fun z => by
      rcases z with z | z
      · rw [z, hl] at hb; cases hb
      · rw [(ha b z).1] at hb; cases hb
    show (if _ then _ else _) = _
    rw [if_neg this]
    exact hb
  · have hb : (if b = l ∨ b ∈ as then H b else G b) = some o := hb
    split at hb
    · exact hb
    · exact h1 _ _ (hG _ _ hb)
  · have : ¬ (b = l ∨ b ∈ as) := fun z => by
      rcases z with z | z
      · rw [z] at hb; exact hb hl0
      · exact hb (ha b z).2.1
    show (if _ then _ else _) = _
    rw [if_neg this]
    exact gb
  · rw [List.getElem?_map] at hm
    obtain ⟨a, hai, rfl⟩ := Option.map_eq_some_iff.mp hm
    obtain ⟨r', m, hr', q1, q2⟩ := key i a hai
    rw [hr] at hr'
    cases hr'
    rw [rowOf_eq q2]
    exact q1
  · refine LNI.dp (K := K) (G0 := G) ⟨l, as, rfl, hl, ?_, by rw [List.length_map], fun i a r hai hr => ?_⟩
    · show (if _ then _ else _) = _
      rw [if_pos (.inl rfl)]
      exact h2
    · have hm := List.mem_of_getElem? hai
      obtain ⟨r', m, hr', q1, q2⟩ := key i a hai
      rw [List.getElem?_map, hai] at hr
      cases hr
      refine ⟨(ha a hm).1, (ha a hm).2.2, ?_⟩
      show (if _ then _ else _) = _
      rw [if_pos (.inr hm), rowOf_eq q2]
      exact q2
end
end Lw
set_option Elab.async false
set_option linter.all false
set_option maxRecDepth 100000
set_option maxHeartbeats 4000000
/-! what comes before and behind, in order -/
namespace Lw
open PySem PySem.Spec L2
open Evl (Ex)
theorem TrnOk.nd {parks : List Int} {ts : List Trn} {trn : List (Int × Int)} (h : TrnOk parks ts trn) : trn.Nodup := by
  unfold List.Nodup
  rw [List.pairwise_iff_getElem]
  intro i j hi hj hij e
  have := (h.2.2 j i _ _ hij (List.getElem?_eq_getElem hj) (List.getElem?_eq_getElem hi)).1
  exact this (by rw [e])
end Lw
set_option Elab.async false
set_option linter.all false
set_option maxRecDepth 100000
set_option maxHeartbeats 4000000
namespace Lw
open PySem PySem.Spec L2
open Evl (Ex)
end Lw
set_option Elab.async false
set_option linter.all false
set_option maxRecDepth 100000
set_option maxHeartbeats 4000000
/-! an exchange of two in an order: promises -/
namespace Lw
open PySem PySem.Spec L2
open Evl (Ex)
end Lw
set_option Elab.async false
set_option linter.all false
set_option maxRecDepth 100000
set_option maxHeartbeats 4000000
/-! rows of our own, no two the same; one of them changed -/
namespace Lw
open PySem PySem.Spec L2
open Evl (Ex)
def LNX (G0 : Hp) (rows : List (List Int)) : VP := fun v G => ∃ (l : Addr) (as : List Addr), v = .ref l ∧ G0 l = none ∧ G l = some (.lst (as.map V.ref)) ∧ as.length = rows.length ∧ as.Nodup ∧ ∀ (i : Nat) (a : Addr) (r : List Int), as[i]? = some a → rows[i]? = some r → G0 a = none ∧ a ≠ l ∧ G a = some (.lst (r.map V.int))
theorem LNX.low {G0 G1 G : Hp} {rows : List (List Int)} {v : V} (e : Ex G0 G1) (h : LNX G1 rows v G) : LNX G0 rows v G := by
  obtain ⟨l, as, ev, h0, h1, h2, hn, h3⟩ := h
  exact ⟨l, as, ev, none_back e h0, h1, h2, hn, fun i a r ha hr => ⟨none_back e (h3 i a r ha hr).1, (h3 i a r ha hr).2⟩⟩
def RwH (H : Hp) (l : Addr) (as : List Addr) (rows : List (List Int)) : Prop := H l = some (.lst (as.map V.ref)) ∧ ∀ (i : Nat) (a : Addr) (r : List Int), as[i]? = some a → rows[i]? = some r → H a = some (.lst (r.map V.int))
theorem RwH.up {H H' : Hp} {l : Addr} {as : List Addr} {rows : List (List Int)} (h : RwH H l as rows) (e : Ex H H') : RwH H' l as rows := ⟨e _ _ h.1, fun i a r ha hr => e _ _ (h.2 i a r ha hr)⟩
theorem RwH.put {H H' : Hp} {l : Addr} {as : List Addr} {rows : List (List Int)} {b : Nat} {a : Addr} {r' : List Int} (h : RwH H l as rows) (hn : as.Nodup) (hb : as[b]? = some a) (hl : a ≠ l) (hx : ∀ c, c ≠ a → ∀ o, H c = some o → H' c = some o) (h' : H' a = some (.lst (r'.map V.int))) : RwH H' l as (rows.set b r') := ⟨hx l (Ne.symm hl) _ h.1, fun i c r hc hr => by
  by_cases e : i = b
  · subst e
    rw [hb] at hc
    cases hc
    by_cases hlt : i < rows.length
    · rw [List.getElem?_set_self hlt] at hr
      cases hr
      exact h'
    · rw [List.getElem?_eq_none (by rw [List.length_set]; omega)] at hr
      cases hr
  · rw [List.getElem?_set_ne (Ne.symm e)] at hr
    refine hx c (fun z => ?_) _ (h.2 i c r hc hr)
    subst z
    obtain ⟨l1, g1⟩ := List.getElem?_eq_some_iff.mp hc
    obtain ⟨l2, g2⟩ := List.getElem?_eq_some_iff.mp hb
    have key := List.pairwise_iff_getElem.mp hn
    rcases Nat.lt_or_gt_of_ne e with hlt | hlt
    · exact key i b l1 l2 hlt (by rw [g1, g2])
    · exact key b i l2 l1 hlt (by rw [g1, g2])⟩
open Classical in
theorem RwH.done {G H0 H : Hp} {l : Addr} {as : List Addr} {rows : List (List Int)} (h : RwH H l as rows) (hG : Ex G H0) (h1 : Ex H0 H) (hl : G l = none) (hl0 : H0 l = none) (hal : as.length = rows.length) (ha : ∀ a ∈ as, G a = none ∧ H0 a = none ∧ a ≠ l) : ∃ G2, Gr G G2 H0 H ∧ LNI G rows (.ref l) G2 := by
  refine ⟨fun b => if b = l ∨ b ∈ as then H b else G b, ⟨fun b o hb => ?_, fun b o hb => ?_, h1, fun b hb gb => ?_⟩, l, as, rfl, hl, ?_, hal, fun i a r hai hr => ?_⟩
  · have : ¬ (b = l ∨ b ∈ as) := fun z => by
      rcases z with z | z
      · rw [z, hl] at hb; cases hb
      · rw [(ha b z).1] at hb; cases hb
    show (if _ then _ else _) = _
    rw [if_neg this]
    exact hb
  · have hb : (if b = l ∨ b ∈ as then H b else G b) = some o := hb
    split at hb
    · exact hb
    · exact h1 _ _ (hG _ _ hb)
  · have : ¬ (b = l ∨ b ∈ as) := fun z => by
      rcases z with z | z
      · rw [z] at hb; exact hb hl0
      · exact hb (ha b z).2.1
    show (if _ then _ else _) = _
    rw [if_neg this]
    exact gb
  · show (if _ then _ else _) = _
    rw [if_pos (.inl rfl)]
    exact h.1
  · have hm := List.mem_of_getElem? hai
    refine ⟨(ha a hm).1, (ha a hm).2.2, ?_⟩
    show (if _ then _ else _) = _
    rw [if_pos (.inr hm)]
    exact h.2 i a r hai hr
end Lw
set_option Elab.async false
set_option linter.all false
set_option maxRecDepth 100000
set_option maxHeartbeats 4000000
/-! events in a list; rows that grow -/
namespace Lw
open PySem PySem.Spec L2
open Evl (Ex)
theorem dpa_pt {K : PySem.W.Frag} {G : Hp} : ∀ {as : List Addr} {ds : List PyData}, as.length = ds.length → (∀ (i : Nat) (a : Addr) (d : PyData), as[i]? = some a → ds[i]? = some d → Dp K G (.ref a) d) → DpAll K G (as.map V.ref) ds
  | [], [], _, _ => .nil
  | a :: as, d :: ds, h, k => .cons (k 0 a d rfl rfl) (dpa_pt (by simpa using h) fun i a d ha hd => k (i + 1) a d (by simpa using ha) (by simpa using hd))
  | [], _ :: _, h, _ => by simp at h
  | _ :: _, [], h, _ => by simp at h
section
variable {K : PySem.W.Frag} {C CT CP CN CQ : Addr} {σ : L2.St} {G G0 G' H H0 H' H1 H2 : Hp} {D : Ends} {ta tb tc te ti tl to : TE} {P : VP} {pl : Pl} {x : Addr} {d : Bool → Addr}
/-- rows of our own that hold data; what they hold is known apart -/
def RsD (K : PySem.W.Frag) (G H0 H : Hp) (l : Addr) (as : List Addr) (rows : List (List Ev)) : Prop := ∃ Gk, Gr G Gk H0 H ∧ (∀ a ∈ as, Gk a = none) ∧ Gk l = some (.lst (as.map V.ref)) ∧ ∀ (i : Nat) (a : Addr) (r : List Ev), as[i]? = some a → rows[i]? = some r → ∃ vs, H a = some (.lst vs) ∧ DpAll K Gk vs (r.map dP)
theorem RsD.ok {l : Addr} {as : List Addr} {rows : List (List Ev)} (h : RsD K G H0 H l as rows) : Ex G H := by
  obtain ⟨Gk, g, _⟩ := h
  exact g.up.trans g.ok
theorem RsD.up {l : Addr} {as : List Addr} {rows : List (List Ev)} (h : RsD K G H0 H l as rows) (e : Ex H H') : RsD K G H0 H' l as rows := by
  obtain ⟨Gk, g, h1, h2, h3⟩ := h
  exact ⟨Gk, g.then e, h1, h2, fun i a r ha hr => by
    obtain ⟨vs, q1, q2⟩ := h3 i a r ha hr
    exact ⟨vs, e _ _ q1, q2⟩⟩
open Classical in
theorem RsD.done {l : Addr} {as : List Addr} {rows : List (List Ev)} (h : RsD K G H0 H l as rows) (hal : as.length = rows.length) (ha : ∀ a ∈ as, H0 a = none) : ∃ G2, Gr G G2 H0 H ∧ Dp K G2 (.ref l) (.list (rows.map dPs)) := by
  obtain ⟨Gk, g, h1, h2, h3⟩ := h
  have eK : Ex Gk (fun b => if b ∈ as then H b else Gk b) := fun b o hb => by
    have : b ∉ as := fun m => by rw [h1 b m] at hb; cases hb
    show (if _ then _ else _) = _
    rw [if_neg this]
    exact hb
  refine ⟨fun b => if b ∈ as then H b else Gk b, ⟨g.up.trans eK, fun b o hb => ?_, g.hp, fun b hb gb => ?_⟩, ?_⟩
  · have hb : (if b ∈ as then H b else Gk b) = some o := hb
    split at hb
    · exact hb
    · exact g.ok _ _ hb
  · have : b ∉ as := fun m => hb (ha b m)
    show (if _ then _ else _) = _
    rw [if_neg this]
    exact g.2.2.2 b hb gb
  · refine dp_mkL (eK _ _ h2) (dpa_pt (by rw [List.length_map]; exact hal) fun i a d hi hd => ?_)
    rw [List.getElem?_map] at hd
    obtain ⟨r, hr, rfl⟩ := Option.map_eq_some_iff.mp hd
    obtain ⟨vs, q1, q2⟩ := h3 i a r hi hr
    refine dp_mkL (xs := vs) ?_ (dpax q2 eK)
    show (if _ then _ else _) = _
    rw [if_pos (List.mem_of_getElem? hi)]
    exact q1
end
end Lw
set_option Elab.async false
set_option linter.all false
set_option maxRecDepth 100000
set_option maxHeartbeats 4000000
namespace Lw
open PySem PySem.Spec L2
open Evl (Ex)
theorem sub_lenE : ∀ {l m : List Ev}, l.Nodup → (∀ x ∈ l, x ∈ m) → l.length ≤ m.length
  | [], _, _, _ => Nat.zero_le _
  | x :: l, m, hn, hs => by
    obtain ⟨h1, h2⟩ := List.nodup_cons.mp hn
    have hx := hs x List.mem_cons_self
    have ih := sub_lenE (l := l) (m := m.erase x) h2 fun y hy => (List.mem_erase_of_ne (fun e => h1 (by rw [← e]; exact hy))).mpr (hs y (List.mem_cons_of_mem _ hy))
    rw [List.length_erase_of_mem hx] at ih
    have := List.length_pos_of_mem hx
    simp only [List.length_cons]
    omega
/-- a list of pairs that stand in the heap as such -/
def EvsAt (K : PySem.W.Frag) (G : Hp) (a : Addr) (es : List Ev) : Prop := ∃ bs : List Addr, SqL K G a (bs.map V.ref) ∧ bs.length = es.length ∧ ∀ (i : Nat) (b : Addr) (e : Ev), bs[i]? = some b → es[i]? = some e → G b = some (.tup [.int e.1, .int e.2])
theorem EvsAt.ex {K : PySem.W.Frag} {G G' : Hp} {a : Addr} {es : List Ev} (h : EvsAt K G a es) (e : Ex G G') : EvsAt K G' a es := by
  obtain ⟨bs, h1, h2, h3⟩ := h
  exact ⟨bs, Evl.ex_l e h1, h2, fun i b q hb hq => e _ _ (h3 i b q hb hq)⟩
theorem EvsAt.dp {K : PySem.W.Frag} {G : Hp} {a : Addr} {es : List Ev} (h : EvsAt K G a es) : Dp K G (.ref a) (dPs es) := by
  obtain ⟨bs, h1, h2, h3⟩ := h
  exact .lst h1 (dpa_pt (by rw [List.length_map]; exact h2) fun i b d hb hd => by
    rw [List.getElem?_map] at hd
    obtain ⟨e, he, rfl⟩ := Option.map_eq_some_iff.mp hd
    exact dp_ev (h3 i b e hb he))
/-- a list of ours with such pairs -/
def ESt (G H H' : Hp) (q : Addr) (L : List Ev) : Prop := ∃ (G' : Hp) (bs : List Addr), Gr G G' H H' ∧ G' q = none ∧ H' q = some (.lst (bs.map V.ref)) ∧ bs.length = L.length ∧ ∀ (i : Nat) (b : Addr) (e : Ev), bs[i]? = some b → L[i]? = some e → G' b = some (.tup [.int e.1, .int e.2])
section
variable {K : PySem.W.Frag} {σ : L2.St} {D : Ends} {te : TE} {G H H1 H2 : Hp}
theorem ESt.ok {q : Addr} {L : List Ev} (h : ESt G H H1 q L) : Ex G H1 := by
  obtain ⟨G', bs, g, _⟩ := h
  exact g.up.trans g.ok
theorem ESt.up {q : Addr} {L : List Ev} (h : ESt G H H1 q L) (e : Ex H1 H2) : ESt G H H2 q L := by
  obtain ⟨G', bs, g, h1, h2, h3⟩ := h
  exact ⟨G', bs, g.then e, h1, e _ _ h2, h3⟩
theorem ESt.done {q : Addr} {L : List Ev} (h : ESt G H H1 q L) (hG : Ex G H) (hqH : H q = none) : ∃ G2, Gr G G2 H H1 ∧ EvsAt K G2 q L := by
  obtain ⟨G', bs, g, gq, hq, hl, hd⟩ := h
  exact ⟨_, Gr.know hG g hqH hq, bs, Evl.sq_of upd_same, hl, fun i b e hb he => ex_in gq _ _ (hd i b e hb he)⟩
end
end Lw
set_option Elab.async false
set_option linter.all false
set_option maxRecDepth 100000
set_option maxHeartbeats 4000000
namespace Lw
open PySem PySem.Spec L2
open Evl (Ex)
end Lw
set_option Elab.async false
set_option linter.all false
set_option maxRecDepth 100000
set_option maxHeartbeats 4000000
/-! list(range(0, n, 2)), xs[::-1], [*a, *b] -/
namespace Lw
open PySem PySem.Spec L2
open Evl (Ex)
open PyProof.Rows
def ev2 (n : Nat) : List Int := (List.range ((n + 1) / 2)).map fun m : Nat => 2 * (m : Int)
def tLstRg3 (ta tb tc : TE) : TE := fun σ H Q => ta σ H fun x H1 => tb σ H1 fun y H2 => tc σ H2 fun z H3 => ∃ n : Nat, x = .int 0 ∧ y = .int (n : Int) ∧ z = .int 2 ∧ n ≤ 1000 ∧ ∀ q, H3 q = none → Q (.ref q) (upd H3 q (.lst ((ev2 n).map V.int)))
theorem vals_ev2 {acc : Array Value} {n : Nat} (h : ItemsOf (fun i v => ∃ t, v = .int (0 + i * 2) t) acc n) : Vals (((List.range n).map fun m : Nat => 2 * (m : Int)).map V.int) acc.toList := by
  have e : acc.toList.length = n := by rw [Array.length_toList]; exact h.1
  rw [List.map_map, ← e]
  refine L2.vals_of_get acc.toList (fun m => V.int (2 * (m : Int))) fun j u hj => ?_
  obtain ⟨t, rfl⟩ := h.2 j u (by rw [← hj, Array.getElem?_toList])
  exact ⟨t, by rw [Int.zero_add, Int.mul_comm]⟩
theorem small_2 {b : Int} (h0 : 0 ≤ b) (h1 : b ≤ 1000) : Builtin.Range.small 0 b 2 = true := by
  have hz : 0 ≤ Builtin.Range.rangeSize 0 b 2 ∧ Builtin.Range.rangeSize 0 b 2 ≤ 1000 := by
    unfold Builtin.Range.rangeSize
    rw [if_pos (by decide)]
    split <;> omega
  unfold Builtin.Range.small
  revert hz
  generalize Builtin.Range.rangeSize 0 b 2 = m
  intro hz
  simp only [Builtin.Range.rangeFitsLong, Bool.and_eq_true, Bool.or_eq_true, decide_eq_true_eq, beq_iff_eq, show (2 : Int) > 0 by decide, if_true]
  exact ⟨by omega, .inr (by omega)⟩
theorem pe_listRg3 {X : Cx} {a b c : Expr} {ta tb tc : TE} {p pos p2 pos2 : Pos} (hcm : X.calm = true) (hg : Gl X "list") (hm : X.mg "list" = none) (hg2 : Gl X "range") (hm2 : X.mg "range" = none) (ha : PE X a ta) (hb : PE X b tb) (hc : PE X c tc)
    (na : starEach [a, b, c] X.env = (false, eval a X.env) :: starEach [b, c] X.env := by rfl) (nb : starEach [b, c] X.env = (false, eval b X.env) :: starEach [c] X.env := by rfl) (nc : starEach [c] X.env = (false, eval c X.env) :: starEach [] X.env := by rfl)
    (hp : (backTo pos2 (starEach [b, c] X.env)).any (·.1) = false := by rfl)
    (nl : starEach [.Call (.Name "range" p2) [a, b, c] [] pos2] X.env = (false, eval (.Call (.Name "range" p2) [a, b, c] [] pos2) X.env) :: starEach [] X.env := by rfl) : PE X (.Call (.Name "list" p) [.Call (.Name "range" p2) [a, b, c] [] pos2] [] pos) (tLstRg3 ta tb tc) := by
  refine ⟨fun pins s σ H Q I h => ?_⟩
  have inner : wpAny (model X.prog X.w) X.A (eval (.Call (.Name "range" p2) [a, b, c] [] pos2) X.env) (fun x s' => ∃ (r : Addr) (n : Nat) (t u v : Tok) (H' : Hp), x = .ref r ∧ IsRange s'.heap r 0 (n : Int) 2 t u v ∧ Inv X pins σ H' s' ∧ n ≤ 1000 ∧ ∀ q, H' q = none → Q (.ref q) (upd H' q (.lst ((ev2 n).map V.int)))) X.xe s := by
    refine Call_ (ld_blt I hg2 hm2 boot_range (PyProof.Rows.callWith_type1 (args_cons (thn (ha.run pins s σ H _ I h) fun v s1 ⟨x, H1, I1, r1, q1⟩ => args_cons (thn (hb.run pins s1 σ H1 _ I1 q1) fun u s2 ⟨y, H2, I2, r2, q2⟩ => one_arg hc I2 q2 (fun w s3 z H3 I3 r3 q => ?_) nc) nb) na) na hp))
    obtain ⟨n, rfl, rfl, rfl, hn, q⟩ := q
    obtain ⟨t, rfl⟩ := r1
    obtain ⟨t', rfl⟩ := r2
    obtain ⟨t'', rfl⟩ := r3
    exact call_range_3 (by decide) ⟨_, n, _, _, _, H3, rfl, IsRange.new _ _ _ _ _ _ _, I3.kept fun b u e => Heap.get?_push_of_some _ e, hn, q⟩ (.inl (PyProof.noPylong_small (by omega)))
  refine Call_ (ld_blt I hg hm boot_list (PyProof.Rows.callWith_type1 (args_cons (thn inner fun x s1 ⟨r, n, t, u, v, H1, ex, hr, I1, hn, q⟩ => args_nil ?_) nl) nl))
  subst ex
  have hsz : Builtin.Range.rangeSize 0 (n : Int) 2 = (((n + 1) / 2 : Nat) : Int) := by
    unfold Builtin.Range.rangeSize
    rw [if_pos (by decide)]
    split <;> omega
  have hsm : Builtin.Range.small 0 (n : Int) 2 = true := small_2 (by omega) (by omega)
  refine call_list_range (n := (n + 1) / 2) (I1.ok.hd hcm) hr hsm hsz (by omega) fun h' tk acc c' hk e' hi => ?_
  refine ⟨.ref s1.heap.objs.size, upd H1 s1.heap.objs.size (.lst ((ev2 n).map V.int)), I1.laid hk (Nat.le_refl _) (show ObjOk X.prog X.w _ _ _ (.lst ((ev2 n).map V.int)) from ⟨?_, acc.toList, c', vals_ev2 hi, ?_⟩), rfl, q _ (I1.hok.fresh (Nat.le_refl _))⟩
  · unfold ev2
    rw [List.length_map, List.length_map, List.length_range, sizeLine_eq]; omega
  · rw [Array.toArray_toList]; exact e'
section
variable {K : PySem.W.Frag} {σ : L2.St} {G : Hp} {ta tb tc te : TE} {t : TA}
theorem ef_lrg3 {n : Nat} (ha : EF ta σ G (XV (.int 0))) (hb : EF tb σ G (XV (.int (n : Int)))) (hc : EF tc σ G (XV (.int 2))) (hn : n ≤ 1000) : EF (tLstRg3 ta tb tc) σ G (fun v G' => ∃ q : Addr, v = .ref q ∧ G q = none ∧ G' q = some (.lst ((ev2 n).map V.int))) := fun H e Q k => ha H e _ fun x G1 H1 g1 px => hb H1 (e.trans g1.hp) _ fun y G2 H2 g2 py => hc H2 (e.trans (g1.hp.trans g2.hp)) _ fun z G3 H3 g3 pz => by
  have eH := g1.hp.trans (g2.hp.trans g3.hp)
  refine ⟨n, px, py, pz, hn, fun q hq => ?_⟩
  exact k _ _ _ ((Gr.same e eH).trans (.new (e.trans eH) hq)) ⟨q, rfl, none_back (e.trans eH) hq, upd_same⟩
theorem ef_revL {a : Addr} {xs : List V} (ha : EF ta σ G (XV (.ref a))) (hs : SqL K G a xs) : EF (tRevL K ta) σ G (fun v G' => ∃ q : Addr, v = .ref q ∧ G q = none ∧ G' q = some (.lst xs.reverse)) := fun H e Q k => ha H e _ fun x G1 H1 g1 px => by
  refine ⟨a, xs, px, Evl.ex_l (g1.up.trans g1.ok) hs, fun q hq => k _ _ _ (g1.trans (.new g1.ok hq)) ⟨q, rfl, none_back (g1.up.trans g1.ok) hq, upd_same⟩⟩
theorem ea_starL {a : Addr} {xs ys : List V} (ha : EF te σ G (XV (.ref a))) (hs : SqL K G a xs) (hr : EA t σ G fun vs _ => vs = ys) : EA (StX.tStar K te t) σ G fun vs _ => vs = xs ++ ys := fun H e Q k => ha H e _ fun x G1 H1 g1 px => by
  refine ⟨a, xs, px, .inr (Evl.ex_l (g1.up.trans g1.ok) hs), hr H1 (e.trans g1.hp) _ fun vs G2 H2 g2 ev => ?_⟩
  exact k _ G2 H2 ((Gr.same e g1.hp).trans g2) (by rw [ev])
theorem ex_fromL {tb : TE} {a : Addr} {xs : List V} {k : Nat} (ha : EF ta σ G (XV (.ref a))) (hs : SqL K G a xs) (hb : EF tb σ G (XV (.int (k : Int)))) : EF (tSl (rSlL K) ta (tPart tb) tNoPart) σ G (fun v G' => ∃ b : Addr, v = .ref b ∧ G b = none ∧ G' b = some (.lst (xs.drop k))) := fun H e Q q => ha H e _ fun x G1 H1 g1 hx => hb H1 (g1.up.trans g1.ok) _ fun y G2 H2 g2 hy => by
  cases (show x = _ from hx)
  obtain ⟨G3, e1, e2, g3⟩ := g1.join g2
  refine ⟨(k : Int), hy, a, xs, rfl, Evl.ex_l (g3.up.trans g3.ok) hs, fun p hp => ?_⟩
  refine q _ _ _ (g3.trans (.new g3.ok hp)) ⟨p, rfl, none_back (g3.up.trans g3.ok) hp, ?_⟩
  rw [upd_same, cutV_from]
end
end Lw
set_option Elab.async false
set_option linter.all false
set_option maxRecDepth 100000
set_option maxHeartbeats 4000000
/-! min of a list of data that can be compared -/
namespace Lw
open PySem PySem.Spec L2
open Evl (Ex)
/-! pairs (distance, event) -/
abbrev Qe := Int × Ev
def encQ (q : Qe) : PyData := .tuple [.int q.1, dP q.2]
def ltQ (p q : Qe) : Prop := p.1 < q.1 ∨ (p.1 = q.1 ∧ (p.2.1 < q.2.1 ∨ (p.2.1 = q.2.1 ∧ p.2.2 < q.2.2)))
instance (p q : Qe) : Decidable (ltQ p q) := by unfold ltQ; exact inferInstance
def minQ (x : Qe) (l : List Qe) : Qe := l.foldl (fun a y => if ltQ y a then y else a) x
theorem minQ_mem : ∀ (l : List Qe) (x : Qe), minQ x l ∈ x :: l
  | [], x => List.mem_cons_self ..
  | y :: l, x => by
    have e : minQ x (y :: l) = minQ (if ltQ y x then y else x) l := rfl
    have h := minQ_mem l (if ltQ y x then y else x)
    rw [e]
    rcases List.mem_cons.mp h with h | h
    · rw [h]
      split
      · exact List.mem_cons_of_mem _ (List.mem_cons_self ..)
      · exact List.mem_cons_self ..
    · exact List.mem_cons_of_mem _ (List.mem_cons_of_mem _ h)
theorem minQ_le : ∀ (l : List Qe) (x : Qe), ∀ y ∈ x :: l, (minQ x l).1 ≤ y.1
  | [], x, y, m => by rw [List.mem_singleton.mp m]; exact Int.le_refl _
  | z :: l, x, y, m => by
    have e : minQ x (z :: l) = minQ (if ltQ z x then z else x) l := rfl
    have h := minQ_le l (if ltQ z x then z else x)
    rw [e]
    have h0 := h _ (List.mem_cons_self ..)
    have hx : (if ltQ z x then z else x).1 ≤ x.1 ∧ (if ltQ z x then z else x).1 ≤ z.1 := by
      split
      · rename_i c
        unfold ltQ at c
        omega
      · rename_i c
        unfold ltQ at c
        omega
    rcases List.mem_cons.mp m with rfl | m
    · omega
    · rcases List.mem_cons.mp m with rfl | m
      · omega
      · exact h y (List.mem_cons_of_mem _ m)
end Lw
set_option Elab.async false
set_option linter.all false
set_option maxRecDepth 100000
set_option maxHeartbeats 4000000
/-! the nearest chain, as mathematics -/
namespace Lw
open PySem
abbrev Bar := Option (Ev × Ev)
def keysL (L : List (Ev × Int)) : List Ev := L.map (·.1)
/-- what the queue gains from one event that comes before -/
def addB (bar : Bar) (e : Ev) (d : Int) (L : List (Ev × Int)) (b : Ev) : List (Ev × Int) := if b ∈ keysL L ∨ bar = some (b, e) then L else L ++ [(b, d + 1)]
/-- the queue is sound -/
structure BqOk (evs : List Ev) (bf : Ev → List Ev) (bar : Bar) (goal : Ev) (L : List (Ev × Int)) : Prop where
  nd : (keysL L).Nodup
  sub : ∀ x ∈ keysL L, x ∈ evs
  bd : ∀ x ∈ L, 0 ≤ x.2 ∧ x.2 < (L.length : Int)
  hd : L[0]? = some (goal, 0)
  pos : ∀ x ∈ L, x = (goal, 0) ∨ (0 < x.2 ∧ ∃ e, (e, x.2 - 1) ∈ L ∧ x.1 ∈ bf e ∧ bar ≠ some (x.1, e))
section
variable {evs : List Ev} {bf : Ev → List Ev} {bar : Bar} {goal : Ev} {L : List (Ev × Int)}
theorem BqOk.add (h : BqOk evs bf bar goal L) {e : Ev} {d : Int} (he : (e, d) ∈ L) {b : Ev} (hb : b ∈ bf e) (hv : b ∈ evs) : BqOk evs bf bar goal (addB bar e d L b) := by
  unfold addB
  split
  · exact h
  · rename_i hc
    have h1 : b ∉ keysL L := fun z => hc (.inl z)
    have h2 : bar ≠ some (b, e) := fun z => hc (.inr z)
    have hdb := h.bd _ he
    refine ⟨?_, fun x m => ?_, fun x m => ?_, ?_, fun x m => ?_⟩
    · unfold keysL
      rw [List.map_append]
      exact List.nodup_append.mpr ⟨h.nd, by simp, fun x m y m' z => by
        rw [show y = b by simpa using m'] at z
        exact h1 (by rw [← z]; exact m)⟩
    · unfold keysL at m
      rw [List.map_append] at m
      rcases List.mem_append.mp m with m | m
      · exact h.sub x m
      · rw [show x = b by simpa using m]; exact hv
    · rw [List.length_append]
      rcases List.mem_append.mp m with m | m
      · have := h.bd x m
        simp; omega
      · rw [List.mem_singleton.mp m]
        simp; simp at hdb; omega
    · rw [List.getElem?_append_left (by have := (List.getElem?_eq_some_iff.mp h.hd).1; omega)]
      exact h.hd
    · rcases List.mem_append.mp m with m | m
      · rcases h.pos x m with z | ⟨z, e', m1, m2, m3⟩
        · exact .inl z
        · exact .inr ⟨z, e', List.mem_append_left _ m1, m2, m3⟩
      · rw [List.mem_singleton.mp m]
        refine .inr ⟨by simp at hdb ⊢; omega, e, ?_, hb, h2⟩
        rw [show (b, d + 1).2 - 1 = d by simp]
        exact List.mem_append_left _ he
theorem BqOk.len (h : BqOk evs bf bar goal L) (hn : evs.Nodup) : L.length ≤ evs.length := by
  have := sub_lenE h.nd h.sub
  unfold keysL at this
  rwa [List.length_map] at this
theorem nd_fst : ∀ {L : List (Ev × Int)} {x y : Ev × Int}, (L.map (·.1)).Nodup → x ∈ L → y ∈ L → x.1 = y.1 → x = y
  | z :: L, x, y, hn, hx, hy, e => by
    rw [List.map_cons, List.nodup_cons] at hn
    rcases List.mem_cons.mp hx with h1 | h1 <;> rcases List.mem_cons.mp hy with h2 | h2
    · rw [h1, h2]
    · exact absurd (by rw [← h1, e]; exact List.mem_map.mpr ⟨y, h2, rfl⟩) hn.1
    · exact absurd (by rw [← h2, ← e]; exact List.mem_map.mpr ⟨x, h1, rfl⟩) hn.1
    · exact nd_fst hn.2 h1 h2 e
/-! how far -/
def farL (L : List (Ev × Int)) (e : Ev) : Option Int := (L.find? fun x => x.1 == e).map (·.2)
theorem farL_mem {e : Ev} {d : Int} (h : farL L e = some d) : (e, d) ∈ L := by
  unfold farL at h
  cases hf : L.find? (fun x => x.1 == e) with
  | none => rw [hf] at h; cases h
  | some x =>
    rw [hf] at h
    have h1 := List.find?_some hf
    have h2 := List.mem_of_find?_eq_some hf
    have h3 : x.2 = d := by injection h
    have h4 : x.1 = e := by simpa using h1
    rw [← h3, ← h4]
    exact h2
theorem farL_of (hn : (keysL L).Nodup) {e : Ev} {d : Int} (h : (e, d) ∈ L) : farL L e = some d := by
  unfold farL
  cases hf : L.find? (fun x => x.1 == e) with
  | none =>
    have := List.find?_eq_none.mp hf _ h
    simp at this
  | some x =>
    have h1 := List.find?_some hf
    have h2 := List.mem_of_find?_eq_some hf
    have h4 : x.1 = e := by simpa using h1
    have : x = (e, d) := by
      unfold keysL at hn
      exact nd_fst hn h2 h h4
    rw [this]
    rfl
theorem farL_none {e : Ev} : farL L e = none ↔ e ∉ keysL L := by
  unfold farL keysL
  rw [Option.map_eq_none_iff, List.find?_eq_none]
  constructor
  · intro h m
    obtain ⟨x, hx, e'⟩ := List.mem_map.mp m
    exact h x hx (by simpa using e')
  · intro h x hx e'
    exact h (List.mem_map.mpr ⟨x, hx, by simpa using e'⟩)
/-- the pairs (distance, event) that may come next -/
def nxQ (L : List (Ev × Int)) (af : Ev → List Ev) (bar : Bar) (e : Ev) : List Qe := ((af e).filter fun a => decide (a ∈ keysL L ∧ bar ≠ some (e, a))).map fun a => ((farL L a).getD 0, a)
def stepR (L : List (Ev × Int)) (af : Ev → List Ev) (bar : Bar) (r : List Ev) : Option (List Ev) := match nxQ L af bar (r.getLast?.getD (0, 0)) with
  | [] => none
  | x :: l => some (r ++ [(minQ x l).2])
def rowR (L : List (Ev × Int)) (af : Ev → List Ev) (bar : Bar) (first goal : Ev) : Nat → Option (List Ev)
  | 0 => some [first]
  | n + 1 => match rowR L af bar first goal n with
    | none => none
    | some r => if n = 0 ∨ r.getLast? ≠ some goal then stepR L af bar r else some r
variable {af : Ev → List Ev} {first : Ev}
theorem rowR_succ {n : Nat} {r : List Ev} (h : rowR L af bar first goal n = some r) : rowR L af bar first goal (n + 1) = if n = 0 ∨ r.getLast? ≠ some goal then stepR L af bar r else some r := by
  show (match rowR L af bar first goal n with
    | none => none
    | some r => if n = 0 ∨ r.getLast? ≠ some goal then stepR L af bar r else some r) = _
  rw [h]
/-- how the walk stands after n steps that were taken -/
structure BwOk (evs : List Ev) (L : List (Ev × Int)) (af : Ev → List Ev) (bar : Bar) (first goal : Ev) (n : Nat) (r : List Ev) : Prop where
  at_ : rowR L af bar first goal n = some r
  len : r.length = n + 1
  sub : ∀ x ∈ r, x ∈ evs
  dist : n = 0 ∨ ∃ e d, r.getLast? = some e ∧ (e, d) ∈ L ∧ d + (n : Int) ≤ (evs.length : Int)
theorem BwOk.last {n : Nat} {r : List Ev} (h : BwOk evs L af bar first goal n r) : ∃ e, r.getLast? = some e ∧ e ∈ evs := by
  have := h.len
  cases hr : r.getLast? with
  | none => rw [List.getLast?_eq_none_iff] at hr; rw [hr] at this; simp at this
  | some e => exact ⟨e, rfl, h.sub e (List.mem_of_getLast? hr)⟩
theorem BwOk.next {n : Nat} {r : List Ev} (h : BwOk evs L af bar first goal n r) {e : Ev} (he : r.getLast? = some e) (hc : n = 0 ∨ e ≠ goal) {x : Qe} {l : List Qe} (hx : nxQ L af bar e = x :: l) : rowR L af bar first goal (n + 1) = some (r ++ [(minQ x l).2]) := by
  rw [rowR_succ h.at_, if_pos (by rcases hc with z | z; exact .inl z; exact .inr (by rw [he]; intro y; injection y with y; exact z y))]
  unfold stepR
  rw [he]
  show (match nxQ L af bar e with
    | [] => Option.none
    | x :: l => Option.some (r ++ [(minQ x l).2])) = _
  rw [hx]
theorem nxQ_mem {e : Ev} {q : Qe} (h : q ∈ nxQ L af bar e) : q.2 ∈ af e ∧ (q.2, q.1) ∈ L ∧ bar ≠ some (e, q.2) := by
  obtain ⟨a, m, rfl⟩ := List.mem_map.mp h
  obtain ⟨m1, m2⟩ := List.mem_filter.mp m
  obtain ⟨m2, m3⟩ := of_decide_eq_true m2
  refine ⟨m1, ?_, m3⟩
  cases hf : farL L a with
  | none => exact absurd m2 (farL_none.mp hf)
  | some d => exact farL_mem hf
/-- the walk goes on: it comes nearer -/
theorem BwOk.step (hq : BqOk evs bf bar goal L) (hL : L.length ≤ evs.length) (hba : ∀ x e, x ∈ bf e → e ∈ af x) {n : Nat} {r : List Ev} (h : BwOk evs L af bar first goal n r) {e : Ev} (he : r.getLast? = some e) (hc : n = 0 ∨ e ≠ goal) {x : Qe} {l : List Qe} (hx : nxQ L af bar e = x :: l) : BwOk evs L af bar first goal (n + 1) (r ++ [(minQ x l).2]) := by
  have hm : minQ x l ∈ nxQ L af bar e := by rw [hx]; exact minQ_mem l x
  obtain ⟨m1, m2, m3⟩ := nxQ_mem hm
  have hin : (minQ x l).2 ∈ evs := hq.sub _ (List.mem_map.mpr ⟨_, m2, rfl⟩)
  refine ⟨h.next he hc hx, by rw [List.length_append, h.len]; rfl, fun y m => ?_, .inr ⟨(minQ x l).2, (minQ x l).1, List.getLast?_concat, m2, ?_⟩⟩
  · rcases List.mem_append.mp m with m | m
    · exact h.sub y m
    · rw [List.mem_singleton.mp m]; exact hin
  · rcases h.dist with z | ⟨e', d, e1, e2, e3⟩
    · subst z
      have := hq.bd _ m2
      simp at this
      push_cast
      omega
    · rw [he] at e1
      injection e1 with e1
      subst e1
      rcases hc with z | z
      · subst z
        have := hq.bd _ m2
        simp at this
        push_cast
        omega
      · rcases hq.pos _ e2 with y | ⟨y, b, y1, y2, y3⟩
        · injection y with y _; exact absurd y z
        · have hb : b ∈ af e := hba _ _ y2
          have hbn : (d - 1, b) ∈ nxQ L af bar e := by
            refine List.mem_map.mpr ⟨b, List.mem_filter.mpr ⟨hb, decide_eq_true ⟨List.mem_map.mpr ⟨_, y1, rfl⟩, y3⟩⟩, ?_⟩
            rw [farL_of hq.nd y1]
            rfl
          rw [hx] at hbn
          have := minQ_le l x _ hbn
          simp at this
          push_cast
          omega
/-- while it goes on there is room -/
theorem BwOk.room (hq : BqOk evs bf bar goal L) (hne : evs ≠ []) {n : Nat} {r : List Ev} (h : BwOk evs L af bar first goal n r) {e : Ev} (he : r.getLast? = some e) (hc : n = 0 ∨ e ≠ goal) : n < evs.length := by
  have hp : 0 < evs.length := List.length_pos_iff.mpr hne
  rcases h.dist with z | ⟨e', d, e1, e2, e3⟩
  · omega
  · rcases hc with z | z
    · omega
    · rw [he] at e1
      injection e1 with e1
      subst e1
      rcases hq.pos _ e2 with y | ⟨y, _⟩
      · injection y with y _; exact absurd y z
      · simp at y; omega
end
end Lw
set_option Elab.async false
set_option linter.all false
set_option maxRecDepth 100000
set_option maxHeartbeats 4000000
/-! a dict with pairs as keys and ints as values -/
namespace Lw
open PySem PySem.Spec L2
open Evl (Ex)
/-- {k: v} with one pair as a key -/
def tDispT (tk tv : TE) : TE := fun σ H Q => ∀ p, H p = none → tPairs [(tk, tv)] σ (upd H p (.dT [])) fun ps H2 => H2 p = some (.dT []) ∧ ∃ (b : Addr) (k : List Key) (x : V), ps = [(.ref b, x)] ∧ H2 b = some (.tup (k.map kV)) ∧ Q (.ref p) (upd H2 p (.dT [(k, x)]))
section
variable {prog : Program} {w : World} {Kk : Type} [DecidableEq Kk] {knd : HeapKind prog w Kk} {A : Around} {E : Value → Shared → Prop} {s : Shared}
theorem wpAny_Dict_exactH {env : Env} {keys : List (Option Expr)} {values : List Expr} {pos : Pos} {pairs : List (Sem Value × Sem Value)} {Q : Value → Shared → Prop} (hu : knd.room A)
    (hshape : (evalEachOpt keys env).zip ((evalEach values env).map fun v => do let x ← v; standAt pos; pure x) = pairs.map fun p => (some p.1, p.2)) (h0 : pairs ≠ []) (hlen : pairs.length ≤ 15)
    (h : wpAny (model prog w) A (evalPairs pairs) (fun vs s₁ => ∃ ps, CarriesH knd s₁.heap vs ps ∧ s₁.heap.DictOfH knd s.heap.objs.size [] ∧
      ∀ h' tk, h'.DictOfH knd s.heap.objs.size (storedAllH [] ps) → Heap.SameBut s.heap.objs.size s₁.heap h' → Q (.ref s.heap.objs.size) { s₁ with heap := h', toks := tk }) E
      { s with heap := s.heap.push { cls := .type "dict", data := .dict #[] } }) :
    wpAny (model prog w) A (eval (.Dict keys values pos) env) Q E s := by
  rw [arm_eval_Dict, hshape, dictDisplay_pairs pairs h0 (by omega)]
  exact wpAny_bind (wpAny_standAt (wpAny_bind (wpAny_subDictH (knd := knd) (Q := fun d s' => wpAny (model prog w) A (pure (Value.ref d)) Q E s') hu hlen
    (wpAny_mono h (fun vs s₁ h₁ => by obtain ⟨ps, hc, hm, hq⟩ := h₁; exact ⟨ps, hc, hm, fun h' tk a b => wpAny_pure (hq h' tk a b)⟩) fun _ _ e => e))))
end
theorem pe_dispT {X : Cx} {pos : Pos} {k v : Expr} {tk tv : TE} (hu : X.A.units + 1 < cLine) (hk : PE X k tk) (hv : PE X v tv) : PE X (.Dict [some k] [v] pos) (tDispT tk tv) := by
  have h : PPs X pos [some k] [v] [(tk, tv)] := pps_cons hk hv pps_nil
  refine ⟨fun pins s σ H Q I q => ?_⟩
  have hn := I.hok.fresh (Nat.le_refl s.heap.objs.size)
  have I1 := I.laid (a := s.heap.objs.size) (o := .dT []) (h' := s.heap.push { cls := .type "dict", data := .dict #[] }) (t' := s.toks) (fun _ _ q => Heap.get?_push_of_some _ q) (Nat.le_refl _) (dt_empty s.heap I.big)
  refine wpAny_Dict_exactH (knd := tupleKind (mixKind X.prog X.w)) (show X.A.units < cLine by omega) (zip_pairTrees _ _ _ _ rfl rfl) (by simp [pairTrees]) (by simp [pairTrees]) (thn (h.run pins _ σ _ _ I1 (q _ hn)) fun ws s2 ⟨ps, H2, I2, rel, e, b, kk, x, ep, hb, q2⟩ => ?_)
  subst ep
  cases rel with
  | @cons _ pr _ _ r1 r2 =>
    cases r2
    obtain ⟨u, z⟩ := pr
    obtain ⟨ru, rz⟩ := r1
    cases (show u = Value.ref b from ru)
    obtain ⟨zz, hd, xs0, r0, dd⟩ := dt_of I2.hok e
    cases r0
    refine ⟨[(kk, b, z)], ⟨rfl, rfl, key_of I2.hok hb, trivial⟩, dd, fun h' tk dd' hs => ⟨.ref s.heap.objs.size, _, ?_, rfl, q2⟩⟩
    obtain ⟨o, es, ep, ho, h2, h3, h4, _, h5⟩ := dd'
    refine d_write I2 (by rw [e]; exact True.intro) hs ⟨o, ho⟩ ⟨by rw [sizeLine_eq]; simp, hd, [(kk, b, z)], .cons ⟨rfl, ?_, rz⟩ .nil, o, es, ep, ho, h2, h3, h4, h5⟩
    rw [upd_ne (ne_of hb e (fun z => nomatch z))]
    exact hb
/-! as knowledge -/
/-- the dict's pairs -/
def kvD (L : List (Ev × Int)) : List (List Key × V) := L.map fun x => (evK x.1, V.int x.2)
end Lw
set_option Elab.async false
set_option linter.all false
set_option maxRecDepth 100000
set_option maxHeartbeats 4000000
/-! a cell and a draw, told exactly -/
namespace Lw
open PySem PySem.Spec L2
open Evl (Ex)
end Lw
set_option Elab.async false
set_option linter.all false
set_option maxRecDepth 100000
set_option maxHeartbeats 4000000
/-! trains one by one: such orders are alive -/
namespace Lw
open PySem PySem.Spec L2
open Evl (Ex)
end Lw
set_option Elab.async false
set_option linter.all false
set_option maxRecDepth 100000
set_option maxHeartbeats 4000000
/-! a model run to its end; is it alive -/
namespace Lw
open PySem PySem.Spec L2
open Evl (Ex)
end Lw
set_option Elab.async false
set_option linter.all false
set_option maxRecDepth 100000
set_option maxHeartbeats 4000000
/-! trains one by one, told exactly; orders that are alive -/
namespace Lw
open PySem PySem.Spec L2
open Evl (Ex)
abbrev plOf (t : Trk) (ts : List Trn) (ord : List (List Int)) (trn : List (Int × Int)) : Pl := ⟨t.lens, t.parks, t.joints, ts, ord, srtP trn⟩
def WayR (t : Trk) (r : List Int) : Prop := r.length ≤ t.lens.length + 1 ∧ 1 ≤ r.length ∧ (∀ b ∈ r, 0 ≤ b ∧ b < (t.lens.length : Int)) ∧ isWayB (t.lens.length : Int) t.joints r = true
structure WldOk (t : Trk) (ts : List Trn) (trn : List (Int × Int)) : Prop where
  trk : TrkW t
  pos : 1 ≤ t.lens.length
  len : t.lens.length ≤ 6
  n5 : ts.length ≤ 12
  way : ∀ (i : Nat) (u : Trn), ts[i]? = some u → WayR t u.way ∧ 1 ≤ u.len
  trn : TrnOk t.parks ts trn
theorem WldOk.pl {t : Trk} {ts : List Trn} {trn : List (Int × Int)} (h : WldOk t ts trn) {ord : List (List Int)} (ho : OrdOk t.lens.length t.parks ts ord) : PlOk (plOf t ts ord trn) := plok_draw (by have := h.len; omega) h.n5 (fun i u hu => by have := (h.way i u hu).1; exact ⟨by have := this.1; have := h.len; omega, this.2.2.2⟩) ho h.trn
theorem WldOk.nil {t : Trk} {ts : List Trn} {trn : List (Int × Int)} (h : WldOk t ts trn) : WldOk t ts [] := ⟨h.trk, h.pos, h.len, h.n5, h.way, .nil⟩
end Lw
set_option Elab.async false
set_option linter.all false
set_option maxRecDepth 100000
set_option maxHeartbeats 4000000
/-! who holds a block: a plain one at most one train -/
namespace Lw
open PySem PySem.Spec L2
open Evl (Ex)
theorem row_at {pl : Pl} {b a : Nat} {f : Int} (h : (pl.row b)[a]? = some f) : ∃ row, pl.ord[b]? = some row ∧ row[a]? = some f := by
  cases hb : pl.ord[b]? with
  | some row =>
    have er : pl.row b = row := by unfold Pl.row; rw [List.getD_eq_getElem?_getD, hb]; rfl
    rw [er] at h
    exact ⟨row, rfl, h⟩
  | none =>
    unfold Pl.row at h
    rw [List.getD_eq_getElem?_getD, hb] at h
    simp at h
/-- the one before has gone -/
theorem Rch.gone {pl : Pl} {trn : List (Int × Int)} (h : PlD pl trn) {d : List Int} (hR : Rch pl (zerosD pl) d) : ∀ (b a i j : Nat), (pl.row b)[a]? = some (i : Int) → (pl.row b)[a + 1]? = some (j : Int) → 2 * stepAt pl.ts j (b : Int) < dnAt d j → (pl.bnd i (b : Int)).2 < dnAt d i := by
  have hz : DnOk pl (zerosD pl) := .zero
  induction hR with
  | refl =>
    intro b a i j _ hj hlt
    obtain ⟨row, hr, hj'⟩ := row_at hj
    have := (h.ok.ord.mem hr).mp (List.mem_of_getElem? hj')
    rw [dnAt_zeros] at hlt
    omega
  | @step d k hr hk hm ih =>
    intro b a i j hi hj hlt
    have hd := hr.ok hz
    have kl : k < d.length := by rw [hd.1]; exact hk
    have up : ∀ x, dnAt d x ≤ dnAt (stepD d k) x := fun x => by
      rw [dnAt_step kl]
      split
      · rename_i e; subst e; omega
      · exact Int.le_refl _
    by_cases old : 2 * stepAt pl.ts j (b : Int) < dnAt d j
    · have := ih b a i j hi hj old
      have := up i
      omega
    · have ejk : j = k := by
        rw [dnAt_step kl] at hlt
        split at hlt
        · assumption
        · exact absurd hlt old
      subst ejk
      rw [dnAt_step kl, if_pos rfl] at hlt
      have en : dnAt d j = 2 * stepAt pl.ts j (b : Int) := by omega
      obtain ⟨row, hrow, hj'⟩ := row_at hj
      obtain ⟨hp, _, hs0⟩ := (h.ok.ord.mem hrow).mp (List.mem_of_getElem? hj')
      obtain ⟨t, ht⟩ : ∃ t, pl.ts[j]? = some t := ⟨_, List.getElem?_eq_getElem hk⟩
      rw [stepAt_eq ht] at hs0 en
      have hg := stepOf_get hs0
      have hl := stepOf_lt t.way (b : Int)
      obtain ⟨_, hall⟩ := mayB_iff.mp hm
      have hmem : ((i : Int), (pl.bnd i (b : Int)).2) ∈ pl.side false ((j : Int), dnAt d j) := by
        refine (bef_iff h ht (by omega) (by omega)).mpr (.inr (.inr ⟨(stepOf t.way (b : Int)).toNat, b, a, (i : Int), t, by omega, ht, hg, hi, hj, ?_⟩))
        rw [Int.toNat_natCast]
      have := hall _ hmem
      have e2 : ((i : Int), (pl.bnd i (b : Int)).2).1.toNat = i := by simp
      rw [e2] at this
      have := up i
      show (pl.bnd i (b : Int)).2 < _
      have h3 : ((i : Int), (pl.bnd i (b : Int)).2).2 = (pl.bnd i (b : Int)).2 := rfl
      omega
end Lw
set_option Elab.async false
set_option linter.all false
set_option maxRecDepth 100000
set_option maxHeartbeats 4000000
/-! a drive: an object with two lists that change -/
namespace Lw
open PySem PySem.Spec L2
open Evl (Ex)
structure DFl (fs : List (Str × V)) (p c m : Addr) : Prop where
  plan : fs.lookup ("plan" : Str) = some (.ref p)
  counts : fs.lookup ("_counts" : Str) = some (.ref c)
  made : fs.lookup ("_made" : Str) = some (.ref m)
  no : ∀ f : Str, f ≠ "plan" → f ≠ "_counts" → f ≠ "_made" → fs.lookup f = none
def DrvA (CD : Addr) (G : Hp) (x p c m : Addr) : Prop := ∃ dx fs, G x = some (.ins CD dx fs) ∧ DFl fs p c m
section
variable {K : PySem.W.Frag} {C CT CP CD CN A_NoTrain : Addr} {σ : L2.St} {G G' H H' H1 H2 : Hp} {D : Ends} {ta tb tc tk tn te ti tl to : TE} {P : VP} {x p c m : Addr} {d : Bool → Addr} {pl : Pl} {dn : List Int}
theorem DrvA.ex (h : DrvA CD G x p c m) (e : Ex G G') : DrvA CD G' x p c m := by
  obtain ⟨dx, fs, h1, h2⟩ := h
  exact ⟨dx, fs, e _ _ h1, h2⟩
theorem DrvA.meth (h : DrvA CD G x p c m) {f : Str} (hm : f ≠ "plan" ∧ f ≠ "_counts" ∧ f ≠ "_made") : ∃ dx fs, G x = some (.ins CD dx fs) ∧ fs.lookup f = none := by
  obtain ⟨dx, fs, h1, h2⟩ := h
  exact ⟨dx, fs, h1, h2.no f hm.1 hm.2.1 hm.2.2⟩
end
end Lw
set_option Elab.async false
set_option linter.all false
set_option maxRecDepth 100000
set_option maxHeartbeats 4000000
/-! what the law asks of a moment -/
namespace Lw
open PySem PySem.Spec L2
open Evl (Ex)
end Lw
set_option Elab.async false
set_option linter.all false
set_option maxRecDepth 100000
set_option maxHeartbeats 4000000
/-! a step in a test; a property; is not -/
namespace Lw
open PySem PySem.Spec L2
open Evl (Ex)
section
variable {K : PySem.W.Frag} {C CT CP CD CN A_NoTrain : Addr} {σ : L2.St} {G G' H H' H1 H2 : Hp} {D : Ends} {ta tb tc tk tn te ti tl to : TE} {tu tw : TS} {P : VP} {x p c m q : Addr} {d : Bool → Addr} {pl : Pl} {dn md : List Int}
theorem DrvA.drop {a : Addr} {xs : List V} (h : DrvA CD G x p c m) (ha : G a = some (.lst xs)) : DrvA CD (dropA G a) x p c m := by
  obtain ⟨dx, fs, h1, h2⟩ := h
  exact ⟨dx, fs, by rw [dropA_ne fun z => by rw [z, ha] at h1; cases h1]; exact h1, h2⟩
end
end Lw
set_option Elab.async false
set_option linter.all false
set_option maxRecDepth 100000
set_option maxHeartbeats 4000000
/-! list(o), o of an own class whose __iter__ hands out a list's iterator -/
namespace Lw
open PySem PySem.Spec PyProof.Rows L2
open GNX (itObj itEnd)
end Lw
set_option Elab.async false
set_option linter.all false
set_option maxRecDepth 100000
set_option maxHeartbeats 4000000
/-! steps of a driving: what can go wrong, told -/
namespace Lw
open PySem PySem.Spec L2
open Evl (Ex)
end Lw
set_option Elab.async false
set_option linter.all false
set_option maxRecDepth 100000
set_option maxHeartbeats 4000000
/-! errors whose context is known, and own defs called inside a clause -/
namespace Lw
open PySem L2
open PySem.Spec PyProof.Rows
open Evl (Ex)
end Lw
set_option Elab.async false
set_option linter.all false
set_option maxRecDepth 100000
set_option maxHeartbeats 4000000
/-! several lists that change, known and unknown -/
namespace Lw
open PySem L2
open Evl (Ex)
section
variable {L : List Addr} {G G0 H : Hp} {a : Addr}
theorem DrvA.ne {CD x p c m : Addr} {xs : List V} (h : DrvA CD G x p c m) (ha : G a = some (.lst xs)) : x ≠ a := fun z => by
  obtain ⟨dx, fs, h1, h2⟩ := h
  rw [z, ha] at h1
  cases h1
end
end Lw
set_option Elab.async false
set_option linter.all false
set_option maxRecDepth 100000
set_option maxHeartbeats 4000000
/-! the nearest chain, on the heap -/
namespace Lw
open PySem PySem.Spec L2
open Evl (Ex)
/-- what is new becomes known -/
def newK (G H H' : Hp) : Hp := fun b => match H b with
  | none => H' b
  | some _ => G b
section
variable {G H H' H1 H2 Ha Hb : Hp} {a d q : Addr} {K : PySem.W.Frag} {L : List (Ev × Int)}
theorem newK_new (h : H a = none) : newK G H H' a = H' a := by unfold newK; rw [h]
theorem newK_old {o : HO} (h : H a = some o) : newK G H H' a = G a := by unfold newK; rw [h]
theorem gr_newK (hG : Ex G H) (e : Ex H H') : Gr G (newK G H H') H H' := ⟨fun b o h => by
  rw [newK_old (hG _ _ h)]; exact h, fun b o h => by
  cases hb : H b with
  | none => rw [newK_new hb] at h; exact h
  | some u => rw [newK_old hb] at h; exact e _ _ (hG _ _ h), e, fun b h g => by
  cases hb : H b with
  | none => exact absurd hb h
  | some u => rw [newK_old hb]; exact g⟩
/-- all pairs that stand go on standing -/
def TK (H H' : Hp) : Prop := ∀ p t, H p = some (.tup t) → H' p = some (.tup t)
theorem TK.of (e : Ex H H') : TK H H' := fun p t h => e _ _ h
theorem TK.trans (a : TK H H1) (b : TK H1 H2) : TK H H2 := fun p t h => b p t (a p t h)
theorem TK.put {o o' : HO} (h : H a = some o) (ho : ∀ t, o ≠ .tup t) : TK H (upd H a o') := fun p t hp => by
  have : p ≠ a := fun z => by rw [z, h] at hp; injection hp with hp; exact ho t hp
  rw [upd_ne this]; exact hp
theorem EvL.tk {vs : List V} {es : List Ev} (h : EvL H vs es) (t : TK H H') : EvL H' vs es := ⟨h.1, fun i v e h1 h2 => by
  obtain ⟨p, e1, e2⟩ := h.2 i v e h1 h2
  exact ⟨p, e1, t p _ e2⟩⟩
/-- left and reached while they grow -/
structure BSt (G H H' : Hp) (d q : Addr) (L : List (Ev × Int)) : Prop where
  ex : Ex G H'
  hp : Ex H H'
  dd : H' d = some (.dT (kvD L))
  qq : ∃ bs : List V, H' q = some (.lst bs) ∧ EvL H' bs (keysL L)
theorem BSt.up (h : BSt G H H1 d q L) (e : Ex H1 H2) : BSt G H H2 d q L := by
  obtain ⟨bs, h1, h2⟩ := h.qq
  exact ⟨h.ex.trans e, h.hp.trans e, e _ _ h.dd, bs, e _ _ h1, h2.ex e⟩
theorem BSt.know {G1 : Hp} (h : BSt G H H1 d q L) (e : Ex G1 H1) : BSt G1 H H1 d q L := ⟨e, h.hp, h.dd, h.qq⟩
theorem BSt.add {bs : List V} {p : Addr} {b : Ev} {z : Int} (h : BSt G H H1 d q L) (gd : G d = none) (gq : G q = none) (hd : H d = none) (hq : H q = none) (hbs : H1 q = some (.lst bs)) (hE : EvL H1 bs (keysL L)) (hp : H1 p = some (.tup [.int b.1, .int b.2])) (e1 : Ex H1 Ha) (e2 : Ex (upd Ha d (.dT (kvD (L ++ [(b, z)])))) Hb) : BSt G H (upd Hb q (.lst (bs ++ [.ref p]))) d q (L ++ [(b, z)]) ∧ TK H1 (upd Hb q (.lst (bs ++ [.ref p]))) := by
  have dq : d ≠ q := fun y => by have := h.dd; rw [y, hbs] at this; cases this
  have hda := e1 _ _ h.dd
  have hqa : upd Ha d (.dT (kvD (L ++ [(b, z)]))) q = some (.lst bs) := by rw [upd_ne (Ne.symm dq)]; exact e1 _ _ hbs
  have t1 : TK H1 (upd Hb q (.lst (bs ++ [.ref p]))) := ((TK.of e1).trans (TK.put hda fun t y => nomatch y)).trans ((TK.of e2).trans (TK.put (e2 _ _ hqa) fun t y => nomatch y))
  refine ⟨⟨ex_off ((ex_off (h.ex.trans e1) gd).trans e2) gq, ex_off ((ex_off (h.hp.trans e1) hd).trans e2) hq, ?_, bs ++ [.ref p], upd_same, ?_⟩, t1⟩
  · rw [upd_ne dq]
    exact e2 _ _ upd_same
  · unfold keysL
    rw [List.map_append]
    exact (hE.tk t1).snoc (t1 p _ hp)
variable {σ : L2.St} {D : Ends} {te : TE} {i j : Nat} {e : Ev} {p : Addr}
end
end Lw
set_option Elab.async false
set_option linter.all false
set_option maxRecDepth 100000
set_option maxHeartbeats 4000000
/-! single lines -/
namespace Lw
open PySem PySem.Spec L2
open Evl (Ex)
structure Ln where
  ys : List Int
  ss : List Int
  es : List Int
  ws : List Int
/-- what is wrong with a line: its shape, or a length -/
def Ln.all (p : Ln) : List Int := p.ys ++ (p.ss ++ (p.es ++ (p.ws ++ [])))
def Ln.shape (p : Ln) : Bool := decide (1 ≤ p.ss.length ∧ p.ss.length ≤ 6 ∧ p.ys.length = p.ss.length + 1)
def Ln.few (p : Ln) : Bool := decide (p.es.length ≤ 4 ∧ p.ws.length ≤ 4)
def Ln.err (p : Ln) : Option (Option Int) := if p.shape = false then some none else if p.few = false then some none else match p.all.find? (fun z => decide (z < 1)) with
  | some z => some (some z)
  | none => none
theorem Ln.ok_shape {p : Ln} (h : p.err = none) : 1 ≤ p.ss.length ∧ p.ss.length ≤ 6 ∧ p.ys.length = p.ss.length + 1 ∧ p.es.length ≤ 4 ∧ p.ws.length ≤ 4 ∧ ∀ z ∈ p.all, 1 ≤ z := by
  unfold Ln.err at h
  split at h
  · cases h
  · rename_i h1
    split at h
    · cases h
    · rename_i h2
      cases hf : p.all.find? (fun z => decide (z < 1)) with
      | some z => rw [hf] at h; cases h
      | none =>
        have a1 : p.shape = true := by cases hh : p.shape with
          | true => rfl
          | false => exact absurd hh h1
        have a2 : p.few = true := by cases hh : p.few with
          | true => rfl
          | false => exact absurd hh h2
        have b1 := of_decide_eq_true a1
        have b2 := of_decide_eq_true a2
        refine ⟨b1.1, b1.2.1, b1.2.2, b2.1, b2.2, fun z m => ?_⟩
        have := List.find?_eq_none.mp hf z m
        simp at this
        omega
/-- the lengths of all blocks, from the west -/
def Ln.lensN (p : Ln) (n : Nat) : List Int := p.ys.take 1 ++ ((p.ss.zip (p.ys.drop 1)).take n).flatMap fun q => [q.1, q.2]
def Ln.lens (p : Ln) : List Int := p.lensN p.ss.length
theorem Ln.lensN_succ {p : Ln} {n : Nat} {s y : Int} (hs : p.ss[n]? = some s) (hy : (p.ys.drop 1)[n]? = some y) : p.lensN (n + 1) = p.lensN n ++ [s, y] := by
  have hz : (p.ss.zip (p.ys.drop 1))[n]? = some (s, y) := List.getElem?_zip_eq_some.mpr ⟨hs, hy⟩
  unfold Ln.lensN
  rw [show (p.ss.zip (p.ys.drop 1)).take (n + 1) = (p.ss.zip (p.ys.drop 1)).take n ++ [(s, y)] by rw [List.take_succ, hz, Option.toList_some], List.flatMap_append, List.append_assoc]
  rfl
theorem fm_len {l : List (Int × Int)} : (l.flatMap fun q => [q.1, q.2]).length = 2 * l.length := by
  induction l with
  | nil => rfl
  | cons a l ih => rw [List.flatMap_cons, List.length_append, ih, List.length_cons]; simp; omega
theorem Ln.lensN_len {p : Ln} (h1 : 1 ≤ p.ys.length) {n : Nat} (h : n ≤ p.ss.length) (hy : p.ys.length = p.ss.length + 1) : (p.lensN n).length = 2 * n + 1 := by
  unfold Ln.lensN
  rw [List.length_append, fm_len, List.length_take, List.length_take, List.length_zip, List.length_drop]
  omega
theorem Ln.lens_pos {p : Ln} (h : p.err = none) : ∀ z ∈ p.lens, 1 ≤ z := fun z m => by
  obtain ⟨_, _, _, _, _, hall⟩ := Ln.ok_shape h
  unfold Ln.lens Ln.lensN at m
  rcases List.mem_append.mp m with m | m
  · exact hall z (List.mem_append_left _ (List.mem_of_mem_take m))
  · obtain ⟨q, hq, hz⟩ := List.mem_flatMap.mp m
    have hq' := List.of_mem_zip (List.mem_of_mem_take (a := q) hq)
    simp at hz
    rcases hz with rfl | rfl
    · exact hall _ (List.mem_append_right _ (List.mem_append_left _ hq'.1))
    · exact hall _ (List.mem_append_left _ (List.mem_of_mem_drop hq'.2))
structure LinCl (K : PySem.W.Frag) (CL : Addr) : Prop where
  cl : Cls K CL
  sections : NoAttr K CL "sections"
  eastbound : NoAttr K CL "eastbound"
  westbound : NoAttr K CL "westbound"
  rooms : NoAttr K CL "_rooms"
  east : NoAttr K CL "_east"
  west : NoAttr K CL "_west"
  layout : NoAttr K CL "layout"
structure LnFl (fs : List (Str × V)) (l r e w : Addr) (m ne nw : Int) : Prop where
  sections : fs.lookup ("sections" : Str) = some (.int m)
  eastbound : fs.lookup ("eastbound" : Str) = some (.int ne)
  westbound : fs.lookup ("westbound" : Str) = some (.int nw)
  rooms : fs.lookup ("_rooms" : Str) = some (.ref r)
  east : fs.lookup ("_east" : Str) = some (.ref e)
  west : fs.lookup ("_west" : Str) = some (.ref w)
  layout : fs.lookup ("layout" : Str) = some (.ref l)
  no : ∀ m : Str, m ≠ "sections" → m ≠ "eastbound" → m ≠ "westbound" → m ≠ "_rooms" → m ≠ "_east" → m ≠ "_west" → m ≠ "layout" → fs.lookup m = none
def lnfs (l r e w : Addr) (m ne nw : Int) : List (Str × V) := putF "layout" (.ref l) (putF "_west" (.ref w) (putF "_east" (.ref e) (putF "_rooms" (.ref r) (putF "westbound" (.int nw) (putF "eastbound" (.int ne) (putF "sections" (.int m) []))))))
theorem lnfl7 {l r e w : Addr} {m ne nw : Int} : LnFl (lnfs l r e w m ne nw) l r e w m ne nw := by
  unfold lnfs
  refine ⟨?_, ?_, ?_, ?_, ?_, ?_, ?_, fun m h1 h2 h3 h4 h5 h6 h7 => ?_⟩
  · repeat (rw [lookup_putF]; first | rw [if_pos rfl] | rw [if_neg (by decide +kernel)])
  · repeat (rw [lookup_putF]; first | rw [if_pos rfl] | rw [if_neg (by decide +kernel)])
  · repeat (rw [lookup_putF]; first | rw [if_pos rfl] | rw [if_neg (by decide +kernel)])
  · repeat (rw [lookup_putF]; first | rw [if_pos rfl] | rw [if_neg (by decide +kernel)])
  · repeat (rw [lookup_putF]; first | rw [if_pos rfl] | rw [if_neg (by decide +kernel)])
  · repeat (rw [lookup_putF]; first | rw [if_pos rfl] | rw [if_neg (by decide +kernel)])
  · repeat (rw [lookup_putF]; first | rw [if_pos rfl] | rw [if_neg (by decide +kernel)])
  · rw [lookup_putF, if_neg h7, lookup_putF, if_neg h6, lookup_putF, if_neg h5, lookup_putF, if_neg h4, lookup_putF, if_neg h3, lookup_putF, if_neg h2, lookup_putF, if_neg h1]
    rfl
/-- a line on the heap -/
def LinC (K : PySem.W.Frag) (C CL : Addr) (G : Hp) (x : Addr) (p : Ln) : Prop := ∃ dx fs l r e w, G x = some (.ins CL dx fs) ∧ LnFl fs l r e w (p.ss.length : Int) (p.es.length : Int) (p.ws.length : Int) ∧ LayL K C G l p.lens (ev2 (2 * p.ss.length + 1)) (lineJ (2 * p.ss.length)) ∧ G r = some (.lst (p.ys.map V.int)) ∧ G e = some (.lst (p.es.map V.int)) ∧ G w = some (.lst (p.ws.map V.int))
section
variable {K : PySem.W.Frag} {C CL : Addr} {G G' H H1 H2 : Hp} {x : Addr} {p : Ln} {σ : L2.St} {D : Ends} {ta tv : TE} {P : VP}
theorem LinC.ex (h : LinC K C CL G x p) (e : Ex G G') : LinC K C CL G' x p := by
  obtain ⟨dx, fs, l, r, e1, w, h1, h2, h3, h4, h5, h6⟩ := h
  exact ⟨dx, fs, l, r, e1, w, e _ _ h1, h2, h3.ex e, e _ _ h4, e _ _ h5, e _ _ h6⟩
/-- a field of an object that is being made; all else is known -/
theorem st_fldW {dx : Addr} {fs : List (Str × V)} {f : Str} {n : Nat} (hx : H x = some (.ins C dx fs)) (hv : EF tv σ (outH H x) P) (ho : EF ta σ H (XV (.ref x))) (hc : Cls K C) (hn : NoAttr K C f) (hl : fs.length ≤ n) (h9 : n < 1000)
    (k : ∀ y K2 H2, Ex (outH H x) K2 → Ex K2 (outH H2 x) → P y K2 → H2 x = some (.ins C dx (putF f y fs)) → (putF f y fs).length ≤ n + 1 → D.nx σ H2) : sFld K ta tv f D σ H :=
  st_fldK (G := outH H x) (Kn := outH H x) (S := outH H x) (.same (Ex.refl _) out_ex) hx out_self out_self hv ho hc hn hl h9 fun y K2 H2 g e kx2 hx2 l p => k y K2 H2 e (ex_out g.ok kx2) p hx2 l
end
end Lw
set_option Elab.async false
set_option linter.all false
set_option maxRecDepth 100000
set_option maxHeartbeats 4000000
/-! steps taken back, the run -/
namespace Lw
open PySem L2
open Evl (Ex)
/-- these steps, one after another, lead from the beginning to dn -/
inductive Runs (pl : Pl) : List Int → List Int → Prop
  | nil : Runs pl [] (zerosD pl)
  | snoc {md dn : List Int} {j : Nat} : Runs pl md dn → j < pl.ts.length → mayB pl dn j = true → Runs pl (md ++ [(j : Int)]) (stepD dn j)
section
variable {pl : Pl} {md dn d0 : List Int} {z : Int}
theorem Runs.ok (h : Runs pl md dn) : DnOk pl dn := by
  induction h with
  | nil => exact .zero
  | snoc _ hj hm ih => exact ih.step hj hm
theorem Runs.sum (h : Runs pl md dn) : (md.length : Int) = dn.sum := by
  induction h with
  | nil => rw [show (zerosD pl).sum = 0 from zeros_sum]; rfl
  | snoc r hj hm ih =>
    have hl : _ = pl.ts.length := r.ok.1
    rw [sum_stepD (by rw [hl]; exact hj), List.length_append, List.length_singleton]
    omega
theorem Runs.gst (h : Runs pl md dn) : ∀ n, Runs pl (md ++ (gst pl dn n).2) (gst pl dn n).1
  | 0 => by
    show Runs pl (md ++ []) dn
    rw [List.append_nil]
    exact h
  | n + 1 => by
    have ih := h.gst n
    cases hl : leastF pl (Lw.gst pl dn n).1 with
    | none => rw [gst_none hl 1]; exact ih
    | some i =>
      obtain ⟨hi, hm⟩ := leastF_at hl
      rw [gst_succ hl]
      show Runs pl (md ++ ((Lw.gst pl dn n).2 ++ [(i : Int)])) _
      rw [← List.append_assoc]
      exact ih.snoc hi hm
/-- how the run ends -/
def runE (pl : Pl) (dn : List Int) : List Int := (gst pl dn (totOf pl.ts).toNat).1
theorem Runs.run (h : Runs pl md dn) : Runs pl (md ++ runG pl dn) (runE pl dn) := h.gst _
end
/-! ### errors without fields -/
section
variable {X : Cx} {C : Addr} {bmB : List Value} {B newId initId : String}
/-- C() -/
theorem pmk_own0 {x : Str} {p pos : Pos} (F : PySem.ExcBaseFacts B newId initId bmB) (q : PySem.W.excIn X.K C bmB newId = true) (gC : X.mg x = some (.ref C)) (kC : PySem.W.keepIn X.K (.ref C) = true) (r : Raises X (.ref C)) (hg : Gl X x)
    (hdb : (x == ("__debug__" : Str)) = false := by decide) : PMk X (.Call (.Name x p) [] [] pos) (fun _ H Q => Q (.ref C) none H) := by
  intro pins s st H Q I h
  apply wpAny_Call_Name_kw
  refine ld_glob I hg gC (PySem.W.callWith_K0 I.kIn kC ?_) hdb
  change wpAny _ _ (call (.ref C) []) _ _ _
  rcases exc_obj I.kIn q with ⟨_, _, _, _, _, _, _, _, _, _, _, _, _, _, _, _, _, cC, cN, ni, T⟩
  exact PySem.wpAny_call_exc_subT F T cC cN ni (fun h' e hm => mk_of I hm r h (I.hok.gone hm.new)) (Nat.zero_le _)
end
end Lw
set_option Elab.async false
set_option linter.all false
set_option maxRecDepth 100000
set_option maxHeartbeats 4000000
/-! walking over an own class whose __iter__ hands out a list's iterator -/
namespace Lw
open PySem PySem.Spec PyProof.Rows L2
open Evl (Ex)
open ItX (ItlF dropH dropH_same dropH_ne dropH_upd inv_drop inv_fp turn_listF)
end Lw
set_option Elab.async false
set_option linter.all false
set_option maxRecDepth 100000
set_option maxHeartbeats 4000000
/-! a step taken back, the rest of a driving -/
namespace Lw
open PySem L2
open Evl (Ex)
/-- an own error class without fields that is made without arguments -/
structure Err0 (K : PySem.W.Frag) (mg : Str → Option Value) (x : Str) (C : Addr) : Prop where
  ex : PySem.W.excIn K C [.type "ValueError", .type "Exception", .type "BaseException", .type "object"] "ValueError.__new__" = true
  gl : mg x = some (.ref C)
  kp : PySem.W.keepIn K (.ref C) = true
  sub : PySem.W.subIn K (.ref C) (.type "BaseException") = some true
  ty : PySem.W.typeIn K (.ref C) = some (.type "type")
end Lw
set_option Elab.async false
set_option linter.all false
set_option maxRecDepth 100000
set_option maxHeartbeats 4000000
/-! lines asked -/
namespace Lw
open PySem PySem.Spec L2
open Evl (Ex)
/-- the trains of a line -/
def Ln.trains (p : Ln) : List Trn := (p.es.map fun z => ⟨rgI (2 * p.ss.length + 1), z⟩) ++ p.ws.map fun z => ⟨(rgI (2 * p.ss.length + 1)).reverse, z⟩
def Ln.meet (p : Ln) (i j k : Nat) : Bool := decide (k = 0 ∨ k = p.ss.length ∨ min (p.es.getD i 0) (p.ws.getD j 0) ≤ p.ys.getD k 0)
/-- a new list of trains -/
def TrL (K : PySem.W.Frag) (CT : Addr) (G0 : Hp) (ts : List Trn) : VP := fun v G => ∃ (q : Addr) (ps : List Addr), v = .ref q ∧ G0 q = none ∧ G q = some (.lst (ps.map V.ref)) ∧ TrsIn K CT G ps ts
section
variable {K : PySem.W.Frag} {C CT CL CB CE : Addr} {G G' G0 H H1 H2 : Hp} {x : Addr} {p : Ln} {σ : L2.St} {D : Ends} {ta tb te tl tv : TE} {P : VP}
theorem mo_TrL {ts : List Trn} : Mo (TrL K CT G0 ts) := fun v G1 G2 e ⟨q, ps, h1, h2, h3, h4⟩ => ⟨q, ps, h1, h2, e _ _ h3, h4.ex e⟩
theorem TrL.low {G1 : Hp} {ts : List Trn} {v : V} (h : TrL K CT G1 ts v G) (e : Ex G0 G1) : TrL K CT G0 ts v G := by
  obtain ⟨q, ps, h1, h2, h3⟩ := h
  exact ⟨q, ps, h1, none_back e h2, h3⟩
theorem TrsIn.app {ps qs : List Addr} {ts us : List Trn} (h1 : TrsIn K CT G ps ts) (h2 : TrsIn K CT G qs us) : TrsIn K CT G (ps ++ qs) (ts ++ us) := ⟨by rw [List.length_append, List.length_append, h1.1, h2.1], fun i p t a b => by
  by_cases hi : i < ps.length
  · rw [List.getElem?_append_left hi] at a
    rw [List.getElem?_append_left (by rw [← h1.1]; exact hi)] at b
    exact h1.2 i p t a b
  · rw [List.getElem?_append_right (by omega)] at a
    rw [List.getElem?_append_right (by rw [← h1.1]; omega), ← h1.1] at b
    exact h2.2 _ p t a b⟩
theorem TrsIn.nil : TrsIn K CT G [] [] := ⟨rfl, fun i p t a => by simp at a⟩
theorem TrsIn.one {q : Addr} {t : Trn} (h : TrAtT K CT G q t.way t.len) : TrsIn K CT G [q] [t] := ⟨rfl, fun i p u a b => by
  cases i with
  | zero => cases a; cases b; exact h
  | succ i => simp at a⟩
/-- [Train(.., length=z) for z in ns] -/
theorem el_trn {a : Addr} {ns : List Int} {way : List Int} {j : Nat} (h : EF tl σ G (XV (.ref a))) (hs : SqL K G a (ns.map V.int)) (hz : ns.length ≤ 40000) (hw : ∀ x, wipe ((wipe σ [j]).set j (some x)) [j] = wipe σ [j])
    (he : ∀ (z : Int) G', Ex G G' → z ∈ ns → EF te ((wipe σ [j]).set j (some (.int z))) G' (fun v G2 => ∃ x, v = .ref x ∧ TrAtT K CT G2 x way z)) : EF (tLc (iList K tl) (gName j) tYes te [j]) σ G (TrL K CT G (ns.map fun z => ⟨way, z⟩)) := by
  refine ef_lcL (xs := ns.map V.int) (fun i acc G' => ∃ ps : List Addr, acc = ps.map V.ref ∧ TrsIn K CT G' ps ((ns.take i).map fun z => ⟨way, z⟩)) (h.imp fun v G' e pv => ⟨a, pv, Evl.ex_l e hs⟩) (by rw [List.length_map]; exact hz) hw (fun _ _ => ⟨[], rfl, TrsIn.nil⟩) (fun i x acc G' e hi hI => ?_) fun q acc G' g0 g1 eg _ hI => ?_
  · obtain ⟨ps, rfl, hT⟩ := hI
    rw [List.getElem?_map] at hi
    obtain ⟨z, hz, rfl⟩ := Option.map_eq_some_iff.mp hi
    refine ec_all ((he z G' e (List.mem_of_getElem? hz)).imp fun v G2 e2 ⟨y, ev, hy⟩ => ⟨ps ++ [y], by rw [ev, List.map_append]; rfl, ?_⟩)
    rw [show ns.take (i + 1) = ns.take i ++ [z] by rw [List.take_succ, hz, Option.toList_some], List.map_append]
    exact (hT.ex e2).app (TrsIn.one hy)
  · obtain ⟨ps, rfl, hT⟩ := hI
    rw [List.length_map, List.take_length] at hT
    exact ⟨q, ps, rfl, g0, upd_same, hT.ex (ex_in g1)⟩
theorem lt_cat {ts us : List Trn} {Ga Gb : Hp} (ha : EF ta σ G (TrL K CT Ga ts)) (hb : EF tb σ G (TrL K CT Gb us)) (hz : ts.length + us.length ≤ 1000) : EF (tOp rCat ta tb) σ G (TrL K CT G (ts ++ us)) :=
  ef_op mo_TrL mo_TrL ha hb fun x y G' e ⟨a, ps, ex, _, h1, d1⟩ ⟨b, qs, ey, _, h2, d2⟩ => fun H e2 Q k => by
    refine ⟨a, b, ps.map V.ref, qs.map V.ref, ex, ey, e2 _ _ h1, e2 _ _ h2, ?_, fun p hp => k _ _ _ (.new e2 hp) ⟨p, ps ++ qs, rfl, none_back (e.trans e2) hp, by rw [upd_same, List.map_append], ?_⟩⟩
    · rw [List.length_map, List.length_map, d1.1, d2.1]
      exact Nat.le_trans hz (by decide)
    · have e3 := ex_in (o := .lst (ps.map V.ref ++ qs.map V.ref)) (none_back e2 hp)
      exact (d1.ex e3).app (d2.ex e3)
/-- z in (a, b) -/
theorem ex_inP2 {z a b : Int} {tc : TE} (ha : EF ta σ G (XV (.int z))) (hb : EF tb σ G (XV (.int a))) (hc : EF tc σ G (XV (.int b))) : EF (tOp (rIn K false) ta (tTup (tCons tb (tCons tc tNil)))) σ G (XV (.bl (decide (z = a ∨ z = b)))) := by
  have ht : EF (tTup (tCons tb (tCons tc tNil))) σ G (fun v G' => ∃ q : Addr, v = .ref q ∧ G' q = some (.tup [.int a, .int b])) := ef_tup (ea_two mo_XV mo_XV hb hc) (fun vs G' ⟨x, y, ev, _⟩ => by rw [ev]; simp) fun q vs G' _ _ _ ⟨x, y, ev, hx, hy⟩ => ⟨q, rfl, by rw [upd_same, ev, show x = _ from hx, show y = _ from hy]⟩
  refine ef_op mo_XV (fun v G1 G2 e ⟨q, h1, h2⟩ => ⟨q, h1, e _ _ h2⟩) ha ht fun u v G' e hu ⟨q, ev, hq⟩ => fun H e2 Q k => ?_
  cases (show u = _ from hu)
  refine ⟨q, [.int a, .int b], ev, .inr (Evl.ex_t e2 (Evl.st_of hq)), rfl, rfl, ?_⟩
  have : (if false = true then !inV (V.int z) [V.int a, V.int b] else inV (V.int z) [V.int a, V.int b]) = decide (z = a ∨ z = b) := by
    rw [if_neg (by simp)]
    simp [inV, eqV_int]
    rw [Bool.eq_iff_iff]
    simp
    constructor
    · rintro (h | h)
      · exact .inl h.symm
      · exact .inr h.symm
    · rintro (h | h)
      · exact .inl h.symm
      · exact .inr h.symm
  rw [this]
  exact k _ G' H (.refl e2) rfl
/-! fields -/
theorem LinC.meth (h : LinC K C CL G x p) {m : Str} (hm : m ≠ "sections" ∧ m ≠ "eastbound" ∧ m ≠ "westbound" ∧ m ≠ "_rooms" ∧ m ≠ "_east" ∧ m ≠ "_west" ∧ m ≠ "layout") : ∃ dx fs, G x = some (.ins CL dx fs) ∧ fs.lookup m = none := by
  obtain ⟨dx, fs, l, r, e, w, h1, h2, _⟩ := h
  obtain ⟨m1, m2, m3, m4, m5, m6, m7⟩ := hm
  exact ⟨dx, fs, h1, h2.no m m1 m2 m3 m4 m5 m6 m7⟩
theorem ex_lnS (T : LinCl K CL) (h : LinC K C CL G x p) (ho : EF ta σ G (XV (.ref x))) : EF (tFld K ta "sections") σ G (XV (.int (p.ss.length : Int))) := by
  obtain ⟨dx, fs, l, r, e, w, h1, h2, _⟩ := h
  exact ex_fld ho h1 T.cl T.sections h2.sections
theorem ex_lnE (T : LinCl K CL) (h : LinC K C CL G x p) (ho : EF ta σ G (XV (.ref x))) : EF (tFld K ta "eastbound") σ G (XV (.int (p.es.length : Int))) := by
  obtain ⟨dx, fs, l, r, e, w, h1, h2, _⟩ := h
  exact ex_fld ho h1 T.cl T.eastbound h2.eastbound
theorem ex_lnW (T : LinCl K CL) (h : LinC K C CL G x p) (ho : EF ta σ G (XV (.ref x))) : EF (tFld K ta "westbound") σ G (XV (.int (p.ws.length : Int))) := by
  obtain ⟨dx, fs, l, r, e, w, h1, h2, _⟩ := h
  exact ex_fld ho h1 T.cl T.westbound h2.westbound
/-- the layout and the lists of a line -/
theorem LinC.parts (T : LinCl K CL) (h : LinC K C CL G x p) : ∃ l r e w : Addr, LayL K C G l p.lens (ev2 (2 * p.ss.length + 1)) (lineJ (2 * p.ss.length)) ∧ G r = some (.lst (p.ys.map V.int)) ∧ G e = some (.lst (p.es.map V.int)) ∧ G w = some (.lst (p.ws.map V.int)) ∧ ∀ {σ : L2.St} {G' : Hp} {ta : TE}, Ex G G' → EF ta σ G' (XV (.ref x)) → EF (tFld K ta "layout") σ G' (XV (.ref l)) ∧ EF (tFld K ta "_rooms") σ G' (XV (.ref r)) ∧ EF (tFld K ta "_east") σ G' (XV (.ref e)) ∧ EF (tFld K ta "_west") σ G' (XV (.ref w)) := by
  obtain ⟨dx, fs, l, r, e, w, h1, h2, h3, h4, h5, h6⟩ := h
  exact ⟨l, r, e, w, h3, h4, h5, h6, fun e' ho => ⟨ex_fld ho (e' _ _ h1) T.cl T.layout h2.layout, ex_fld ho (e' _ _ h1) T.cl T.rooms h2.rooms, ex_fld ho (e' _ _ h1) T.cl T.east h2.east, ex_fld ho (e' _ _ h1) T.cl T.west h2.west⟩⟩
def spTrsL (K : PySem.W.Frag) (C CT CL : Addr) : Sp := fun vs H Q _ => ∃ (G : Hp) (x : Addr) (p : Ln), Ex G H ∧ vs = [.ref x] ∧ LinC K C CL G x p ∧ p.err = none ∧ Ret G H (TrL K CT G p.trains) Q
def spMtL (K : PySem.W.Frag) (C CL : Addr) : Sp := fun vs H Q _ => ∃ (G : Hp) (x : Addr) (p : Ln) (i j k : Nat), Ex G H ∧ vs = [.ref x, .int (i : Int), .int (j : Int), .int (k : Int)] ∧ LinC K C CL G x p ∧ i < p.es.length ∧ j < p.ws.length ∧ k < p.ys.length ∧ Ret G H (XV (.bl (p.meet i j k))) Q
theorem sa_mtL {i j k : Nat} (h : LinC K C CL G x p) (hi : i < p.es.length) (hj : j < p.ws.length) (hk : k < p.ys.length) : SA (spMtL K C CL) [.ref x, .int (i : Int), .int (j : Int), .int (k : Int)] G (XV (.bl (p.meet i j k))) := fun H e Q _ q => ⟨G, x, p, i, j, k, e, rfl, h, hi, hj, hk, q⟩
end
end Lw
set_option Elab.async false
set_option linter.all false
set_option maxRecDepth 100000
set_option maxHeartbeats 4000000
/-! lists of lists that change, in the heap alone -/
namespace Lw
open PySem PySem.Spec L2
open Evl (Ex)
structure PtSt (H0 H : Hp) (pa : Addr) (rs : List Addr) (nss : List (List Int)) : Prop where
  ex : Ex H0 H
  pn : H0 pa = none
  pl : H pa = some (.lst (rs.map V.ref))
  len : rs.length = nss.length
  nd : rs.Nodup
  ni : pa ∉ rs
  rn : ∀ r ∈ rs, H0 r = none
  at_ : ∀ (i : Nat) (r : Addr) (ns : List Int), rs[i]? = some r → nss[i]? = some ns → H r = some (.lst (ns.map V.int))
section
variable {H0 H H1 H2 G : Hp} {pa r : Addr} {rs : List Addr} {nss : List (List Int)} {K : PySem.W.Frag}
theorem PtSt.up (h : PtSt H0 H pa rs nss) (e : Ex H H1) : PtSt H0 H1 pa rs nss := ⟨h.ex.trans e, h.pn, e _ _ h.pl, h.len, h.nd, h.ni, h.rn, fun i r ns a b => e _ _ (h.at_ i r ns a b)⟩
/-- a row changes -/
theorem PtSt.put (h : PtSt H0 H pa rs nss) {i : Nat} {ns : List Int} (hr : rs[i]? = some r) (e : Ex H H1) : PtSt H0 (upd H1 r (.lst (ns.map V.int))) pa rs (nss.set i ns) := by
  have hm := List.mem_of_getElem? hr
  have hp : pa ≠ r := fun z => h.ni (z ▸ hm)
  refine ⟨ex_off (h.ex.trans e) (h.rn r hm), h.pn, by rw [upd_ne hp]; exact e _ _ h.pl, by rw [List.length_set]; exact h.len, h.nd, h.ni, h.rn, fun j q ms a b => ?_⟩
  by_cases z : j = i
  · subst z
    rw [hr] at a
    injection a with a
    subst a
    rw [upd_same]
    rw [List.getElem?_set_self (by rw [← h.len]; exact (List.getElem?_eq_some_iff.mp hr).1)] at b
    injection b with b
    rw [b]
  · have hq : q ≠ r := fun y => by
      subst y
      obtain ⟨a1, a2⟩ := List.getElem?_eq_some_iff.mp a
      obtain ⟨b1, b2⟩ := List.getElem?_eq_some_iff.mp hr
      exact z ((List.getElem_inj h.nd).mp (a2.trans b2.symm))
    rw [upd_ne hq]
    rw [List.getElem?_set_ne (fun y => z y.symm)] at b
    exact e _ _ (h.at_ j q ms a b)
/-- a new row is appended -/
theorem PtSt.app (h : PtSt H0 H pa rs nss) {ns : List Int} (e : Ex H H1) (hr0 : H r = none) (hr : H1 r = some (.lst (ns.map V.int))) : PtSt H0 (upd H1 pa (.lst ((rs ++ [r]).map V.ref))) pa (rs ++ [r]) (nss ++ [ns]) := by
  have hrp : r ≠ pa := fun z => by rw [z, h.pl] at hr0; cases hr0
  have hrr : r ∉ rs := fun m => by
    obtain ⟨i, hi⟩ := List.getElem?_of_mem m
    obtain ⟨ms, hms⟩ : ∃ ms, nss[i]? = some ms := ⟨_, List.getElem?_eq_getElem (by rw [← h.len]; exact (List.getElem?_eq_some_iff.mp hi).1)⟩
    rw [h.at_ i r ms hi hms] at hr0
    cases hr0
  refine ⟨ex_off (h.ex.trans e) h.pn, h.pn, upd_same, by rw [List.length_append, List.length_append, h.len]; rfl, List.nodup_append.mpr ⟨h.nd, by simp, fun x m y m' z => by rw [List.mem_singleton.mp m'] at z; exact hrr (z ▸ m)⟩, fun m => ?_, fun q m => ?_, fun j q ms a b => ?_⟩
  · rcases List.mem_append.mp m with m | m
    · exact h.ni m
    · exact hrp (List.mem_singleton.mp m).symm
  · rcases List.mem_append.mp m with m | m
    · exact h.rn q m
    · rw [List.mem_singleton.mp m]; exact none_back h.ex hr0
  · by_cases hj : j < rs.length
    · rw [List.getElem?_append_left hj] at a
      rw [List.getElem?_append_left (by rw [← h.len]; exact hj)] at b
      have hq : q ≠ pa := fun z => h.ni (z ▸ List.mem_of_getElem? a)
      rw [upd_ne hq]
      exact e _ _ (h.at_ j q ms a b)
    · rw [List.getElem?_append_right (by omega)] at a
      rw [List.getElem?_append_right (by rw [← h.len]; omega), ← h.len] at b
      have e0 : j - rs.length = 0 := by
        have := (List.getElem?_eq_some_iff.mp a).1
        simp at this
        omega
      rw [e0] at a b
      have a' : r = q := by simpa using a
      have b' : ns = ms := by simpa using b
      subst a' b'
      rw [upd_ne hrp]
      exact hr
theorem dpa_rows {K : PySem.W.Frag} {G : Hp} : ∀ {rs : List Addr} {nss : List (List Int)}, rs.length = nss.length → (∀ (i : Nat) (r : Addr) (ns : List Int), rs[i]? = some r → nss[i]? = some ns → G r = some (.lst (ns.map V.int))) → DpAll K G (rs.map V.ref) (nss.map dI)
  | [], [], _, _ => .nil
  | r :: rs, ns :: nss, hl, h => .cons (dp_mkL (h 0 r ns rfl rfl) (dpa_ints _)) (dpa_rows (by simpa using hl) fun i r ns a b => h (i + 1) r ns a b)
  | [], _ :: _, hl, _ => by simp at hl
  | _ :: _, [], hl, _ => by simp at hl
/-- all of it becomes known -/
theorem PtSt.dp (h : PtSt H0 H pa rs nss) : Dp K (newK G H0 H) (.ref pa) (.list (nss.map dI)) := dp_mkL (by rw [newK_new h.pn]; exact h.pl) (dpa_rows h.len fun i r ns a b => by rw [newK_new (h.rn r (List.mem_of_getElem? a))]; exact h.at_ i r ns a b)
theorem PtSt.dpH (h : PtSt H0 H pa rs nss) : Dp K H (.ref pa) (.list (nss.map dI)) := dp_mkL h.pl (dpa_rows h.len h.at_)
end
/-- the four rows of a line -/
def Ln.rows (p : Ln) : List (List Int) := [p.ys, p.ss, p.es, p.ws]
def Ln.of (l : List (List Int)) : Ln := ⟨l.getD 0 [], l.getD 1 [], l.getD 2 [], l.getD 3 []⟩
def dLn (p : Ln) : PyData := .list (p.rows.map dI)
theorem ei_menuL {K : PySem.W.Frag} {σ : L2.St} {G : Hp} {ta : TA} {tb : TE} {ns : List Int} {m : Int} {p : Int → Prop} (ha : EA ta σ G fun vs _ => vs = ns.map V.int) (hl : (ns.length : Int) = m) (hl2 : ns.length ≤ 100) (hb : EF tb σ G (IV fun z => 0 ≤ z ∧ z < m)) (hp : ∀ y ∈ ns, p y) : EF (tOp (rIxL K) (tLst ta) tb) σ G (IV p) :=
  ed_ixL (q := fun z => 0 ≤ z ∧ z < m) ((el_lst (ds := ns.map PyData.int) ha (by rw [List.length_map]; omega) fun vs G' _ ev => by rw [ev]; exact dpa_ints _).ls_dv) hb fun z hz => by
    have hj : z.toNat < ns.length := by omega
    exact ⟨z.toNat, .int ns[z.toNat], by omega, by rw [List.getElem?_map, List.getElem?_eq_getElem hj]; rfl, fun v G' d => by cases d; exact ⟨_, rfl, hp _ (List.getElem_mem hj)⟩⟩
theorem PtSt.nil {H0 H : Hp} {pa : Addr} (e : Ex H0 H) (h0 : H0 pa = none) (h : H pa = some (.lst [])) : PtSt H0 H pa [] [] := ⟨e, h0, h, rfl, List.nodup_nil, (fun m => nomatch m), (fun r m => nomatch m), fun i r ns a => by simp at a⟩
end Lw
set_option Elab.async false
set_option linter.all false
set_option maxRecDepth 100000
set_option maxHeartbeats 4000000
/-! rows of a line that stand; what is due -/
namespace Lw
open PySem PySem.Spec L2
open Evl (Ex)
def LnR (G : Hp) (v : V) (p : Ln) : Prop := ∃ pa a b c d : Addr, v = .ref pa ∧ G pa = some (.lst [.ref a, .ref b, .ref c, .ref d]) ∧ G a = some (.lst (p.ys.map V.int)) ∧ G b = some (.lst (p.ss.map V.int)) ∧ G c = some (.lst (p.es.map V.int)) ∧ G d = some (.lst (p.ws.map V.int))
section
variable {K : PySem.W.Frag} {σ : L2.St} {G G' H H' H0 : Hp} {v : V} {p : Ln} {ta tb te : TE} {pa : Addr} {rs : List Addr} {nss : List (List Int)}
theorem LnR.ex (h : LnR G v p) (e : Ex G G') : LnR G' v p := by
  obtain ⟨pa, a, b, c, d, h0, h1, h2, h3, h4, h5⟩ := h
  exact ⟨pa, a, b, c, d, h0, e _ _ h1, e _ _ h2, e _ _ h3, e _ _ h4, e _ _ h5⟩
theorem LnR.dp (h : LnR G v p) : Dp K G v (dLn p) := by
  obtain ⟨pa, a, b, c, d, rfl, h1, h2, h3, h4, h5⟩ := h
  exact dp_mkL h1 (.cons (dp_mkL h2 (dpa_ints _)) (.cons (dp_mkL h3 (dpa_ints _)) (.cons (dp_mkL h4 (dpa_ints _)) (.cons (dp_mkL h5 (dpa_ints _)) .nil))))
theorem LnR.parts (h : LnR G v p) : ∃ a b c d : Addr, G a = some (.lst (p.ys.map V.int)) ∧ G b = some (.lst (p.ss.map V.int)) ∧ G c = some (.lst (p.es.map V.int)) ∧ G d = some (.lst (p.ws.map V.int)) ∧ ∀ {K : PySem.W.Frag} {σ : L2.St} {G' : Hp} {i : Nat}, Ex G G' → σ[i]? = some (some v) →
    EF (tOp (rIxL K) (tVar i) (tC (.int 0))) σ G' (XV (.ref a)) ∧ EF (tOp (rIxL K) (tVar i) (tC (.int 1))) σ G' (XV (.ref b)) ∧ EF (tOp (rIxL K) (tVar i) (tC (.int 2))) σ G' (XV (.ref c)) ∧ EF (tOp (rIxL K) (tVar i) (tC (.int 3))) σ G' (XV (.ref d)) := by
  obtain ⟨pa, a, b, c, d, rfl, h1, h2, h3, h4, h5⟩ := h
  exact ⟨a, b, c, d, h2, h3, h4, h5, fun e hv => ⟨ex_ixL (i := 0) (ex_var hv) ex_c rfl (Evl.sq_of (e _ _ h1)) rfl, ex_ixL (i := 1) (ex_var hv) ex_c rfl (Evl.sq_of (e _ _ h1)) rfl, ex_ixL (i := 2) (ex_var hv) ex_c rfl (Evl.sq_of (e _ _ h1)) rfl, ex_ixL (i := 3) (ex_var hv) ex_c rfl (Evl.sq_of (e _ _ h1)) rfl⟩⟩
/-- the length of a row that stands -/
theorem ex_lenR {a : Addr} {l : List Int} (ha : EF ta σ G (XV (.ref a))) (h : G a = some (.lst (l.map V.int))) : EF (tCB (Evl.rLenS K) (tCons ta tNil)) σ G (XV (.int (l.length : Int))) := (ex_lenL ha (Evl.sq_of h)).imp fun v _ _ p => by rw [show v = _ from p, List.length_map]; rfl
end
end Lw
set_option Elab.async false
set_option linter.all false
set_option maxRecDepth 100000
set_option maxHeartbeats 4000000
/-! the law's own order of the lengths -/
namespace Lw
open PySem PySem.Spec L2
open Evl (Ex)
end Lw
set_option Elab.async false
set_option linter.all false
set_option maxRecDepth 100000
set_option maxHeartbeats 4000000
/-! lines asked by the law -/
namespace Lw
open PySem PySem.Spec L2
open Evl (Ex)
section
variable {K : PySem.W.Frag} {C CT CLn : Addr} {σ : L2.St} {G G' H H' H0 : Hp} {v : V} {p : Ln} {ta tb te to : TE} {a : Addr} {tk : TA} {P : VP}
theorem ex_isl {xs : List V} (ha : EF ta σ G (XV (.ref a))) (hs : G a = some (.lst xs)) : EF (tCB (rIsi K) (tCons ta (tCons (tC (.ty "list")) tNil))) σ G (BV (· = true)) :=
  ef_cb (ea_x ha (ea_x ex_c ea_nil)) fun vs G' e ev => fun H e2 Q q => ⟨.ref a, .ty "list", .type "list", .type "list", true, ev, .ty "list", .base (.lst ((e.trans e2) _ _ hs)), kit_ty (by decide +kernel), q _ G' H (.refl e2) ⟨true, rfl, rfl⟩⟩
theorem ef_same {n : Nat} {d : PyData} (ha : EF ta σ G (DV K d)) (hb : EF tb σ G (DV K d)) (ho : Okb n d) : EF (tCall (spSameB K n) [] E0 (tCons ta (tCons tb tNil))) σ G (XV (.bl true)) := ef_call (R := fun vs G' => ∃ x y, vs = [x, y] ∧ Dp K G' x d ∧ Dp K G' y d) (ea_two mo_DV mo_DV ha hb) fun vs G' e ⟨x, y, ev, hx, hy⟩ => by
  subst ev
  exact sa_sameB hx hy ho
/-- if not _law_same(x, y): never -/
theorem et_same {n : Nat} {d : PyData} (ha : EF ta σ G (DV K d)) (hb : EF tb σ G (DV K d)) (ho : Okb n d) : ET (tNot (tB (tCall (spSameB K n) [] E0 (tCons ta (tCons tb tNil))))) σ G (· = false) := et_not (et_B (EF.bl (ef_same ha hb ho) rfl))
end
end Lw
set_option Elab.async false
set_option linter.all false
set_option maxRecDepth 100000
set_option maxHeartbeats 4000000
/-! rows copied, a loop over a list while other things change, lines turned round -/
namespace Lw
open PySem PySem.Spec L2
open Evl (Ex)
section
variable {K : PySem.W.Frag} {C CT CLn : Addr} {σ : L2.St} {G G' H H' H0 : Hp} {D : Ends} {v : V} {p : Ln} {tl ta tb te to : TE} {a : Addr}
theorem st_forW {xs : List V} {g : TG} {tu : TS} (h : EF tl σ H (XV (.ref a))) (W : Nat → L2.St → Hp → Prop) (h0 : ∀ H', Ex H H' → W 0 σ H') (hl : ∀ i σ' H', W i σ' H' → SqL K H' a xs)
    (hs : ∀ i x σ' H', xs[i]? = some x → W i σ' H' → g x σ' H' fun σ2 H2 => tu { D with nx := W (i + 1), ct := W (i + 1), bk := D.nx } σ2 H2) (hd : ∀ σ' H', W xs.length σ' H' → D.nx σ' H') : tFor (iList K tl) g tu D σ H :=
  h H (Ex.refl H) _ fun v G1 H1 g1 e => ⟨a, e, ⟨xs, hl 0 σ H1 (h0 H1 g1.hp)⟩, for_list W (h0 H1 g1.hp) (fun i σ' H' _ w => hl i σ' H' w) (fun i x σ' H' hi w => hs i x σ' H' hi w) fun σ' H' w => hd σ' H' w⟩
def RsI (G G' : Hp) (rs : List Addr) (nss : List (List Int)) : Prop := rs.length = nss.length ∧ rs.Nodup ∧ (∀ r ∈ rs, G r = none) ∧ ∀ (i : Nat) (r : Addr) (ns : List Int), rs[i]? = some r → nss[i]? = some ns → G' r = some (.lst (ns.map V.int))
theorem RsI.ex (h : RsI G0 G rs nss) (e : Ex G G') : RsI G0 G' rs nss := ⟨h.1, h.2.1, h.2.2.1, fun i r ns a b => e _ _ (h.2.2.2 i r ns a b)⟩
theorem RsI.in_ {rs : List Addr} {nss : List (List Int)} (h : RsI G0 G rs nss) {r : Addr} (m : r ∈ rs) : ∃ o, G r = some o := by
  obtain ⟨i, hi⟩ := List.getElem?_of_mem m
  exact ⟨_, h.2.2.2 i r _ hi (List.getElem?_eq_getElem (by rw [← h.1]; exact (List.getElem?_eq_some_iff.mp hi).1))⟩
theorem RsI.app {rs : List Addr} {nss : List (List Int)} {r : Addr} {ns : List Int} (h : RsI G0 G rs nss) (e : Ex G G') (h0 : G0 r = none) (hr0 : G r = none) (hr : G' r = some (.lst (ns.map V.int))) : RsI G0 G' (rs ++ [r]) (nss ++ [ns]) := by
  have hrr : r ∉ rs := fun m => by
    obtain ⟨o, ho⟩ := h.in_ m
    rw [hr0] at ho; cases ho
  refine ⟨by rw [List.length_append, List.length_append, h.1]; rfl, List.nodup_append.mpr ⟨h.2.1, by simp, fun x m y m' z => by rw [List.mem_singleton.mp m'] at z; exact hrr (z ▸ m)⟩, fun q m => ?_, fun j q ms a b => ?_⟩
  · rcases List.mem_append.mp m with m | m
    · exact h.2.2.1 q m
    · rw [List.mem_singleton.mp m]; exact h0
  · by_cases hj : j < rs.length
    · rw [List.getElem?_append_left hj] at a
      rw [List.getElem?_append_left (by rw [← h.1]; exact hj)] at b
      exact e _ _ (h.2.2.2 j q ms a b)
    · rw [List.getElem?_append_right (by omega)] at a
      rw [List.getElem?_append_right (by rw [← h.1]; omega), ← h.1] at b
      have e0 : j - rs.length = 0 := by
        have := (List.getElem?_eq_some_iff.mp a).1
        simp at this
        omega
      rw [e0] at a b
      have a' : r = q := by simpa using a
      have b' : ns = ms := by simpa using b
      subst a' b'
      exact hr
/-- [list(row) for row in rows] -/
theorem el_rowsC {rs0 : List Addr} {nss : List (List Int)} {j : Nat} (h : EF tl σ G (XV (.ref a))) (hs : G a = some (.lst (rs0.map V.ref))) (hr : rs0.length = nss.length) (hn : nss.length ≤ 100) (hat : ∀ (i : Nat) (r : Addr) (ns : List Int), rs0[i]? = some r → nss[i]? = some ns → G r = some (.lst (ns.map V.int)))
    (hw : ∀ x, wipe ((wipe σ [j]).set j (some x)) [j] = wipe σ [j]) (hj : ∀ x, ((wipe σ [j]).set j (some x))[j]? = some (some x)) : EF (tLc (iList K tl) (gName j) tYes (tCB (Evl.rListS K) (tCons (tVar j) tNil)) [j]) σ G (fun v G' => ∃ (pa : Addr) (rs : List Addr), v = .ref pa ∧ PtSt G G' pa rs nss) := by
  refine ef_lcL (xs := rs0.map V.ref) (fun i acc G' => ∃ rs : List Addr, acc = rs.map V.ref ∧ Ex G G' ∧ RsI G G' rs (nss.take i)) (h.imp fun v G' e pv => ⟨a, pv, Evl.sq_of (e _ _ hs)⟩) (by rw [List.length_map]; omega) hw (fun G' e => ⟨[], rfl, e, rfl, List.nodup_nil, (fun r m => nomatch m), fun i r ns a => by simp at a⟩) (fun i x acc G' e hi hI => ?_) fun q acc G' g0 g1 eg _ hI => ?_
  · obtain ⟨rs, rfl, _, hT⟩ := hI
    rw [List.getElem?_map] at hi
    obtain ⟨r0, hr0, rfl⟩ := Option.map_eq_some_iff.mp hi
    obtain ⟨ns, hns⟩ : ∃ ns, nss[i]? = some ns := ⟨_, List.getElem?_eq_getElem (by rw [← hr]; exact (List.getElem?_eq_some_iff.mp hr0).1)⟩
    refine ec_all ((ex_listV (ex_var (hj _)) (Evl.sq_of (e _ _ (hat i r0 ns hr0 hns)))).imp fun v G2 e2 ⟨y, ev, hy0, hy⟩ => ⟨rs ++ [y], by rw [ev, List.map_append]; rfl, e.trans e2, ?_⟩)
    rw [show nss.take (i + 1) = nss.take i ++ [ns] by rw [List.take_succ, hns, Option.toList_some]]
    exact hT.app e2 (none_back e hy0) hy0 hy
  · obtain ⟨rs, rfl, eG, hT⟩ := hI
    rw [List.length_map, hr, List.take_length] at hT
    have hT' := hT.ex (ex_in (o := .lst (rs.map V.ref)) g1)
    exact ⟨q, rs, rfl, eG.trans (ex_in g1), g0, upd_same, hT.1, hT.2.1, (fun m => by
      obtain ⟨o, ho⟩ := hT.in_ m
      rw [g1] at ho; cases ho), hT.2.2.1, hT'.2.2.2⟩
end
end Lw
set_option Elab.async false
set_option linter.all false
set_option maxRecDepth 100000
set_option maxHeartbeats 4000000
/-! two for's in a comprehension, in general -/
namespace Lw
open PySem PySem.Spec L2
open Evl (Ex)
end Lw
set_option Elab.async false
set_option linter.all false
set_option maxRecDepth 100000
set_option maxHeartbeats 4000000
/-! tables of single lines -/
namespace Lw
open PySem PySem.Spec L2
open Evl (Ex)
def entB (n : Nat) : Option Int → Bool
  | none => false
  | some z => decide (0 ≤ z ∧ z ≤ (n : Int))
def badR (n nw : Nat) (ns : List Int) : Option Nat := ((List.range nw).find? fun w => !entB n ns[w]?).or (if nw < ns.length then some nw else none)
def bad1 (n nw : Nat) (T : List (List Int)) (e : Nat) : Option (Nat × Nat) := match T[e]? with
  | none => some (e, 0)
  | some ns => (badR n nw ns).map fun w => (e, w)
def badTb (n ne nw : Nat) (T : List (List Int)) : Option (Nat × Nat) := ((List.range ne).findSome? (bad1 n nw T)).or (if ne < T.length then some (ne, 0) else none)
def Ln.bad (p : Ln) (T : List (List Int)) : Option (Nat × Nat) := badTb p.ss.length p.es.length p.ws.length T
structure TabOk (p : Ln) (T : List (List Int)) : Prop where
  len : T.length = p.es.length
  row : ∀ (e : Nat) (ns : List Int), T[e]? = some ns → ns.length = p.ws.length ∧ ∀ z ∈ ns, 0 ≤ z ∧ z ≤ (p.ss.length : Int)
/-- an entry of a table -/
def tat (T : List (List Int)) (i j : Nat) : Int := (T.getD i []).getD j 0
theorem tat_of {T : List (List Int)} {i j : Nat} {ns : List Int} {z : Int} (h : T[i]? = some ns) (hz : ns[j]? = some z) : tat T i j = z := by
  unfold tat
  rw [List.getD_eq_getElem?_getD, List.getD_eq_getElem?_getD, h, Option.getD_some, hz, Option.getD_some]
theorem TabOk.at_ {p : Ln} {T : List (List Int)} (h : TabOk p T) {i j : Nat} (hi : i < p.es.length) (hj : j < p.ws.length) : ∃ ns, T[i]? = some ns ∧ ns[j]? = some (tat T i j) ∧ 0 ≤ tat T i j ∧ tat T i j ≤ (p.ss.length : Int) := by
  obtain ⟨ns, hns⟩ : ∃ ns, T[i]? = some ns := ⟨_, List.getElem?_eq_getElem (by rw [h.len]; exact hi)⟩
  obtain ⟨r1, r2⟩ := h.row i ns hns
  obtain ⟨z, hz⟩ : ∃ z, ns[j]? = some z := ⟨_, List.getElem?_eq_getElem (by omega)⟩
  rw [tat_of hns hz]
  exact ⟨ns, hns, hz, r2 z (List.mem_of_getElem? hz)⟩
abbrev Flt3 := Str × Nat × Nat
/-! the law's gaps -/
end Lw
set_option Elab.async false
set_option linter.all false
set_option maxRecDepth 100000
set_option maxHeartbeats 4000000
/-! tables of single lines: promises -/
namespace Lw
open PySem PySem.Spec L2
open Evl (Ex)
def spMeetsL (K : PySem.W.Frag) : Sp := fun vs H Q _ => ∃ (G : Hp) (v : V) (p : Ln) (i j k : Nat), Ex G H ∧ vs = [v, .int (i : Int), .int (j : Int), .int (k : Int)] ∧ LnR G v p ∧ i < p.es.length ∧ j < p.ws.length ∧ k < p.ys.length ∧ Ret G H (XV (.bl (p.meet i j k))) Q
section
variable {K : PySem.W.Frag} {C CLn CB : Addr} {σ : L2.St} {G G' H : Hp} {v u : V} {p : Ln} {T : List (List Int)} {x : Addr} {i j k : Nat} {ta tb tc te : TE}
theorem sa_meetsL (h : LnR G v p) (hi : i < p.es.length) (hj : j < p.ws.length) (hk : k < p.ys.length) : SA (spMeetsL K) [v, .int (i : Int), .int (j : Int), .int (k : Int)] G (XV (.bl (p.meet i j k))) := fun H e Q _ q => ⟨G, v, p, i, j, k, e, rfl, h, hi, hj, hk, q⟩
theorem ei_menuV {ns : List Int} {m : Int} {q : Int → Prop} (ha : EF ta σ G (DV K (dI ns))) (hl : (ns.length : Int) = m) (hb : EF tb σ G (IV fun z => 0 ≤ z ∧ z < m)) (hp : ∀ y ∈ ns, q y) : EF (tOp (rIxL K) ta tb) σ G (IV q) :=
  ed_ixL (ds := ns.map PyData.int) (q := fun z => 0 ≤ z ∧ z < m) ha hb fun z hz => by
    have hj : z.toNat < ns.length := by omega
    exact ⟨z.toNat, .int ns[z.toNat], by omega, by rw [List.getElem?_map, List.getElem?_eq_getElem hj]; rfl, fun v G' d => by cases d; exact ⟨_, rfl, hp _ (List.getElem_mem hj)⟩⟩
theorem Ln.err_of {p : Ln} (h1 : 1 ≤ p.ss.length) (h2 : p.ss.length ≤ 6) (h3 : p.ys.length = p.ss.length + 1) (h4 : p.es.length ≤ 4) (h5 : p.ws.length ≤ 4) (hall : ∀ z ∈ p.all, 1 ≤ z) : p.err = none := by
  have hs : p.shape = true := decide_eq_true ⟨h1, h2, h3⟩
  have hf : p.few = true := decide_eq_true ⟨h4, h5⟩
  have ha : p.all.find? (fun z => decide (z < 1)) = none := List.find?_eq_none.mpr fun z m => by
    have := hall z m
    simp; omega
  unfold Ln.err
  rw [hs, hf, ha]
  rfl
end
end Lw
set_option Elab.async false
set_option linter.all false
set_option maxRecDepth 100000
set_option maxHeartbeats 4000000
/-! tables that change -/
namespace Lw
open PySem PySem.Spec L2
open Evl (Ex)
section
variable {K : PySem.W.Frag} {σ : L2.St} {G H H0 H1 : Hp} {D : Ends} {ta te to ti tl : TE} {q l pa : Addr} {rs : List Addr} {T : List (List Int)}
theorem PtSt.dropLast (h : PtSt H0 H pa rs T) (e : Ex H H1) : PtSt H0 (upd H1 pa (.lst (rs.map V.ref).dropLast)) pa rs.dropLast T.dropLast := by
  refine ⟨ex_off (h.ex.trans e) h.pn, h.pn, by rw [upd_same, ← List.map_dropLast], by rw [List.length_dropLast, List.length_dropLast, h.len], h.nd.sublist (List.dropLast_sublist _), fun m => h.ni (List.dropLast_subset _ m), fun r m => h.rn r (List.dropLast_subset _ m), fun i r ns a b => ?_⟩
  have hi : i < rs.length - 1 := by
    have := (List.getElem?_eq_some_iff.mp a).1
    rw [List.length_dropLast] at this
    exact this
  rw [List.getElem?_dropLast, if_pos hi] at a
  rw [List.getElem?_dropLast, if_pos (by rw [← h.len]; exact hi)] at b
  have hr : r ≠ pa := fun z => h.ni (z ▸ List.mem_of_getElem? a)
  rw [upd_ne hr]
  exact e _ _ (h.at_ i r ns a b)
end
end Lw
set_option Elab.async false
set_option linter.all false
set_option maxRecDepth 100000
set_option maxHeartbeats 4000000
/-! the order of the trains over a section, read off a table -/
namespace Lw
open PySem PySem.Spec L2
open Evl (Ex)
/-- rows that do not rise, columns that do not fall -/
structure TabM (p : Ln) (T : List (List Int)) : Prop where
  ok : TabOk p T
  e : ∀ i j, i + 1 < p.es.length → j < p.ws.length → tat T (i + 1) j ≤ tat T i j
  w : ∀ i j, i < p.es.length → j + 1 < p.ws.length → tat T i j ≤ tat T i (j + 1)
theorem TabM.es {p : Ln} {T : List (List Int)} (h : TabM p T) {i k j : Nat} (hik : i ≤ k) (hk : k < p.es.length) (hj : j < p.ws.length) : tat T k j ≤ tat T i j := by
  induction k with
  | zero => rw [show i = 0 by omega]; exact Int.le_refl _
  | succ k ih =>
    by_cases z : i = k + 1
    · rw [z]; exact Int.le_refl _
    · exact Int.le_trans (h.e k j hk hj) (ih (by omega) (by omega))
theorem TabM.ws {p : Ln} {T : List (List Int)} (h : TabM p T) {i j k : Nat} (hjk : j ≤ k) (hi : i < p.es.length) (hk : k < p.ws.length) : tat T i j ≤ tat T i k := by
  induction k with
  | zero => rw [show j = 0 by omega]; exact Int.le_refl _
  | succ k ih =>
    by_cases z : j = k + 1
    · rw [z]; exact Int.le_refl _
    · exact Int.le_trans (ih (by omega) (by omega)) (h.w i k hi hk)
def fstB (h : Nat) (T : List (List Int)) (s : Int) (x y : Nat) : Bool := if decide (x < h) = decide (y < h) then decide (x < y) else if x < h then decide (tat T x (y - h) ≥ s) else decide (tat T y (x - h) < s)
/-- how many stand before -/
def posN (h n : Nat) (T : List (List Int)) (s : Int) (x : Nat) : Nat := ((List.range n).filter fun o => fstB h T s o x).length
section
variable {p : Ln} {T : List (List Int)} {s : Int}
abbrev Ln.n (p : Ln) : Nat := p.es.length + p.ws.length
end
/-! what the program counts -/
/-- the places, and the order -/
def Ln.plcs (p : Ln) (T : List (List Int)) (s : Int) : List (Int × Int) := (List.range p.n).map fun x => ((posN p.es.length p.n T s x : Int), (x : Int))
def Ln.ordS (p : Ln) (T : List (List Int)) (s : Int) : List Int := (srtP (p.plcs T s)).map (·.2)
end Lw
set_option Elab.async false
set_option linter.all false
set_option maxRecDepth 100000
set_option maxHeartbeats 4000000
/-! orders of a table: sorted, filled in; the plan they make -/
namespace Lw
open PySem PySem.Spec L2
open Evl (Ex)
section
variable {p : Ln} {T : List (List Int)} {s : Int}
/-! faults against rising rows -/
def kinds2 (T : List (List Int)) (i j : Nat) : List Str := (if 0 < i ∧ tat T i j > tat T (i - 1) j then [("east" : Str)] else []) ++ (if 0 < j ∧ tat T i j < tat T i (j - 1) then [("west" : Str)] else [])
def rowF2 (T : List (List Int)) (nw i : Nat) : List Flt3 := (List.range nw).flatMap fun j => (kinds2 T i j).map fun k => (k, i, j)
def faults2N (T : List (List Int)) (nw n : Nat) : List Flt3 := (List.range n).flatMap (rowF2 T nw)
def Ln.faults2 (p : Ln) (T : List (List Int)) : List Flt3 := faults2N T p.ws.length p.es.length
end
/-! the orders of all blocks -/
def Ln.ordT (p : Ln) (T : List (List Int)) : List (List Int) := (List.range (2 * p.ss.length + 1)).map fun b : Nat => if b % 2 = 1 then p.ordS T (((b + 1) / 2 : Nat) : Int) else []
def Ln.pl (p : Ln) (ord : List (List Int)) : Pl := ⟨p.lens, ev2 (2 * p.ss.length + 1), lineJ (2 * p.ss.length), p.trains, ord, []⟩
end Lw
set_option Elab.async false
set_option linter.all false
set_option maxRecDepth 100000
set_option maxHeartbeats 4000000
/-! orders of a table: promises -/
namespace Lw
open PySem PySem.Spec L2
open Evl (Ex)
section
variable {K : PySem.W.Frag} {σ : L2.St} {G H H0 H1 : Hp} {D : Ends} {ta tb te to ti tl : TE} {q l pa r : Addr} {rs : List Addr} {T : List (List Int)}
theorem et_neV {x y : V} (ha : EF ta σ G (XV x)) (hb : EF tb σ G (XV y)) (hs : scal x y = true) : ET (tTest (tOp rNe ta tb)) σ G (· = !decide (x = y)) :=
  et_test (show EF _ _ _ (BV (· = !decide (x = y))) from ef_op mo_XV mo_XV ha hb fun u v G' _ pu pv => by
    cases (show u = _ from pu)
    cases (show v = _ from pv)
    exact fun H e Q k => ⟨hs, k _ G' H (.refl e) ⟨_, rfl, rfl⟩⟩)
theorem PtSt.lowH {Hb : Hp} (h : PtSt H0 H pa rs T) (e : Ex Hb H0) : PtSt Hb H pa rs T := ⟨e.trans h.ex, none_back e h.pn, h.pl, h.len, h.nd, h.ni, fun r m => none_back e (h.rn r m), h.at_⟩
end
/-! the due -/
def dueOk (p : Ln) (T : List (List Int)) : Prop := p.bad T = none ∧ p.faults2 T = []
def Ln.dueO (p : Ln) (T : List (List Int)) : PyData := match p.bad T with
  | some (e, w) => .tuple [.str "raised", .str "BadTable", .int (e : Int), .int (w : Int)]
  | none => match (p.faults2 T).head? with
    | some f => .tuple [.str "raised", .str "TableFault", .str f.1, .int (f.2.1 : Int), .int (f.2.2 : Int)]
    | none => .tuple [.str "told", .list ((p.ordT T).map dI)]
theorem dueOk.due {p : Ln} {T : List (List Int)} (h : dueOk p T) : p.dueO T = .tuple [.str "told", .list ((p.ordT T).map dI)] := by
  unfold Ln.dueO
  rw [h.1, h.2]
  rfl
/-! promises -/
/-- what was told: data, or a new tuple with new orders -/
def ToldO (K : PySem.W.Frag) (p : Ln) (T : List (List Int)) (G H H' : Hp) (v : V) : Prop := (¬ dueOk p T ∧ ∃ G', Gr G G' H H' ∧ Dp K G' v (p.dueO T)) ∨ (dueOk p T ∧ ∃ (q pa : Addr) (rs : List Addr), v = .ref q ∧ H q = none ∧ H' q = some (.tup [.str "told", .ref pa]) ∧ PtSt H H' pa rs (p.ordT T))
section
variable {K : PySem.W.Frag} {C CLn : Addr} {G H H' : Hp} {v u : V} {p : Ln} {T : List (List Int)} {x : Addr} {s : Int} {y z : Nat}
theorem ToldO.ex (h : ToldO K p T G H H' v) : Ex H H' := by
  rcases h with ⟨_, G1, g, _⟩ | ⟨_, q, pa, rs, _, _, _, hP⟩
  · exact g.hp
  · exact hP.ex
theorem ToldO.dp (h : ToldO K p T G H H' v) : Dp K H' v (p.dueO T) := by
  rcases h with ⟨_, G1, g, d⟩ | ⟨hk, q, pa, rs, rfl, _, hq, hP⟩
  · exact dpx d g.ok
  · rw [hk.due]
    exact dp_mkT hq (.cons (.str _) (.cons hP.dpH .nil))
end
end Lw
set_option Elab.async false
set_option linter.all false
set_option maxRecDepth 100000
set_option maxHeartbeats 4000000
/-! lists filled in -/
namespace Lw
open PySem PySem.Spec L2
open Evl (Ex)
section
variable {K : PySem.W.Frag} {σ : L2.St} {G H H0 H1 : Hp} {D : Ends} {ta tb te to ti tl : TE} {q l pa r : Addr} {rs : List Addr} {T : List (List Int)}
theorem ex_bI {f : Int → Int → Bool} {a b : Int} (ha : EF ta σ G (XV (.int a))) (hb : EF tb σ G (XV (.int b))) : EF (tOp (rI0 fun i j => .bl (f i j)) ta tb) σ G (XV (.bl (f a b))) := ef_op mo_XV mo_XV ha hb fun x y G' _ hx hy => by
  cases (show x = _ from hx)
  cases (show y = _ from hy)
  exact fun H e Q k => ⟨a, b, rfl, rfl, k _ G' H (.refl e) rfl⟩
theorem st_setN {ns : List Int} {k : Nat} {y : Int} (eG : Ex G H1) (hq : H1 q = some (.lst (ns.map V.int))) (hk : k < ns.length) (hv : EF te σ G (XV (.int y))) (ho : ∀ G', Ex G G' → EF to σ G' (XV (.ref q))) (hi : ∀ G', Ex G G' → EF ti σ G' (XV (.int (k : Int)))) (kk : ∀ H2, Ex H1 H2 → D.nx σ (upd H2 q (.lst ((ns.set k y).map V.int)))) :
    tAsg te (gSub to ti rSetL) D σ H1 := hv H1 eG _ fun v G2 H2 g2 pv => (ho G2 g2.up) H2 g2.ok _ fun u G3 H3 g3 pu => (hi G3 (g2.up.trans g3.up)) H3 g3.ok _ fun w G4 H4 g4 pw => by
  cases (show v = _ from pv)
  cases (show u = _ from pu)
  cases (show w = _ from pw)
  refine ⟨q, ns.map V.int, (k : Int), k, rfl, rfl, g4.hp _ _ (g3.hp _ _ (g2.hp _ _ hq)), ?_, ?_⟩
  · rw [List.length_map]
    exact ixN_nat hk
  · rw [show (ns.map V.int).set k (.int y) = (ns.set k y).map V.int from (List.map_set ..).symm]
    exact kk H4 (g2.hp.trans (g3.hp.trans g4.hp))
end
end Lw
set_option Elab.async false
set_option linter.all false
set_option maxRecDepth 100000
set_option maxHeartbeats 16000000
/-! the law's parts -/
namespace Kx
open PySem L2 Lw
open Evl (Ex)
theorem sc_near : FnScope ["_law_shape", "_law_spot", "_law_rooms", "_law_many"] ["_law_shape"] (defScope s_near) := ⟨rfl, rfl, rfl, by decide +kernel, rfl, by decide +kernel, by decide +kernel⟩
def spNear (K : PySem.W.Frag) : Sp := fun vs H Q _ => ∃ (G : Hp) (a : Int), Ex G H ∧ vs = [.int a] ∧ Ret G H (fun v G' => ∃ p : Ln, p.err = none ∧ LnR G' v p) Q
theorem sa_near {K : PySem.W.Frag} {G : Hp} {a : Int} : SA (spNear K) [.int a] G (fun v G' => ∃ p : Ln, p.err = none ∧ LnR G' v p) := fun H e Q _ q => ⟨G, a, e, rfl, q⟩
theorem mo_new (G0 : Hp) {xs : List V} : Mo (fun v G2 => ∃ q : Addr, v = .ref q ∧ G0 q = none ∧ G2 q = some (.lst xs)) := fun v G1 G2 e ⟨q, h1, h2, h3⟩ => ⟨q, h1, h2, e _ _ h3⟩
section
variable {P : Program} {w : World} {K : PySem.W.Frag} {mg : Str → Option Value} {base : Heap} {f : Addr} {fd : FuncData}
theorem ok_near (B : Blt mg) (m_reversed : mg "reversed" = none) (F : Fun K "_law_near" "_law_near" s_near f fd) (Cd : Cal P w K mg base "_law_draw" 1 ["_law_cell_here", "_law_k", "_law_size"] spDraw) : FnOk P w K mg base CX0 2 f fd ["_law_shape"] (spNear K) := by
  obtain ⟨f1, fd1, G_draw, m_draw, k_draw, b_draw⟩ := Cd
  have m_list := B.list
  refine F.ok sc_near (fun vs H Q E h => ?_) (fun cdv A outer s H vs Q E hr h => ?_)
  · obtain ⟨G, a, _, rfl, _⟩ := h
    rfl
  · obtain ⟨G, a, hG, rfl, k⟩ := h
    refine ⟨_, (pss_cons (ps_set (i := 1) sc_near.nd rfl (by first | exact Or.inl rfl | exact Or.inr rfl) (pe_ix ix_list (pe_lst (pa_cons (pe_tup (pa_cons pe_int (pa_cons pe_int pa_nil))) (pa_cons (pe_tup (pa_cons pe_int (pa_cons pe_int pa_nil))) (pa_cons (pe_tup (pa_cons pe_int (pa_cons pe_int pa_nil))) (pa_cons (pe_tup (pa_cons pe_int (pa_cons pe_int pa_nil))) (pa_cons (pe_tup (pa_cons pe_int (pa_cons pe_int pa_nil))) (pa_cons (pe_tup (pa_cons pe_int (pa_cons pe_int pa_nil))) (pa_cons (pe_tup (pa_cons pe_int (pa_cons pe_int pa_nil))) (pa_cons (pe_tup (pa_cons pe_int (pa_cons pe_int pa_nil))) pa_nil))))))))) (pe_call G_draw (hr.mono (by decide)) rfl m_draw k_draw b_draw .nil pass0 (pa_cons (pv 0) (pa_cons pe_int (pa_cons pe_int pa_nil)))) (fun _ _ => rfl)))
 (pss_cons (ps_set (i := 2) sc_near.nd rfl (by first | exact Or.inl rfl | exact Or.inr rfl) (pe_lst (pa_cons pe_int (pa_cons pe_int (pa_cons pe_int (pa_cons pe_int (pa_cons pe_int (pa_cons pe_int (pa_cons pe_int pa_nil)))))))))
 (pss_cons (ps_asg pe_int (pg_sub (pv 2) (pe_ix ix_tup (pv 1) pe_int (fun _ _ => rfl)) set_list))
 (pss_cons (ps_set (i := 3) sc_near.nd rfl (by first | exact Or.inl rfl | exact Or.inr rfl) (pe_lst (pa_cons pe_int (pa_cons pe_int (pa_cons pe_int (pa_cons pe_int pa_nil))))))
 (pss_cons (ps_asg pe_int (pg_sub (pv 3) (pe_ix ix_tup (pv 1) pe_int (fun _ _ => rfl)) set_list))
 (pss_cons (ps_if (pt_cmpR op_eq (pe_call G_draw (hr.mono (by decide)) rfl m_draw k_draw b_draw .nil pass0 (pa_cons (pv 0) (pa_cons pe_int (pa_cons pe_int pa_nil)))) pe_int (nomark _))
 (pss_one (ps_ret (pe_lst (pa_cons (pv 2) (pa_cons (pe_lst (pa_cons pe_int (pa_cons pe_int (pa_cons pe_int (pa_cons pe_int (pa_cons pe_int (pa_cons pe_int pa_nil))))))) (pa_cons (pe_lst (pa_cons pe_int pa_nil)) (pa_cons (pv 3) pa_nil))))))) pss_nil)
 (pss_one (ps_ret (pe_lst (pa_cons (pv 2) (pa_cons (pe_lst (pa_cons pe_int (pa_cons pe_int (pa_cons pe_int (pa_cons pe_int (pa_cons pe_int (pa_cons pe_int pa_nil))))))) (pa_cons (pe_lstRev rfl (by rfl) m_list (by rfl) m_reversed (pv 3)) (pa_cons (pe_lst (pa_cons pe_int pa_nil)) pa_nil))))))))))))), ?_⟩
    have pr : ∀ {σ : L2.St} {G' : Hp} {x y : Int}, EF (tTup (tCons (tC (.int x)) (tCons (tC (.int y)) tNil))) σ G' (DV K (dP (x, y))) := ef_pairI ex_c ex_c
    have kc : ∀ {σ : L2.St} {G' : Hp} {z : Int}, 0 ≤ z → z ≤ 2000 → EF (tC (.int z)) σ G' (IV fun y => 0 ≤ y ∧ y ≤ 2000) := fun h1 h2 => EF.ivp ex_c ⟨h1, h2⟩
    refine st_asg (P := fun v G' => ∃ c d : Nat, c ≤ 3 ∧ d ≤ 6 ∧ Dp K G' v (dP ((c : Int), (d : Int)))) hG (ed_ixL (ds := [((0 : Int), (4 : Int)), (3, 2), (0, 5), (3, 1), (0, 4), (3, 2), (1, 5), (2, 1)].map dP) (q := fun z => 0 ≤ z ∧ z < 8) (el_lst (R := fun vs G' => DpAll K G' vs ([((0 : Int), (4 : Int)), (3, 2), (0, 5), (3, 1), (0, 4), (3, 2), (1, 5), (2, 1)].map dP)) (ea_dc pr (ea_dc pr (ea_dc pr (ea_dc pr (ea_dc pr (ea_dc pr (ea_dc pr (ea_dc pr ea_dn)))))))) (by simp) fun vs G' _ h => h).ls_dv (ei_draw (n := 8) (EF.ivp (ex_var (v := .int a) rfl) trivial) (kc (by omega) (by omega)) (EF.iv ex_c) (by omega) (by omega)) fun z hz => ?_) fun v1 G1 H1 g1 p1 => ?_
    · have : z = 0 ∨ z = 1 ∨ z = 2 ∨ z = 3 ∨ z = 4 ∨ z = 5 ∨ z = 6 ∨ z = 7 := by omega
      rcases this with rfl | rfl | rfl | rfl | rfl | rfl | rfl | rfl
      · exact ⟨0, _, rfl, rfl, fun v G' d => ⟨0, 4, by omega, by omega, d⟩⟩
      · exact ⟨1, _, rfl, rfl, fun v G' d => ⟨3, 2, by omega, by omega, d⟩⟩
      · exact ⟨2, _, rfl, rfl, fun v G' d => ⟨0, 5, by omega, by omega, d⟩⟩
      · exact ⟨3, _, rfl, rfl, fun v G' d => ⟨3, 1, by omega, by omega, d⟩⟩
      · exact ⟨4, _, rfl, rfl, fun v G' d => ⟨0, 4, by omega, by omega, d⟩⟩
      · exact ⟨5, _, rfl, rfl, fun v G' d => ⟨3, 2, by omega, by omega, d⟩⟩
      · exact ⟨6, _, rfl, rfl, fun v G' d => ⟨1, 5, by omega, by omega, d⟩⟩
      · exact ⟨7, _, rfl, rfl, fun v G' d => ⟨2, 1, by omega, by omega, d⟩⟩
    obtain ⟨c, d, hc, hd, p1⟩ := p1
    have lst : ∀ {σ : L2.St} {G' : Hp} {ta : TA} {ns : List Int}, EA ta σ G' (fun vs _ => vs = ns.map V.int) → ns.length ≤ 100 → EF (tLst ta) σ G' (fun v G2 => ∃ q : Addr, v = .ref q ∧ G' q = none ∧ G2 q = some (.lst (ns.map V.int))) := fun h hl => ef_lst h (fun vs _ ev => by rw [ev, List.length_map]; omega) fun q vs G2 _ q0 _ ev => ⟨q, rfl, q0, by rw [upd_same, ev]⟩
    have hP1 := dpx p1 g1.ok
    dsimp only
    refine st_asg (G := H1) (Ex.refl _) (lst (ns := List.replicate 7 5) (ea_x ex_c (ea_x ex_c (ea_x ex_c (ea_x ex_c (ea_x ex_c (ea_x ex_c (ea_x ex_c ea_nil))))))) (by decide)) fun v2 G2 H2 g2 p2 => ?_
    obtain ⟨rm, rfl, rm0, rm1⟩ := p2
    have rm2 := g2.ok _ _ rm1
    dsimp only
    refine st_setN (G := H2) (Ex.refl _) rm2 (by rw [List.length_replicate]; omega) ex_c (fun G' e => ex_var (i := 2) rfl) (fun G' e => ex_snd (K := K) (EF.dv (ex_var (i := 1) (v := v1) rfl) (dpx hP1 (g2.hp.trans e)))) fun H3 e3 => ?_
    obtain ⟨Ha, eHa⟩ : ∃ Ha, Ha = upd H3 rm (.lst (((List.replicate 7 (5 : Int)).set d 2).map V.int)) := ⟨_, rfl⟩
    rw [← eHa]
    have ea : Ex H1 Ha := by rw [eHa]; exact ex_off (g2.hp.trans e3) rm0
    have rmA : Ha rm = some (.lst (((List.replicate 7 (5 : Int)).set d 2).map V.int)) := by rw [eHa]; exact upd_same
    dsimp only
    refine st_asg (G := Ha) (Ex.refl _) (lst (ns := List.replicate 4 1) (ea_x ex_c (ea_x ex_c (ea_x ex_c (ea_x ex_c ea_nil)))) (by decide)) fun v4 G4 H4 g4 p4 => ?_
    obtain ⟨mn, rfl, mn0, mn1⟩ := p4
    dsimp only
    refine st_setN (G := H4) (Ex.refl _) (g4.ok _ _ mn1) (by rw [List.length_replicate]; omega) ex_c (fun G' e => ex_var (i := 3) rfl) (fun G' e => ex_fst (K := K) (EF.dv (ex_var (i := 1) (v := v1) rfl) (dpx hP1 (ea.trans (g4.hp.trans e))))) fun H5 e5 => ?_
    obtain ⟨Hb, eHb⟩ : ∃ Hb, Hb = upd H5 mn (.lst (((List.replicate 4 (1 : Int)).set c 3).map V.int)) := ⟨_, rfl⟩
    rw [← eHb]
    have eb : Ex Ha Hb := by rw [eHb]; exact ex_off (g4.hp.trans e5) mn0
    have mnB : Hb mn = some (.lst (((List.replicate 4 (1 : Int)).set c 3).map V.int)) := by rw [eHb]; exact upd_same
    have rmB := eb _ _ rmA
    have hmn0 : H1 mn = none := none_back ea mn0
    have e1b : Ex H1 Hb := ea.trans eb
    have eHH1 : Ex H H1 := g1.hp
    have n1 : ∀ {x : Addr}, H1 x = none → H x = none := fun h => none_back eHH1 h
    have nb : ∀ {x : Addr}, Hb x = none → H x = none := fun h => n1 (none_back e1b h)
    have fin : ∀ {H' : Hp} {q x1 x2 x3 x4 : Addr} {p : Ln}, Ex Hb H' → p.err = none → H q = none → H x1 = none → H x2 = none → H x3 = none → H x4 = none → H' q = some (.lst [.ref x1, .ref x2, .ref x3, .ref x4]) → H' x1 = some (.lst (p.ys.map V.int)) → H' x2 = some (.lst (p.ss.map V.int)) → H' x3 = some (.lst (p.es.map V.int)) → H' x4 = some (.lst (p.ws.map V.int)) → Q (.ref q) H' := fun {H' q x1 x2 x3 x4 p} e he h0 h1 h2 h3 h4 f0 f1 f2 f3 f4 => k _ (newK G H H') H' (gr_newK hG (eHH1.trans (e1b.trans e))) ⟨p, he, q, x1, x2, x3, x4, rfl, by rw [newK_new h0]; exact f0, by rw [newK_new h1]; exact f1, by rw [newK_new h2]; exact f2, by rw [newK_new h3]; exact f3, by rw [newK_new h4]; exact f4⟩
    have pos : ∀ {n j : Nat} {z y x : Int}, 1 ≤ z → 1 ≤ y → x ∈ (List.replicate n z).set j y → 1 ≤ x := fun hz hy hx => by
      rcases List.mem_or_eq_of_mem_set hx with m | m
      · rw [(List.mem_replicate.mp m).2]; exact hz
      · rw [m]; exact hy
    dsimp only
    refine st_if (G := Hb) (p := fun _ => True) (Ex.refl _) ?_ (fun _ H6 e6 => ?_) (fun _ H6 e6 => ?_)
    · exact et_test (ei_eq (p := fun y => 0 ≤ y ∧ y < 2) (q := fun _ => True) (ei_draw (n := 2) (EF.ivp (ex_var (i := 0) (v := .int a) rfl) trivial) (kc (by omega) (by omega)) (EF.iv ex_c) (by omega) (by omega)) (EF.ivp ex_c trivial) fun _ _ _ _ => trivial)
    · refine st_ret (G := Hb) (P := fun v G' => ∃ q x2 x3 : Addr, v = .ref q ∧ Hb q = none ∧ Hb x2 = none ∧ Hb x3 = none ∧ G' q = some (.lst [.ref rm, .ref x2, .ref x3, .ref mn]) ∧ G' x2 = some (.lst ((List.replicate 6 (4 : Int)).map V.int)) ∧ G' x3 = some (.lst (([5] : List Int).map V.int))) e6 (ef_lst (ea_four mo_XV (mo_new Hb) (mo_new Hb) mo_XV (ex_var (i := 2) (v := .ref rm) rfl) (lst (ns := List.replicate 6 4) (ea_x ex_c (ea_x ex_c (ea_x ex_c (ea_x ex_c (ea_x ex_c (ea_x ex_c ea_nil)))))) (by decide)) (lst (ns := [5]) (ea_x ex_c ea_nil) (by decide)) (ex_var (i := 3) (v := .ref mn) rfl)) (fun vs _ ⟨x, y, z, u, ev, _⟩ => by rw [ev]; simp) fun q vs G' _ q0 q1 ⟨x, y, z, u, ev, hx, ⟨r1, u1, n1, f1⟩, ⟨r2, u2, n2, f2⟩, hu⟩ => ⟨q, r1, r2, rfl, q0, n1, n2, by rw [upd_same, ev, show x = _ from hx, u1, u2, show u = _ from hu], ex_in q1 _ _ f1, ex_in q1 _ _ f2⟩) fun v G' H' g ⟨q, x2, x3, ev, m1, m2, m3, f0, f2, f3⟩ => by
        subst ev
        exact fin (p := ⟨(List.replicate 7 5).set d 2, List.replicate 6 4, [5], (List.replicate 4 1).set c 3⟩) (e6.trans g.hp) (Ln.err_of (by show 1 ≤ 6; omega) (by show 6 ≤ 6; omega) (by show (List.set _ _ _).length = _; rw [List.length_set]; rfl) (by show 1 ≤ 4; omega) (by show (List.set _ _ _).length ≤ 4; rw [List.length_set]; decide) fun z m => by
          unfold Ln.all at m
          simp only [List.mem_append, List.append_nil] at m
          rcases m with m | m | m | m
          · exact pos (by decide) (by decide) m
          · rw [(List.mem_replicate.mp m).2]; decide
          · rw [List.mem_singleton.mp m]; decide
          · exact pos (by decide) (by decide) m) (nb m1) (n1 rm0) (nb m2) (nb m3) (n1 hmn0) (g.ok _ _ f0) ((e6.trans g.hp) _ _ rmB) (g.ok _ _ f2) (g.ok _ _ f3) ((e6.trans g.hp) _ _ mnB)
    · dsimp only [tNext]
      refine st_ret (G := Hb) (P := fun v G' => ∃ q x2 x3 x4 : Addr, v = .ref q ∧ Hb q = none ∧ Hb x2 = none ∧ Hb x3 = none ∧ Hb x4 = none ∧ G' q = some (.lst [.ref rm, .ref x2, .ref x3, .ref x4]) ∧ G' x2 = some (.lst ((List.replicate 6 (4 : Int)).map V.int)) ∧ G' x3 = some (.lst ((((List.replicate 4 (1 : Int)).set c 3).map V.int).reverse)) ∧ G' x4 = some (.lst (([5] : List Int).map V.int))) e6 (ef_lst (ea_four mo_XV (mo_new Hb) (mo_new Hb) (mo_new Hb) (ex_var (i := 2) (v := .ref rm) rfl) (lst (ns := List.replicate 6 4) (ea_x ex_c (ea_x ex_c (ea_x ex_c (ea_x ex_c (ea_x ex_c (ea_x ex_c ea_nil)))))) (by decide)) (ef_lstRev (ex_var (i := 3) (v := .ref mn) rfl) (Evl.sq_of mnB)) (lst (ns := [5]) (ea_x ex_c ea_nil) (by decide))) (fun vs _ ⟨x, y, z, u, ev, _⟩ => by rw [ev]; simp) fun q vs G' _ q0 q1 ⟨x, y, z, u, ev, hx, ⟨r1, u1, n1, f1⟩, ⟨r2, u2, n2, f2⟩, ⟨r3, u3, n3, f3⟩⟩ => ⟨q, r1, r2, r3, rfl, q0, n1, n2, n3, by rw [upd_same, ev, show x = _ from hx, u1, u2, u3], ex_in q1 _ _ f1, ex_in q1 _ _ f2, ex_in q1 _ _ f3⟩) fun v G' H' g ⟨q, x2, x3, x4, ev, m1, m2, m3, m4, f0, f2, f3, f4⟩ => by
        subst ev
        exact fin (p := ⟨(List.replicate 7 5).set d 2, List.replicate 6 4, ((List.replicate 4 1).set c 3).reverse, [5]⟩) (e6.trans g.hp) (Ln.err_of (by show 1 ≤ 6; omega) (by show 6 ≤ 6; omega) (by show (List.set _ _ _).length = _; rw [List.length_set]; rfl) (by show (List.reverse _).length ≤ 4; rw [List.length_reverse, List.length_set]; decide) (by show 1 ≤ 4; omega) fun z m => by
          unfold Ln.all at m
          simp only [List.mem_append, List.append_nil, List.mem_reverse] at m
          rcases m with m | m | m | m
          · exact pos (by decide) (by decide) m
          · rw [(List.mem_replicate.mp m).2]; decide
          · exact pos (by decide) (by decide) m
          · rw [List.mem_singleton.mp m]; decide) (nb m1) (n1 rm0) (nb m2) (nb m3) (nb m4) (g.ok _ _ f0) ((e6.trans g.hp) _ _ rmB) (g.ok _ _ f2) (by rw [List.map_reverse]; exact g.ok _ _ f3) (g.ok _ _ f4)
end
end Kx
set_option Elab.async false
set_option linter.all false
set_option maxRecDepth 100000
set_option maxHeartbeats 16000000
/-! the law's parts -/
namespace Kx
open PySem L2 Lw
open Evl (Ex)
theorem sc_parts : FnScope ["_law_shape", "_law_sizes", "_law_menu", "_law_half", "_law_back", "_law_most", "_law_count", "_law_rooms", "_law_spans", "_law_ahead", "_law_k"] ["_law_shape", "_law_sizes"] (defScope s_parts) := ⟨rfl, rfl, rfl, by decide +kernel, rfl, by decide +kernel, by decide +kernel⟩
def spPartsD (K : PySem.W.Frag) : Sp := fun vs H Q _ => ∃ (G : Hp) (a b : Int), Ex G H ∧ vs = [.int a, .int b] ∧ Ret G H (fun v G' => ∃ p : Ln, p.err = none ∧ LnR G' v p) Q
theorem sa_partsD {K : PySem.W.Frag} {G : Hp} {a b : Int} : SA (spPartsD K) [.int a, .int b] G (fun v G' => ∃ p : Ln, p.err = none ∧ LnR G' v p) := fun H e Q _ q => ⟨G, a, b, e, rfl, q⟩
section
variable {P : Program} {w : World} {K : PySem.W.Frag} {mg : Str → Option Value} {base : Heap} {f : Addr} {fd : FuncData}
theorem ok_partsD (B : Blt mg) (m_int : mg "int" = none) (F : Fun K "_law_parts" "_law_parts" s_parts f fd) (Cd : Cal P w K mg base "_law_draw" 1 ["_law_cell_here", "_law_k", "_law_size"] spDraw) (Cn : Cal P w K mg base "_law_near" 2 ["_law_shape"] (spNear K)) : FnOk P w K mg base CX0 3 f fd ["_law_shape", "_law_sizes"] (spPartsD K) := by
  obtain ⟨f1, fd1, G_draw, m_draw, k_draw, b_draw⟩ := Cd
  obtain ⟨f2, fd2, G_near, m_near, k_near, b_near⟩ := Cn
  have m_range := B.range
  refine F.ok sc_parts (fun vs H Q E h => ?_) (fun cdv A outer s H vs Q E hr h => ?_)
  · obtain ⟨G, a, b, _, rfl, _⟩ := h
    rfl
  · obtain ⟨G, a, b, hG, rfl, k⟩ := h
    refine ⟨_, (pss_cons (ps_set (i := 2) sc_parts.nd rfl (by first | exact Or.inl rfl | exact Or.inr rfl) (pe_lst (pa_cons pe_int (pa_cons pe_int (pa_cons pe_int (pa_cons pe_int (pa_cons pe_int (pa_cons pe_int (pa_cons pe_int (pa_cons pe_int pa_nil))))))))))
 (pss_cons (ps_set (i := 3) sc_parts.nd rfl (by first | exact Or.inl rfl | exact Or.inr rfl) (pe_ix ix_list (pv 2) (pe_call G_draw (hr.mono (by decide)) rfl m_draw k_draw b_draw .nil pass0 (pa_cons (pv 0) (pa_cons pe_int (pa_cons pe_int pa_nil)))) (fun _ _ => rfl)))
 (pss_cons (ps_set (i := 4) sc_parts.nd rfl (by first | exact Or.inl rfl | exact Or.inr rfl) (pe_ix ix_list (pv 2) (pe_call G_draw (hr.mono (by decide)) rfl m_draw k_draw b_draw .nil pass0 (pa_cons (pv 0) (pa_cons pe_int (pa_cons pe_int pa_nil)))) (fun _ _ => rfl)))
 (pss_cons (ps_set (i := 5) sc_parts.nd rfl (by first | exact Or.inl rfl | exact Or.inr rfl) pe_int)
 (Evl.pss_cut (ps_if (PW.pt (pw_and (pt_cmpR op_gt (pv 3) pe_int (nomark _)) (pw_and (pt_cmpR op_gt (pv 4) pe_int (nomark _)) (pw_and1 (pt_cmpR op_gt (pe_call G_draw (hr.mono (by decide)) rfl m_draw k_draw b_draw .nil pass0 (pa_cons (pv 0) (pa_cons pe_int (pa_cons pe_int pa_nil)))) pe_int (nomark _))))))
 (pss_one (ps_set (i := 5) sc_parts.nd rfl (by first | exact Or.inl rfl | exact Or.inr rfl) (pe_ix ix_list (pe_lst (pa_cons pe_int (pa_cons pe_int (pa_cons pe_int (pa_cons pe_int (pa_cons pe_int pa_nil)))))) (pe_op op_sub (pe_op op_add (pv 3) (pv 4)) pe_int) (fun _ _ => rfl)))) pss_nil)
 (pss_cons (ps_set (i := 6) sc_parts.nd rfl (by first | exact Or.inl rfl | exact Or.inr rfl) (pe_op op_add pe_int (pe_op op_mod (pe_callTy call_int1 (by rfl) m_int (by decide +kernel) (pa_cons (pe_op op_add (pe_call G_draw (hr.mono (by decide)) rfl m_draw k_draw b_draw .nil pass0 (pa_cons (pv 0) (pa_cons pe_int (pa_cons (pv 5) pa_nil)))) pe_int) pa_nil)) (pv 5))))
 (pss_cons (ps_if (pt_cmpR op_eq (pe_call G_draw (hr.mono (by decide)) rfl m_draw k_draw b_draw .nil pass0 (pa_cons (pv 0) (pa_cons pe_int (pa_cons pe_int pa_nil)))) pe_int (nomark _))
 (pss_one (ps_ret (pe_call G_near (hr.mono (by decide)) rfl m_near k_near b_near .nil pass0 (pa_cons (pv 0) pa_nil)))) pss_nil)
 (pss_cons (ps_setLc (i := 7) (own := [("_law_k", 10)]) (g := (gName 10)) (tt := tYes) rfl sc_parts.nd rfl rfl (sw_true rfl rfl rfl (by decide +kernel)) (pi_range1 rfl m_range (pa_cons (pe_op op_add (pv 6) pe_int) pa_nil)) (blkOk_by (N := ["_law_shape", "_law_sizes", "_law_menu", "_law_half", "_law_back", "_law_most", "_law_count", "_law_rooms", "_law_spans", "_law_ahead", "_law_k"]) (sc := defScope s_parts) (by decide +kernel)) (fun _ _ _ _ _ => pg_name (i := 10) sc_parts.nd rfl (Or.inl rfl)) (fun _ _ _ _ _ => pts_nil) (fun _ _ _ _ _ => (pe_op op_add pe_int (pe_call G_draw (hr.mono (by decide)) rfl m_draw k_draw b_draw .nil pass0 (pa_cons (pv 1) (pa_cons (pv 10) (pa_cons pe_int pa_nil)))))))
 (pss_cons (ps_setLc (i := 8) (own := [("_law_k", 10)]) (g := (gName 10)) (tt := tYes) rfl sc_parts.nd rfl rfl (sw_true rfl rfl rfl (by decide +kernel)) (pi_range1 rfl m_range (pa_cons (pv 6) pa_nil)) (blkOk_by (N := ["_law_shape", "_law_sizes", "_law_menu", "_law_half", "_law_back", "_law_most", "_law_count", "_law_rooms", "_law_spans", "_law_ahead", "_law_k"]) (sc := defScope s_parts) (by decide +kernel)) (fun _ _ _ _ _ => pg_name (i := 10) sc_parts.nd rfl (Or.inl rfl)) (fun _ _ _ _ _ => pts_nil) (fun _ _ _ _ _ => (pe_op op_add pe_int (pe_call G_draw (hr.mono (by decide)) rfl m_draw k_draw b_draw .nil pass0 (pa_cons (pv 1) (pa_cons (pe_op op_add pe_int (pv 10)) (pa_cons pe_int pa_nil)))))))
 (pss_cons (ps_setLc (i := 9) (own := [("_law_k", 10)]) (g := (gName 10)) (tt := tYes) rfl sc_parts.nd rfl rfl (sw_true rfl rfl rfl (by decide +kernel)) (pi_range1 rfl m_range (pa_cons (pv 3) pa_nil)) (blkOk_by (N := ["_law_shape", "_law_sizes", "_law_menu", "_law_half", "_law_back", "_law_most", "_law_count", "_law_rooms", "_law_spans", "_law_ahead", "_law_k"]) (sc := defScope s_parts) (by decide +kernel)) (fun _ _ _ _ _ => pg_name (i := 10) sc_parts.nd rfl (Or.inl rfl)) (fun _ _ _ _ _ => pts_nil) (fun _ _ _ _ _ => (pe_op op_add pe_int (pe_call G_draw (hr.mono (by decide)) rfl m_draw k_draw b_draw .nil pass0 (pa_cons (pv 1) (pa_cons (pe_op op_add pe_int (pv 10)) (pa_cons pe_int pa_nil)))))))
 (pss_one (ps_ret (pe_lst (pa_cons (pv 7) (pa_cons (pv 8) (pa_cons (pv 9) (pa_cons (pe_lc (own := [("_law_k", 10)]) (g := (gName 10)) (tt := tYes) rfl sc_parts.nd (pi_range1 rfl m_range (pa_cons (pv 4) pa_nil)) (blkOk_by (N := ["_law_shape", "_law_sizes", "_law_menu", "_law_half", "_law_back", "_law_most", "_law_count", "_law_rooms", "_law_spans", "_law_ahead", "_law_k"]) (sc := defScope s_parts) (by decide +kernel)) (fun _ _ _ _ _ => pg_name (i := 10) sc_parts.nd rfl (Or.inl rfl)) (fun _ _ _ _ _ => pts_nil) (fun _ _ _ _ _ => (pe_op op_add pe_int (pe_call G_draw (hr.mono (by decide)) rfl m_draw k_draw b_draw .nil pass0 (pa_cons (pv 1) (pa_cons (pe_op op_add pe_int (pv 10)) (pa_cons pe_int pa_nil))))))) pa_nil))))))))))))))))), ?_⟩
    have drw : ∀ {σ : L2.St} {G' : Hp} {z n : Int} {tk : TE}, σ[0]? = some (some (.int z)) → EF tk σ G' (IV fun y => 0 ≤ y ∧ y ≤ 2000) → 1 ≤ n → n ≤ 2000 → EF (tCall spDraw [] E0 (tCons (tVar 0) (tCons tk (tCons (tC (.int n)) tNil)))) σ G' (IV fun y => 0 ≤ y ∧ y < n) := fun h hk h1 h2 => ei_draw (EF.ivp (ex_var h) trivial) hk (EF.iv ex_c) h1 h2
    have kc : ∀ {σ : L2.St} {G' : Hp} {z : Int}, 0 ≤ z → z ≤ 2000 → EF (tC (.int z)) σ G' (IV fun y => 0 ≤ y ∧ y ≤ 2000) := fun h1 h2 => EF.ivp ex_c ⟨h1, h2⟩
    refine st_asg (P := DV K (dI [2, 3, 4, 1, 2, 1, 0, 1])) hG ((el_lst (K := K) (ds := [2, 3, 4, 1, 2, 1, 0, 1].map PyData.int) (R := fun vs _ => vs = [2, 3, 4, 1, 2, 1, 0, 1].map V.int) (ea_x ex_c (ea_x ex_c (ea_x ex_c (ea_x ex_c (ea_x ex_c (ea_x ex_c (ea_x ex_c (ea_x ex_c ea_nil)))))))) (by simp) fun vs G' _ ev => by rw [ev]; exact dpa_ints _).ls_dv) fun v2 G2 H2 g2 p2 => ?_
    have mn : ∀ {σ : L2.St} {G' : Hp} {z : Int}, Ex G2 G' → 0 ≤ z → z ≤ 2000 → σ[2]? = some (some v2) → σ[0]? = some (some (.int a)) → EF (tOp (rIxL K) (tVar 2) (tCall spDraw [] E0 (tCons (tVar 0) (tCons (tC (.int z)) (tCons (tC (.int 8)) tNil))))) σ G' (IV fun z => 0 ≤ z ∧ z ≤ 4) := fun e h1 h2 h3 h4 => ei_menuV (m := 8) (EF.dv (ex_var h3) (dpx p2 e)) rfl (drw h4 (kc h1 h2) (by omega) (by omega)) (by decide)
    dsimp only
    refine st_asg (P := IV fun z => 0 ≤ z ∧ z ≤ 4) g2.ok (mn (.refl _) (by omega) (by omega) rfl rfl) fun v3 G3 H3 g3 p3 => ?_
    obtain ⟨z1, rfl, a1, a2⟩ := p3
    dsimp only
    refine st_asg (P := IV fun z => 0 ≤ z ∧ z ≤ 4) g3.ok (mn g3.up (by omega) (by omega) rfl rfl) fun v4 G4 H4 g4 p4 => ?_
    obtain ⟨z2, rfl, b1, b2⟩ := p4
    dsimp only
    refine st_asg (P := XV (.int 6)) g4.ok ex_c fun v5 G5 H5 g5 p5 => ?_
    cases (show v5 = _ from p5)
    have g25 := g2.trans (g3.trans (g4.trans g5))
    dsimp only
    refine Evl.q_cut (M := fun σ' H' => ∃ (ms : Int) (G6 : Hp) (v6 v7 v8 v9 v10 : Option V), σ' = [some (.int a), some (.int b), some v2, some (.int z1), some (.int z2), some (.int ms), v6, v7, v8, v9, v10] ∧ (1 ≤ ms ∧ ms ≤ 6) ∧ Gr G G6 H H') (st_if (G := G5) (p := fun c => c = true → z1 > 1 ∧ z2 > 1) g5.ok ?_ (fun hb H6 e6 => ?_) (fun hb H6 e6 => ?_)) (fun σ' H' hj => ?_)
    · refine et_and (p := (· = decide (z1 > 1))) (q := fun c => c = true → z2 > 1) (et_test (EF.bl (ex_bI (f := fun i j => decide (i > j)) (ex_var (i := 3) (v := .int z1) rfl) (ex_c (v := .int 1))) rfl)) (fun h => et_and (p := (· = decide (z2 > 1))) (q := fun _ => True) (et_test (EF.bl (ex_bI (f := fun i j => decide (i > j)) (ex_var (i := 4) (v := .int z2) rfl) (ex_c (v := .int 1))) rfl)) (fun _ => et_test (ec_int (f := fun i j => decide (i > j)) (p := fun y => 0 ≤ y ∧ y < 4) (q := fun _ => True) (drw (z := a) (n := 4) rfl (kc (by omega) (by omega)) (by omega) (by omega)) (EF.ivp ex_c trivial) fun _ _ _ _ => trivial)) (fun h c _ _ => of_decide_eq_true h.symm) (fun _ h => by cases h)) (fun h c hc hct => ⟨of_decide_eq_true h.symm, hc hct⟩) (fun _ h => by cases h)
    · obtain ⟨c1, c2⟩ := hb rfl
      refine st_asg (G := G5) (P := IV fun z => 1 ≤ z ∧ z ≤ 6) (g5.ok.trans e6) (ei_menuL (p := fun z => 1 ≤ z ∧ z ≤ 6) (m := 5) (ns := [5, 3, 2, 1, 1]) (ea_x ex_c (ea_x ex_c (ea_x ex_c (ea_x ex_c (ea_x ex_c ea_nil))))) rfl (by decide) (EF.ivp (ex_sub (ex_add (ex_var (i := 3) (v := .int z1) rfl) (ex_var (i := 4) (v := .int z2) rfl)) (ex_c (v := .int 4))) ⟨by omega, by omega⟩) (by decide)) fun v6 G6 H7 g6 p6 => ?_
      obtain ⟨ms, rfl, m1, m2⟩ := p6
      exact ⟨ms, G6, _, _, _, _, _, rfl, ⟨m1, m2⟩, g25.trans ((Gr.same g5.ok e6).trans g6)⟩
    · exact ⟨6, G5, _, _, _, _, _, rfl, ⟨by omega, by omega⟩, g25.trans (Gr.same g5.ok e6)⟩
    obtain ⟨ms, G6, v6, v7, v8, v9, v10, rfl, ⟨m1, m2⟩, g6⟩ := hj
    refine st_asg (P := IV fun z => 1 ≤ z ∧ z ≤ 6) g6.ok (ei_add (p := (· = 1)) (q := fun y => 0 ≤ y ∧ y < ms) (s := fun z => 1 ≤ z ∧ z ≤ 6) (EF.iv ex_c) (ei_mod (n := ms) (p := fun _ => True) (ei_int (ei_add (p := fun y => 0 ≤ y ∧ y < ms) (q := (· = 1)) (s := fun _ => True) (ei_draw (n := ms) (EF.ivp (ex_var (i := 0) (v := .int a) rfl) trivial) (kc (by omega) (by omega)) (EF.iv (ex_var (i := 5) (v := .int ms) rfl)) (by omega) (by omega)) (EF.iv ex_c) fun _ _ _ _ => trivial)) (EF.iv (ex_var (i := 5) (v := .int ms) rfl)) (by omega) fun y _ => ⟨Int.emod_nonneg _ (by omega), Int.emod_lt_of_pos _ (by omega)⟩) fun x y hx hy => by rw [hx]; omega) fun v7' G7 H7 g7 p7 => ?_
    obtain ⟨cnt, rfl, c0, c7⟩ := p7
    dsimp only
    refine st_if (G := G7) (p := fun _ => True) g7.ok ?_ (fun _ H8 e8 => ?_) (fun _ H8 e8 => ?_)
    · exact et_test (ei_eq (p := fun y => 0 ≤ y ∧ y < 8) (q := fun _ => True) (drw (z := a) (n := 8) rfl (kc (by omega) (by omega)) (by omega) (by omega)) (EF.ivp ex_c trivial) fun _ _ _ _ => trivial)
    · exact st_ret (g7.ok.trans e8) (ef_call (ea_x (ex_var (i := 0) (v := .int a) rfl) ea_nil) fun vs G' e ev => by rw [ev]; exact sa_near) fun v G' H' g pv => k v G' H' (g6.trans (g7.trans ((Gr.same g7.ok e8).trans g))) pv
    · dsimp only [tNext]
      have lens : ∀ {σ : L2.St} {G' : Hp} {tk tn : TE} {n : Int}, 0 ≤ n → n ≤ 9 → EF tn σ G' (XV (.int n)) → (∀ x, wipe ((wipe σ [10]).set 10 (some x)) [10] = wipe σ [10]) → (wipe σ [10])[1]? = some (some (.int b)) → (∀ (i : Nat) G2, Ex G' G2 → (i : Int) < n → EF tk ((wipe σ [10]).set 10 (some (.int (i : Int)))) G2 (IV fun y => 0 ≤ y ∧ y ≤ 2000)) → EF (tLc (iRng1 (tCons tn tNil)) (gName 10) tYes (tOp (rI0 fun i j => .int (i + j)) (tC (.int 1)) (tCall spDraw [] E0 (tCons (tVar 1) (tCons tk (tCons (tC (.int 4)) tNil))))) [10]) σ G' (NwI K G' fun ns => (ns.length : Int) = n ∧ ∀ y ∈ ns, 1 ≤ y) := fun {σ G' tk tn n} n0 n1 hn hw h1' hk => ef_intsR (n := n) (p := fun y => 1 ≤ y) (ea_x hn ea_nil) ⟨n0, by omega⟩ hw fun i G2 e hi => ei_add (p := (· = 1)) (q := fun y => 0 ≤ y ∧ y < 4) (s := fun y => 1 ≤ y) (EF.iv ex_c) (ei_draw (n := 4) (EF.ivp (ex_var (i := 1) (v := .int b) (by rw [List.getElem?_set_ne (by decide)]; exact h1')) trivial) (hk i G2 e hi) (EF.iv ex_c) (by omega) (by omega)) fun x y hx hy => by rw [hx]; omega
      refine st_asg (P := NwI K G7 fun ns => (ns.length : Int) = cnt + 1 ∧ ∀ y ∈ ns, 1 ≤ y) (g7.ok.trans e8) (lens (by omega) (by omega) (ex_add (ex_var (i := 6) (v := .int cnt) rfl) (ex_c (v := .int 1))) (fun _ => rfl) rfl fun i G' e hi => EF.ivp (ex_var (i := 10) rfl) ⟨by omega, by omega⟩) fun v8' G8 H9 g8 p8 => ?_
      obtain ⟨y1, ys, rfl, _, hy, yl, yp⟩ := p8
      dsimp only
      refine st_asg (P := NwI K G8 fun ns => (ns.length : Int) = cnt ∧ ∀ y ∈ ns, 1 ≤ y) g8.ok (lens (by omega) (by omega) (ex_var (i := 6) (v := .int cnt) rfl) (fun _ => rfl) rfl fun i G' e hi => EF.ivp (ex_add (ex_c (v := .int 7)) (ex_var (i := 10) (v := .int (i : Int)) rfl)) ⟨by omega, by omega⟩) fun v9' G9 Ha g9 p9 => ?_
      obtain ⟨y2, ss, rfl, _, hss, sl, sp⟩ := p9
      dsimp only
      refine st_asg (P := NwI K G9 fun ns => (ns.length : Int) = z1 ∧ ∀ y ∈ ns, 1 ≤ y) g9.ok (lens (by omega) (by omega) (ex_var (i := 3) (v := .int z1) rfl) (fun _ => rfl) rfl fun i G' e hi => EF.ivp (ex_add (ex_c (v := .int 13)) (ex_var (i := 10) (v := .int (i : Int)) rfl)) ⟨by omega, by omega⟩) fun v10' Ga Hb ga pa => ?_
      obtain ⟨y3, es, rfl, _, hes, el, ep⟩ := pa
      have mo4 : Mo (NwI K Ga fun ns => (ns.length : Int) = z2 ∧ ∀ y ∈ ns, 1 ≤ y) := fun v G1' G2' e ⟨q, ns, h1, h2, h3, h4⟩ => ⟨q, ns, h1, h2, e _ _ h3, h4⟩
      dsimp only
      refine st_ret (P := fun v G' => ∃ p : Ln, p.err = none ∧ LnR G' v p) ga.ok (ef_lst (ea_four mo_XV mo_XV mo_XV mo4 (ex_var (i := 7) (v := .ref y1) rfl) (ex_var (i := 8) (v := .ref y2) rfl) (ex_var (i := 9) (v := .ref y3) rfl) (lens (by omega) (by omega) (ex_var (i := 4) (v := .int z2) rfl) (fun _ => rfl) rfl fun i G' e hi => EF.ivp (ex_add (ex_c (v := .int 17)) (ex_var (i := 10) (v := .int (i : Int)) rfl)) ⟨by omega, by omega⟩)) (fun vs _ ⟨x, y, z, u, ev, _⟩ => by rw [ev]; simp) fun q vs G' e _ q1 ⟨x, y, z, u, ev, hx, hy', hz, ⟨y4, ws, hu, _, hws, wl, wp⟩⟩ => ⟨⟨ys, ss, es, ws⟩, Ln.err_of (by show 1 ≤ ss.length; omega) (by show ss.length ≤ 6; omega) (by show ys.length = ss.length + 1; omega) (by show es.length ≤ 4; omega) (by show ws.length ≤ 4; omega) (fun z m => by
        unfold Ln.all at m
        simp only [List.mem_append, List.append_nil] at m
        rcases m with m | m | m | m
        · exact yp z m
        · exact sp z m
        · exact ep z m
        · exact wp z m), q, y1, y2, y3, y4, rfl, by rw [upd_same, ev, show x = _ from hx, show y = _ from hy', show z = _ from hz, hu], ex_in q1 _ _ (e _ _ ((g9.up.trans ga.up) _ _ hy)), ex_in q1 _ _ (e _ _ (ga.up _ _ hss)), ex_in q1 _ _ (e _ _ hes), ex_in q1 _ _ hws⟩) fun v G' H' g pv => k v G' H' (g6.trans (g7.trans ((Gr.same g7.ok e8).trans (g8.trans (g9.trans (ga.trans g)))))) pv
end
end Kx
set_option Elab.async false
set_option linter.all false
set_option maxRecDepth 100000
set_option maxHeartbeats 4000000
/-! rings of two -/
namespace Lw
open PySem PySem.Spec L2
open Evl (Ex)
/-! ### rules -/
end Lw
namespace Lw
open PySem PySem.Spec L2
open Evl (Ex)
end Lw
set_option Elab.async false
set_option linter.all false
set_option maxRecDepth 100000
set_option maxHeartbeats 4000000
/-! tracks in a row -/
namespace Lw
open PySem PySem.Spec L2
open Evl (Ex)
theorem chainE.cons {js : List (Int × Int)} {row : List Int} {l m : Int} (h : chainE js row) (hl : row[0]? = some l) (hm : (m, l) ∈ js) : chainE js (m :: row) := fun j a b ha hb => by
  cases j with
  | zero =>
    simp at ha hb
    rw [hl] at hb
    cases hb
    subst ha
    exact hm
  | succ j =>
    exact h j a b (by simpa using ha) (by simpa using hb)
end Lw
set_option Elab.async false
set_option linter.all false
set_option maxRecDepth 100000
set_option maxHeartbeats 4000000
/-! what is due of rings; a call by keywords that may raise -/
namespace Lw
open PySem PySem.Spec L2
open Evl (Ex)
section
variable {X : Cx} {CX : CXT} {k : Nat} {f : Addr} {fd : FuncData} {ps ks : List Str} {sp : Sp} {E : L2.St → XK} {x : Str} {p pos : Pos} {kws : List Keyword} {tk : TA} {g : List Value → List Value → List Value} {gV : List V → List V → List V}
/-- f(k = v), what is raised is wished for at the caller's slots -/
theorem pe_callKX0 (F : FnOk X.prog X.w X.K X.mg X.base CX k f fd ps sp) (hr : Room k X.A) (hg : Gl X x) (hm : X.mg x = some (.ref f)) (hk : PySem.W.keepIn X.K (.ref f) = true) (hb : KBinds X.K fd ps ks g gV) (hx : ∀ σ, PassesAt CX X σ (E σ)) (hkw : PK X kws tk)
    (hall : (backToKw pos (keywordEach kws X.env)).all (·.1.isSome) = true := by rfl) (hks : (backToKw pos (keywordEach kws X.env)).filterMap (·.1) = ks := by rfl) (hdb : (x == ("__debug__" : Str)) = false := by decide)
    (hpl : ((backTo pos (starEach [] X.env)).any (·.1) || (backToKw pos (keywordEach kws X.env)).any (·.1.isNone)) = false := by rfl) :
    PE X (.Call (.Name x p) [] kws pos) (tCallKX sp gV E tNil tk) := by
  refine ⟨fun pins s σ H Q I h => wpAny_Call_Name_kw (ld_glob I hg hm ?_ hdb)⟩
  refine PySem.W.callWith_KW0 (h₀ := X.base) I.ok.mod.kin hk hall (thn (hkw.run pos pins s σ H _ I h) fun ws s2 ⟨zs, H2, I2, rz, q2⟩ => ⟨I2.kIn, ?_⟩) hpl
  rw [hks]
  exact run_kwX (us := []) (vs := []) F hr hb (hx σ) I2 .nil rz q2
end
end Lw
set_option Elab.async false
set_option linter.all false
set_option maxRecDepth 100000
set_option maxHeartbeats 4000000
/-! an element of a list comprehension that raises -/
namespace Lw
open PySem PySem.Spec PyProof.Rows L2
end Lw
set_option Elab.async false
set_option linter.all false
set_option maxRecDepth 100000
set_option maxHeartbeats 4000000
/-! list.count of flat values -/
namespace Lw
open PySem PySem.Spec L2
section
variable {K : PySem.W.Frag} {σ : L2.St} {G : Hp} {ta tb : TE}
theorem dpa_bools_eq {G : Hp} : ∀ {bs : List Bool} {vs : List V}, DpAll K G vs (bs.map PyData.bool) → vs = bs.map V.bl
  | [], _, .nil => rfl
  | b :: bs, _, .cons h r => by
    cases h
    rw [dpa_bools_eq r]
    rfl
end
end Lw
set_option Elab.async false
set_option linter.all false
set_option maxRecDepth 100000
set_option maxHeartbeats 4000000
/-! (x,) * n, max(t, default = d), list(d.values()) -/
namespace Lw
open PySem PySem.Spec PyProof.Rows L2
theorem tuple_mul1 (l : Addr) (items : Array Value) (n : Nat) (sl : Array (Option Value)) (dd : Option Addr) (u : Tok) :
    Meets (Builtin.«tuple.__mul__» ⟨[.ref l, .int 1 u], []⟩) (fun _ R s => s.heap.get? l = some { cls := .type "tuple", dict := dd, data := .seq items n, slots := sl } ∧ R (.ok (.ret (Value.ref l))) s) :=
  .of_wp fun prog w A R s h => by
    obtain ⟨hp, g, d, tk, os⟩ := s
    obtain ⟨hl, h⟩ := h
    have f1 := AutoSeq1.idx_int
    have c1 : (items.isEmpty || (1 : Int) == 1) = true := by simp
    wp_walk using wpAny_loadPart' hl
    repeat (first
      | (refine wpAny_ite_true (decide_eq_true (by rw [c1])) ?_; wp_walk using wpAny_loadPart' hl))
    all_goals exact ⟨_, rfl, h⟩
theorem tuple_mul0 (l : Addr) (items : Array Value) (n : Nat) (sl : Array (Option Value)) (dd : Option Addr) (u : Tok) (hi : items.isEmpty = false) :
    Meets (Builtin.«tuple.__mul__» ⟨[.ref l, .int 0 u], []⟩) (fun _ R s => s.heap.get? l = some { cls := .type "tuple", dict := dd, data := .seq items n, slots := sl } ∧
      R (.ok (.ret (Value.ref s.heap.objs.size))) { s with heap := s.heap.push { cls := Value.type "tuple", data := Data.seq #[] }, toks := s.toks }) :=
  .of_wp fun prog w A R s h => by
    obtain ⟨hp, g, d, tk, os⟩ := s
    obtain ⟨hl, h⟩ := h
    have f1 := AutoSeq1.idx_int
    have c1 : (items.isEmpty || (0 : Int) == 1) = false := by rw [hi]; rfl
    wp_walk using wpAny_loadPart' hl
    repeat (first
      | (refine wpAny_ite_false (decide_eq_false (by rw [c1]; exact Bool.false_ne_true)) ?_; wp_walk using wpAny_loadPart' hl))
    all_goals exact ⟨_, rfl, h⟩
def rRepTA (K : PySem.W.Frag) : R2 := fun x y H Q => ∃ l k v, x = .ref l ∧ y = .int k ∧ SqT K H l [v] ∧ 0 ≤ k ∧ k ≤ 1000 ∧ (k = 1 → Q (.ref l) H) ∧ (k ≠ 1 → ∀ p, H p = none → Q (.ref p) (upd H p (.tup (List.replicate k.toNat v))))
theorem op_repTA {X : Cx} : OpR X (binaryOp .Mult) (rRepTA X.K) := by
  intro pins s σ H x y v u Q I rx ry h
  obtain ⟨l, k, w, ex, ey, hT, h1, h2, q1, q2⟩ := h
  by_cases k2 : 2 ≤ k
  · refine op_repT pins s σ H x y v u Q I rx ry ⟨l, k, [w], ex, ey, hT, by simp, k2, h2, by simp, fun p hp => ?_⟩
    rw [rep_flat]
    exact q2 (by omega) p hp
  subst ex ey
  cases rx
  obtain ⟨t, rfl⟩ := ry
  obtain ⟨its, r, ⟨⟨cls, dd, data, sl⟩, ho, hc, n, hd⟩, hs⟩ := I.tuple hT
  simp only at hc hd
  subst hc hd
  have hi : its.toArray.isEmpty = false := by
    cases r with
    | cons a b => rfl
  by_cases k1 : k = 1
  · subst k1
    refine wpAny_binaryOp_repeat_ref (T := "tuple") (U := "int") (by decide) ⟨_, ho, rfl⟩ (fun s' => typeIs_int s' 1 t) noFill_tuple_mul F.fills_int_mul F.slot_int_rmul repeat_tuple F.slot_int_index.lookup
      (call_meets F.slot_int_rmul (typeIs_int s 1 t) F.entry_int_rmul (F.args_int_rmul_2 _ _) (int_rmul_tuple 1 t l its.toArray n dd sl)
        ⟨ho, rfl, ⟨_, ho, rfl⟩, call_meets F.slot_tuple_mul ⟨_, ho, rfl⟩ F.entry_tuple_mul (F.args_tuple_mul_2 _ _) (tuple_mul1 l its.toArray n sl dd t) ⟨ho, ?_⟩⟩)
    exact ⟨.ref l, H, I, rfl, q1 rfl⟩
  · have k0 : k = 0 := by omega
    subst k0
    refine wpAny_binaryOp_repeat_ref (T := "tuple") (U := "int") (by decide) ⟨_, ho, rfl⟩ (fun s' => typeIs_int s' 0 t) noFill_tuple_mul F.fills_int_mul F.slot_int_rmul repeat_tuple F.slot_int_index.lookup
      (call_meets F.slot_int_rmul (typeIs_int s 0 t) F.entry_int_rmul (F.args_int_rmul_2 _ _) (int_rmul_tuple 0 t l its.toArray n dd sl)
        ⟨ho, rfl, ⟨_, ho, rfl⟩, call_meets F.slot_tuple_mul ⟨_, ho, rfl⟩ F.entry_tuple_mul (F.args_tuple_mul_2 _ _) (tuple_mul0 l its.toArray n sl dd t hi) ⟨ho, ?_⟩⟩)
    refine ⟨.ref s.heap.objs.size, _, I.laid (t' := s.toks) (o := .tup []) (fun b ob q => Heap.get?_push_of_some _ q) (Nat.le_refl _) ⟨Nat.zero_le _, [], .nil, IsTup.new _ _⟩, rfl, q2 (by decide) _ (I.hok.fresh (Nat.le_refl _))⟩
/-! ### max(t, default = d) -/
def mxD (ns : List Int) (d : Int) : Int := match ns with
  | [] => d
  | y :: ys => ys.foldl max y
def rMaxT (K : PySem.W.Frag) : List V → List V → Hp → VK → Prop := fun xs zs H Q => ∃ (l : Addr) (ns : List Int) (d : Int), xs = [.ref l] ∧ zs = [.int d] ∧ SqT K H l (ns.map V.int) ∧ Q (.int (mxD ns d)) H
theorem depthAll_ints : ∀ ns : List Int, PyData.depthAll (ns.map PyData.int) = 0
  | [] => rfl
  | n :: ns => by
    show max (PyData.depth (.int n)) (PyData.depthAll (ns.map PyData.int)) = 0
    rw [depthAll_ints ns] <;> rfl
theorem cr_maxT {X : Cx} (hc : X.calm = true) (hu : X.A.units + 1 < cLine) : CallRK X (.builtin "max") [Str.ofString "default"] (rMaxT X.K) := by
  intro pins s σ H xs zs us ws Q I rx rz h
  obtain ⟨l, ns, d, rfl, rfl, hT, q⟩ := h
  rw [Vals.ref1 rx]
  obtain ⟨w, rfl, rw'⟩ := rz.one
  obtain ⟨t, rfl⟩ := rw'
  obtain ⟨its, rv, hl, hs⟩ := I.tuple hT
  have hr : ReadsAll s.heap its.toArray.toList (ns.map PyData.int) [] := by
    rw [List.toList_toArray]
    exact (intsAre_of rv).reads _
  refine PySem.W.max_tuple_default (I.ok.hd hc) hl hr (PySem.W.alikeAll_datum ns) (by rw [depthAll_ints]; exact hu) (fun e h' tk hk => ?_) (fun y ys i v h' tk bs e hv hrd hk => ?_)
  · cases ns with
    | nil => exact ⟨.int d, H, I.kept hk, ⟨_, rfl⟩, q⟩
    | cons a b => cases e
  · cases ns with
    | nil => cases e
    | cons a b =>
      cases e
      rw [PySem.W.maxD_ints] at hrd
      obtain ⟨t, rfl⟩ : ∃ t, v = .int (b.foldl max a) t := by
        cases hrd
        exact ⟨_, rfl⟩
      exact ⟨.int (b.foldl max a), H, I.kept hk, ⟨_, rfl⟩, q⟩
/-! ### list(d.values()), keys that are tuples -/
def tListVT (td : TE) : TE := fun σ H Q => td σ H fun x H1 => ∃ a kvs, x = V.ref a ∧ H1 a = some (.dT kvs) ∧ ∀ p, H1 p = none → Q (.ref p) (upd H1 p (.lst (kvs.map (·.2))))
theorem kt_at {H : Hp} {kvs : List (List Key × V)} {xs : List (List Key × Addr × Value)} (r : KT H kvs xs) : ∀ {i : Nat} {y : List Key × Addr × Value}, xs[i]? = some y → ∃ p, kvs[i]? = some p ∧ RelV p.2 y.2.2 := by
  unfold KT at r
  induction r with
  | nil =>
    intro i y e
    simp at e
  | @cons p q ps qs h t ih =>
    intro i y e
    cases i with
    | zero =>
      cases (show some _ = some y from e)
      exact ⟨_, rfl, h.2.2⟩
    | succ i => exact ih (i := i) (by simpa using e)
theorem vals_of {es : List Value} {ys : List V} (hl : es.length = ys.length) (h : ∀ (i : Nat) (u : Value), es[i]? = some u → ∃ y, ys[i]? = some y ∧ RelV y u) : Vals ys es := by
  induction es generalizing ys with
  | nil => cases ys with
    | nil => exact .nil
    | cons a b => cases hl
  | cons u us ih => cases ys with
    | nil => cases hl
    | cons y ys =>
      obtain ⟨z, h1, h2⟩ := h 0 u rfl
      cases (show some y = some z from h1)
      exact .cons h2 (ih (by simpa using hl) fun i u e => h (i + 1) u (by simpa using e))
theorem pe_listVT {X : Cx} {o : Expr} {p pos apos mpos : Pos} {td : TE} (hc : X.calm = true) (hg : Gl X "list") (hm : X.mg "list" = none) (hd : PE X o td) (hbase : attributeBase o "values" X.env (eval o X.env) = eval o X.env := by rfl) (hline : (apos.endLine == mpos.line) = true := by rfl)
    (hse : starEach [Expr.Call (.Attribute o "values" apos) [] [] mpos] X.env = [(false, eval (Expr.Call (.Attribute o "values" apos) [] [] mpos) X.env)] := by rfl) :
    PE X (.Call (.Name "list" p) [.Call (.Attribute o "values" apos) [] [] mpos] [] pos) (tListVT td) := by
  refine ⟨fun pins s σ H Q I h => ?_⟩
  refine wpAny_Call_Name_kw (ld_blt I hg hm (u := .type "list") (by first | rfl | decide +kernel) ?_ (by first | decide +kernel | decide) (by first | decide +kernel | decide))
  rw [hse]
  refine PySem.callWith_type1 (wpAny_Call_method0_late hbase hline (thn (hd.run pins s σ H _ I h) fun v s1 ⟨x, H1, I1, r1, a, kvs, ex, ha, q⟩ => ?_))
  subst ex
  obtain rfl : v = Value.ref a := r1
  obtain ⟨hz, hsys, xs, rel, dof⟩ := dt_of I1.hok ha
  obtain ⟨es, ep, raw, hsz, hat⟩ := dof.raw
  have raw' := raw
  obtain ⟨ob, ho, hx, hdat⟩ := raw'
  refine ⟨"dict", "dict.values", F.plainAttrs_dict, F.slot_dict_values, F.type_dict_values, ⟨ob, ho, hx.1⟩, fun b e => ?_, Calls.callWith_builtin rfl (PySem.evalArgs_none ?_)⟩
  · cases e
    exact ⟨ob, ho, hx.2.1⟩
  refine call_meetsIn F.slot_dict_values ⟨ob, ho, hx.1⟩ F.entry_dict_values (F.args_dict_values_1 _) (meets_dict_values_raw (prog := X.prog) (w := X.w) a hsys) ⟨⟨es, ep, raw⟩, ?_⟩
  have k1 : ∀ b u, s1.heap.get? b = some u → (s1.heap.push { cls := .type "dict_values", data := .fields #[.ref a] }).get? b = some u := fun b u e => Heap.get?_push_of_some _ e
  have hlk : kvs.length = xs.length := Paired.length rel
  have I2 : Inv X pins σ H1 { s1 with heap := s1.heap.push { cls := .type "dict_values", data := .fields #[.ref a] } } := I1.kept (t' := s1.toks) k1
  refine PySem.W.kdl_call (KdlSrc.rawValues (prog := X.prog) (w := X.w) (r := s1.heap.objs.size) (d := a) (es := es) (ep := ep)) (I2.ok.hd hc) ⟨⟨_, Heap.get?_push_size _ rfl, rfl, rfl⟩, raw.push _⟩ (by omega) fun h' tk acc' c' hk hD hacc => ?_
  refine ⟨.ref _, upd H1 _ (.lst (kvs.map (·.2))), I2.laid (t' := tk) hk (Nat.le_refl _) ⟨by rw [List.length_map]; exact hz, acc'.toList, c', ?_, by simpa using hD⟩, rfl, q _ (I2.hok.fresh (Nat.le_refl _))⟩
  refine vals_of (by rw [Array.length_toList, hacc.1, List.length_map, hsz, hlk]) fun i u e => ?_
  obtain ⟨hi, eu⟩ := hacc.2 i u (by rw [← Array.getElem?_toList]; exact e)
  obtain ⟨y, e1, _, e2, _⟩ := hat i hi
  obtain ⟨pk, e3, e4⟩ := kt_at rel e1
  refine ⟨pk.2, by rw [List.getElem?_map, e3]; rfl, ?_⟩
  rw [eu, e2]
  exact e4
end Lw
set_option Elab.async false
set_option linter.all false
set_option maxRecDepth 100000
set_option maxHeartbeats 4000000
/-! lists of pairs that stand; the least of (distance, pair) -/
namespace Lw
open PySem PySem.Spec L2
open Evl (Ex)
section
variable {K : PySem.W.Frag} {σ : L2.St} {G G0 G' H : Hp} {tl te ta : TE} {t : TT} {P R : VP}
/-- (distance, pair), both standing -/
def QvT (G : Hp) (v : V) (q : Qe) : Prop := ∃ t p : Addr, v = .ref t ∧ G t = some (.tup [.int q.1, .ref p]) ∧ G p = some (.tup [.int q.2.1, .int q.2.2])
def QvL (G : Hp) (vs : List V) (l : List Qe) : Prop := vs.length = l.length ∧ ∀ (i : Nat) (v : V) (q : Qe), vs[i]? = some v → l[i]? = some q → QvT G v q
theorem QvT.ex {v : V} {q : Qe} (h : QvT G v q) (e : Ex G G') : QvT G' v q := by
  obtain ⟨t, p, h1, h2, h3⟩ := h
  exact ⟨t, p, h1, e _ _ h2, e _ _ h3⟩
theorem QvT.dp {v : V} {q : Qe} (h : QvT G v q) : Dp K G v (encQ q) := by
  obtain ⟨t, p, rfl, h2, h3⟩ := h
  exact dp_mkT h2 (.cons (.int _) (.cons (dp_mkT h3 (.cons (.int _) (.cons (.int _) .nil))) .nil))
theorem QvL.dp {vs : List V} {l : List Qe} (h : QvL G vs l) : DpAll K G vs (l.map encQ) := by
  obtain ⟨h1, h2⟩ := h
  induction vs generalizing l with
  | nil => cases l with
    | nil => exact .nil
    | cons _ _ => simp at h1
  | cons v vs ih => cases l with
    | nil => simp at h1
    | cons q l => exact .cons (h2 0 v q rfl rfl).dp (ih (by simpa using h1) fun i v q a b => h2 (i + 1) v q a b)
end
end Lw
set_option Elab.async false
set_option linter.all false
set_option maxRecDepth 100000
set_option maxHeartbeats 4000000
/-! events that are none; promises -/
namespace Lw
open PySem PySem.Spec L2
open Evl (Ex)
/-- what is wrong with an event: no such train, no such number -/
def evBad (ts : List Trn) (e : Ev) : Option Bool := if e.1 < 0 ∨ e.1 ≥ (ts.length : Int) then some true else if e.2 < 0 ∨ e.2 > 2 * (wl ts e.1.toNat : Int) then some false else none
/-- the first of two events that is none -/
def chBad (pl : Pl) (a b : Ev) : Option (Bool × Ev) := match evBad pl.ts a with
  | some c => some (c, a)
  | none => match evBad pl.ts b with
    | some c => some (c, b)
    | none => none
/-- chain and comes_before raise alike -/
def Raises (pl : Pl) (CN CE : Addr) (a b : Ev) (G H : Hp) (E : XK) : Prop := (∀ e, chBad pl a b = some (true, e) → Rse CN [("train", .int e.1)] G H E) ∧ ∀ e, chBad pl a b = some (false, e) → Rse CE [("number", .int e.2), ("train", .int e.1)] G H E
end Lw
set_option Elab.async false
set_option linter.all false
set_option maxRecDepth 100000
set_option maxHeartbeats 4000000
/-! comprehensions over zip, over lists of pairs that stand -/
namespace Lw
open PySem PySem.Spec L2
open Evl (Ex)
section
variable {K : PySem.W.Frag} {σ : L2.St} {G G' H H1 : Hp} {D : Ends} {ta tb te tk tl : TE} {t : TT} {P : VP}
/-- xs[k:] of a list that is known, its items as they stand -/
theorem ex_from {a : Addr} {xs : List V} {k : Nat} (ha : EF ta σ G (XV (.ref a))) (hs : SqL K G a xs) (hb : EF tb σ G (XV (.int (k : Int)))) : EF (tSl (rSlL K) ta (tPart tb) tNoPart) σ G (fun v G' => ∃ b : Addr, v = .ref b ∧ G b = none ∧ G' b = some (.lst (xs.drop k))) := fun H e Q q => ha H e _ fun x G1 H1 g1 hx => hb H1 (g1.up.trans g1.ok) _ fun y G2 H2 g2 hy => by
  cases (show x = _ from hx)
  obtain ⟨G3, e1, e2, g3⟩ := g1.join g2
  refine ⟨(k : Int), hy, a, xs, rfl, Evl.ex_l (g3.up.trans g3.ok) hs, fun p hp => ?_⟩
  refine q _ _ _ (g3.trans (.new g3.ok hp)) ⟨p, rfl, none_back (g3.up.trans g3.ok) hp, ?_⟩
  rw [upd_same, cutV_from]
end
end Lw
set_option Elab.async false
set_option linter.all false
set_option maxRecDepth 100000
set_option maxHeartbeats 4000000
/-! rows that stand as tuples; two for's with a test; zip of tuples; a comprehension over a dict's keys -/
namespace Lw
open PySem PySem.Spec L2
open Evl (Ex)
def nV (n : Nat) : V := .int (n : Int)
/-- tuples of numbers that stand -/
def TupL (G : Hp) (xs : List V) (l : List (List Nat)) : Prop := xs.length = l.length ∧ ∀ (i : Nat) (x : V) (r : List Nat), xs[i]? = some x → l[i]? = some r → ∃ q : Addr, x = .ref q ∧ G q = some (.tup (r.map nV))
theorem TupL.ex {G G' : Hp} {xs : List V} {l : List (List Nat)} (h : TupL G xs l) (e : Ex G G') : TupL G' xs l := ⟨h.1, fun i x r a b => let ⟨q, h1, h2⟩ := h.2 i x r a b; ⟨q, h1, e _ _ h2⟩⟩
theorem TupL.nil {G : Hp} : TupL G [] [] := ⟨rfl, fun i x r a => by simp at a⟩
theorem TupL.snoc {G : Hp} {xs : List V} {l : List (List Nat)} {q : Addr} {r : List Nat} (h : TupL G xs l) (hq : G q = some (.tup (r.map nV))) : TupL G (xs ++ [.ref q]) (l ++ [r]) := ⟨by rw [List.length_append, List.length_append, h.1]; rfl, fun i x r' a b => by
  by_cases hi : i < xs.length
  · rw [List.getElem?_append_left hi] at a
    rw [List.getElem?_append_left (by rw [← h.1]; exact hi)] at b
    exact h.2 i x r' a b
  · rw [List.getElem?_append_right (by omega)] at a
    rw [List.getElem?_append_right (by rw [← h.1]; omega), ← h.1] at b
    obtain ⟨k, ek⟩ : ∃ k, k = i - xs.length := ⟨_, rfl⟩
    rw [← ek] at a b
    cases k with
    | zero =>
      cases (show some _ = some x from a)
      cases (show some _ = some r' from b)
      exact ⟨q, rfl, hq⟩
    | succ k => simp at a⟩
section
variable {K : PySem.W.Frag} {σ : L2.St} {G G' H H1 : Hp} {D : Ends} {ta tb te tk tl tl0 td : TE} {t : TT} {P : VP}
/-- (x,) * n -/
theorem ef_repT {x : V} {n : Nat} (ha : EF ta σ G (XV x)) (hb : EF tb σ G (XV (.int (n : Int)))) (hn : n ≤ 1000) : EF (tOp (rRepTA K) (tTup (tCons ta tNil)) tb) σ G fun v G' => ∃ p : Addr, v = .ref p ∧ G' p = some (.tup (List.replicate n x)) :=
  fun H e Q q => by
    refine (ef_tup (P := fun v G1 => ∃ r : Addr, v = .ref r ∧ G1 r = some (.tup [x])) (ea_x ha ea_nil) (fun vs _ ev => by rw [ev]; simp) fun p vs G' _ _ _ ev => ⟨p, rfl, by rw [ev]; exact upd_same⟩) H e _ fun v1 G1 H1 g1 ⟨r, ev, hr⟩ => ?_
    subst ev
    refine hb H1 (g1.up.trans g1.ok) _ fun v2 G2 H2 g2 p2 => ?_
    cases (show v2 = .int (n : Int) from p2)
    obtain ⟨G3, f1, f2, g3⟩ := g1.join g2
    refine ⟨r, (n : Int), x, rfl, rfl, Evl.st_of (g2.hp _ _ (g1.ok _ _ hr)), by omega, by omega, fun h1 => ?_, fun h1 p hp => ?_⟩
    · have : n = 1 := by omega
      subst this
      exact q _ _ _ g3 ⟨r, rfl, f1 _ _ hr⟩
    · rw [Int.toNat_natCast]
      exact q _ _ _ (g3.trans (.new g3.ok hp)) ⟨p, rfl, upd_same⟩
/-- two for's over lists, a test behind -/
theorem ef_lc2E {j j1 : Nat} {vs vs1 : List Nat} (xs0 : List V) (ys : Nat → List V) (I : Nat → Nat → List V → Hp → Prop) (h : EF tl0 σ G fun v G' => ∃ a, v = .ref a ∧ SqL K G' a xs0)
    (hw : ∀ x, wipe ((wipe σ vs).set j (some x)) vs = wipe σ vs) (hw1 : ∀ x y, wipe ((wipe ((wipe σ vs).set j (some x)) vs1).set j1 (some y)) vs1 = wipe ((wipe σ vs).set j (some x)) vs1) (h0 : ∀ G', Ex G G' → I 0 0 [] G')
    (hx : ∀ (i : Nat) xs G', i < xs0.length → I i (ys i).length xs G' → I (i + 1) 0 xs G')
    (hl : ∀ (i : Nat) x G', Ex G G' → xs0[i]? = some x → EF tl ((wipe σ vs).set j (some x)) G' fun v G'' => ∃ a, v = .ref a ∧ SqL K G'' a (ys i))
    (hm : ∀ i k xs G' G'', Ex G' G'' → I i k xs G' → I i k xs G'')
    (hs : ∀ (i k : Nat) x y xs G', Ex G G' → xs0[i]? = some x → (ys i)[k]? = some y → I i k xs G' → EC t te ((wipe ((wipe σ vs).set j (some x)) vs1).set j1 (some y)) G' (fun G' => I i (k + 1) xs G') fun y G' => I i (k + 1) (xs ++ [y]) G')
    (hc : ∀ i k xs G', I i k xs G' → xs.length ≤ 1000000)
    (hP : ∀ p xs G', G p = none → G' p = none → Ex G G' → I xs0.length 0 xs G' → P (.ref p) (upd G' p (.lst xs))) : EF (tLc2 (iList K tl0) (gName j) tYes (iList K tl) (gName j1) t te vs vs1) σ G P := fun H0 e Q q => h H0 e _ fun v G1 H1 g1 ⟨a0, ev, hs0⟩ => by
  refine ⟨a0, ev, ⟨xs0, Evl.ex_l g1.ok hs0⟩, fun Dl hD => ?_⟩
  refine ⟨fun i m H' => m = xs0.length - i ∧ i ≤ xs0.length ∧ CX2 G1 H1 Dl (I i 0) H', ⟨xs0.length, by simp, Nat.zero_le _, ?_⟩, ?_⟩
  · exact ⟨G1, [], Ex.refl _, ex_off g1.ok (none_back g1.ok hD), none_back g1.ok hD, upd_same, h0 G1 g1.up, Ex.new hD, fun _ _ h => h⟩
  · rintro i m H' ⟨rfl, hi, p⟩
    obtain ⟨G', xs, e1, e2, gD, hd, hI, e3, hcc⟩ := p
    have hs1 := Evl.ex_l (e1.trans e2) hs0
    by_cases hlt : i < xs0.length
    · refine .inr ⟨⟨xs0, xs0[i], hs1, by simp [hlt]⟩, fun H'' => CX2 G1 H1 Dl (I (i + 1) 0) H'', fun H'' p' => ⟨xs0.length - (i + 1), by omega, rfl, hlt, p'⟩, fun x H'' yy => ?_⟩
      obtain ⟨ey, yy⟩ := yy
      subst ey
      have hxi := yy xs0 hs1
      refine ⟨hw _, tyes_go (iteT ?_)⟩
      refine hl i x G' (g1.up.trans e1) hxi _ e2 _ fun v G2 H2 g2 ⟨a, ea, hsl⟩ => ?_
      refine ⟨a, ea, ⟨ys i, Evl.ex_l g2.ok hsl⟩, fun k m H' => m = (ys i).length - k ∧ k ≤ (ys i).length ∧ CX2 G1 H1 Dl (fun xs G3 => Ex G2 G3 ∧ I i k xs G3) H', ⟨(ys i).length, by simp, Nat.zero_le _, ?_⟩, ?_⟩
      · exact ⟨G2, xs, e1.trans g2.up, g2.ok, g2.2.2.2 Dl (ne_none_of hd) gD, g2.hp _ _ hd, ⟨Ex.refl _, hm _ _ _ _ _ g2.up hI⟩, e3.trans g2.hp, fun b hb gb => g2.2.2.2 b (exNe e3 hb) (hcc b hb gb)⟩
      · rintro k m H3 ⟨rfl, hk, p3⟩
        obtain ⟨G4, xs4, f1, f2, fD, fd, ⟨fe, fI⟩, f3, fc⟩ := p3
        have hsl3 := Evl.ex_l (fe.trans f2) hsl
        by_cases hkl : k < (ys i).length
        · refine .inr ⟨⟨ys i, (ys i)[k], hsl3, by simp [hkl]⟩, fun H'' => CX2 G1 H1 Dl (fun xs G3 => Ex G2 G3 ∧ I i (k + 1) xs G3) H'', fun H'' p' => ⟨(ys i).length - (k + 1), by omega, rfl, hkl, p'⟩, fun y H'' yy => ?_⟩
          obtain ⟨ey, yy⟩ := yy
          subst ey
          have hyk := yy (ys i) hsl3
          refine ⟨hw1 _ _, ?_⟩
          refine hs i k x y xs4 G4 (g1.up.trans f1) hxi hyk fI _ f2 (fun o H4 => match o with
            | some y => ∃ acc, H4 Dl = some (.lst acc) ∧ acc.length < sizeLine ∧ CX2 G1 H1 Dl (fun xs G3 => Ex G2 G3 ∧ I i (k + 1) xs G3) (upd H4 Dl (.lst (acc ++ [y])))
            | none => CX2 G1 H1 Dl (fun xs G3 => Ex G2 G3 ∧ I i (k + 1) xs G3) H4) (fun H4 e4 hN => ?_) (fun v5 G5 H5 g5 p5 => ?_)
          · exact ⟨G4, xs4, f1, f2.trans e4, fD, e4 _ _ fd, ⟨fe, hN⟩, f3.trans e4, fc⟩
          · have g5D : G5 Dl = none := g5.2.2.2 Dl (ne_none_of fd) fD
            exact ⟨xs4, g5.hp _ _ fd, Nat.lt_of_le_of_lt (hc _ _ _ _ fI) (by decide), ⟨G5, xs4 ++ [v5], f1.trans g5.up, ex_off g5.ok g5D, g5D, upd_same, ⟨fe.trans g5.up, p5⟩, ex_off (f3.trans g5.hp) hD, fun b hb gb => g5.2.2.2 b (exNe f3 hb) (fc b hb gb)⟩⟩
        · have ek : k = (ys i).length := by omega
          subst ek
          exact .inl ⟨⟨ys i, hsl3, Nat.le_refl _⟩, G4, xs4, f1, f2, fD, fd, hx _ _ _ hlt fI, f3, fc⟩
    · have ei : i = xs0.length := by omega
      subst ei
      refine .inl ⟨⟨xs0, hs1, Nat.le_refl _⟩, ?_⟩
      refine q _ (upd G' Dl (.lst xs)) H' (g1.trans ⟨e1.trans (ex_in gD), ex_know e2 hd, e3, fun a h g => ?_⟩) (hP Dl xs G' (none_back (g1.up.trans g1.ok) hD) gD (g1.up.trans e1) hI)
      rw [upd_ne (fun z => h (by rw [z]; exact hD))]
      exact hcc a h g
theorem walk_zipT {a b : Addr} {xs ys : List V} {n : Nat} (hn : n = min xs.length ys.length) : Walk (RZ.ItzT K a b) n (fun H => SqT K H a xs ∧ SqT K H b ys) (YPair (fun i => xs[i]?) (fun i => ys[i]?)) := by
  subst hn
  refine ⟨fun i _ hi q => ?_, fun _ q => ⟨xs, ys, q.1, q.2, by omega⟩, fun i H v H' _ q y => ?_⟩
  · have h1 : i < xs.length := by omega
    have h2 : i < ys.length := by omega
    exact ⟨xs, ys, xs[i], ys[i], q.1, q.2, by simp [h1], by simp [h2]⟩
  · obtain ⟨T, x, z, h1, h2, h3, h4, h5⟩ := y
    exact ⟨T, x, z, h1, h2, h3, h4 xs q.1, h5 ys q.2⟩
/-- [f(x, y) for x, y in zip(xs, ys)], tuples -/
theorem el_mapZT {xs ys : List V} {n i j : Nat} {g : Nat → PyData} {tz : TA} (hn : n = min xs.length ys.length) (h : EA tz σ G fun vs G' => ∃ a b : Addr, vs = [.ref a, .ref b] ∧ SqT K G' a xs ∧ SqT K G' b ys) (hz : n ≤ 40000) (hw : ∀ p q, wipe (((wipe σ [i, j]).set i p).set j q) [i, j] = wipe σ [i, j])
    (he : ∀ (m : Nat) x y G', Ex G G' → m < n → xs[m]? = some x → ys[m]? = some y → EF te (((wipe σ [i, j]).set i (some x)).set j (some y)) G' (DV K (g m))) :
    EF (tLc (RZ.iZipA K tz) (gTup K 2 (gCons (gName i) (gCons (gName j) gNil))) tYes te [i, j]) σ G (LS K ((List.range n).map g)) := by
  intro H0 e Q q
  unfold tLc RZ.iZipA
  refine h H0 e _ fun us G1 H1 g1 ⟨a, b, ev, hx, hy⟩ => ?_
  subst ev
  refine ⟨a, b, xs, ys, rfl, .inr ⟨Evl.ex_t g1.ok hx, Evl.ex_t g1.ok hy, fun Dl hD => ?_⟩⟩
  refine lc_it (walk_zipT hn) (CW G1 H1 Dl (fun n acc G' => DpAll K G' acc ((List.range n).map g))) (cw_start g1.ok hD .nil) (fun m H' _ p => ?_) (fun m x H' H'' hm p y => ?_) (fun H' p => ?_)
  · obtain ⟨G', _, e1, e2, _⟩ := p
    exact ⟨Evl.ex_t (e1.trans e2) hx, Evl.ex_t (e1.trans e2) hy⟩
  · obtain ⟨T, x1, y1, rfl, hT, rfl, e1, e2⟩ := y
    refine g_two (Evl.st_of upd_same) ⟨hw _ _, ?_⟩
    refine cw_turn hD (cw_new p hT) (by omega) fun acc G' e' hI => ec_all ((he m x1 y1 G' (g1.up.trans e') hm e1 e2).imp fun v G2 e3 pv => ?_)
    rw [List.range_succ, List.map_append]
    exact dpa_snoc (dpax hI e3) pv
  · exact cw_end (P := LS K ((List.range n).map g)) hD g1.ok p (fun p xs' G' _ g' _ hl hI => ⟨p, xs', rfl, upd_same, dpax hI (ex_in g')⟩) fun v G' H' g' p' => q v G' H' (g1.trans g') p'
end
end Lw
set_option Elab.async false
set_option linter.all false
set_option maxRecDepth 100000
set_option maxHeartbeats 4000000
/-! rows and tables counted -/
namespace Lw
open PySem PySem.Spec L2
open Evl (Ex)
/-! ### as mathematics -/
def mxN (r : List Nat) : Nat := r.foldl max 0
def rowsN (yd : Nat → List Nat) : Nat → List (List Nat)
  | 0 => [[]]
  | w + 1 => (rowsN yd w).flatMap fun r => ((yd w).filter fun y => decide (mxN r ≤ y)).map fun y => r ++ [y]
def mayN (u l : List Nat) : Bool := (u.zip l).all fun q => decide (q.2 ≤ q.1)
def sumN (L : List (List Nat × Nat)) (r : List Nat) : Nat := ((L.filter fun q => mayN q.1 r).map (·.2)).sum
def stepC (L : List (List Nat × Nat)) (rows : List (List Nat)) : List (List Nat × Nat) := rows.map fun r => (r, sumN L r)
def cntL (top : List Nat) (rows : Nat → List (List Nat)) : Nat → List (List Nat × Nat)
  | 0 => [(top, 1)]
  | e + 1 => stepC (cntL top rows e) (rows e)
def Ln.yds (p : Ln) (e w : Nat) : List Nat := (List.range (p.ss.length + 1)).filter fun y => p.meet e w y
def Ln.rowsM (p : Ln) (e : Nat) : List (List Nat) := rowsN (p.yds e) p.ws.length
def Ln.topM (p : Ln) : List Nat := List.replicate p.ws.length p.ss.length
def Ln.cntM (p : Ln) (e : Nat) : List (List Nat × Nat) := cntL p.topM p.rowsM e
def Ln.count (p : Ln) : Nat := ((p.cntM p.es.length).map (·.2)).sum
theorem foldl_maxI (r : List Nat) (a : Nat) : (r.map fun n : Nat => (n : Int)).foldl max (a : Int) = ((r.foldl max a : Nat) : Int) := by
  induction r generalizing a with
  | nil => rfl
  | cons b r ih =>
    rw [List.map_cons, List.foldl_cons, List.foldl_cons, ← ih, show max (a : Int) (b : Int) = ((max a b : Nat) : Int) by omega]
theorem mxD_nat (r : List Nat) : mxD (r.map fun n : Nat => (n : Int)) 0 = (mxN r : Int) := by
  cases r with
  | nil => rfl
  | cons a r =>
    show (r.map fun n : Nat => (n : Int)).foldl max (a : Int) = ((List.foldl max (max 0 a) r : Nat) : Int)
    rw [foldl_maxI, Nat.zero_max]
theorem yds_nodup {p : Ln} {e w : Nat} : (p.yds e w).Nodup := List.Nodup.sublist List.filter_sublist List.nodup_range
theorem yds_le {p : Ln} {e w y : Nat} (h : y ∈ p.yds e w) : y ≤ p.ss.length := by
  have := List.mem_range.mp (List.mem_filter.mp h).1
  omega
theorem yds_len {p : Ln} {e w : Nat} : (p.yds e w).length ≤ p.ss.length + 1 := by
  refine Nat.le_trans (List.length_filter_le _ _) ?_
  rw [List.length_range]
  omega
theorem flatMap_len {α β : Type} (f : α → List β) (c : Nat) : ∀ l : List α, (∀ x ∈ l, (f x).length ≤ c) → (l.flatMap f).length ≤ l.length * c
  | [], _ => by simp
  | x :: l, h => by
    rw [List.flatMap_cons, List.length_append, List.length_cons, Nat.add_mul, Nat.one_mul]
    have h1 := h x (List.mem_cons_self ..)
    have h2 := flatMap_len f c l fun y m => h y (List.mem_cons_of_mem _ m)
    omega
theorem rowsN_len {yd : Nat → List Nat} {c : Nat} (h : ∀ w, (yd w).length ≤ c) : ∀ w, (rowsN yd w).length ≤ c ^ w
  | 0 => Nat.le_refl _
  | w + 1 => by
    rw [Nat.pow_succ]
    refine Nat.le_trans (flatMap_len _ c _ fun r _ => ?_) (Nat.mul_le_mul_right c (rowsN_len h w))
    rw [List.length_map]
    exact Nat.le_trans (List.length_filter_le _ _) (h w)
theorem rowsN_wid {yd : Nat → List Nat} : ∀ {w : Nat} {r : List Nat}, r ∈ rowsN yd w → r.length = w
  | 0, r, h => by
    rw [List.mem_singleton.mp h]
    rfl
  | w + 1, r, h => by
    obtain ⟨s, hs, h2⟩ := List.mem_flatMap.mp h
    obtain ⟨y, _, rfl⟩ := List.mem_map.mp h2
    rw [List.length_append, rowsN_wid hs]
    rfl
theorem rowsN_nodup {yd : Nat → List Nat} (h : ∀ w, (yd w).Nodup) : ∀ w, (rowsN yd w).Nodup
  | 0 => by simp [rowsN]
  | w + 1 => by
    unfold rowsN List.Nodup
    rw [List.pairwise_flatMap]
    refine ⟨fun r _ => ?_, ?_⟩
    · rw [List.pairwise_map]
      exact (List.Pairwise.filter _ (h w)).imp fun {a b} hab e => hab (List.singleton_inj.mp (List.append_cancel_left e))
    · refine (rowsN_nodup h w).imp fun {a b} hab x hx y hy e => ?_
      obtain ⟨u, _, rfl⟩ := List.mem_map.mp hx
      obtain ⟨v, _, rfl⟩ := List.mem_map.mp hy
      exact hab (List.append_inj_left' e rfl)
theorem cntL_keys {top : List Nat} {rows : Nat → List (List Nat)} (h : ∀ e, (rows e).Nodup) : ∀ e, ((cntL top rows e).map (·.1)).Nodup
  | 0 => by simp [cntL]
  | e + 1 => by
    have : (cntL top rows (e + 1)).map (·.1) = rows e := by
      show (stepC _ (rows e)).map (·.1) = rows e
      unfold stepC
      rw [List.map_map]
      exact List.map_id _
    rw [this]
    exact h e
theorem rowsM_nodup {p : Ln} {e : Nat} : (p.rowsM e).Nodup := rowsN_nodup (fun _ => yds_nodup) _
theorem pow_le {c w : Nat} (hc : c ≤ 7) (hw : w ≤ 4) : c ^ w ≤ 2401 := by
  refine Nat.le_trans (Nat.pow_le_pow_left hc w) ?_
  exact Nat.le_trans (Nat.pow_le_pow_right (by omega) hw) (by decide)
theorem rowsM_len {p : Ln} {e w : Nat} (hs : p.ss.length ≤ 6) (hw : w ≤ 4) : (rowsN (p.yds e) w).length ≤ 2401 := Nat.le_trans (rowsN_len (c := p.ss.length + 1) (fun _ => yds_len) w) (pow_le (by omega) hw)
theorem cntM_len {p : Ln} (hs : p.ss.length ≤ 6) (hw : p.ws.length ≤ 4) : ∀ e, (p.cntM e).length ≤ 2401
  | 0 => by show 1 ≤ 2401; decide
  | e + 1 => by
    show (stepC _ (p.rowsM e)).length ≤ 2401
    unfold stepC
    rw [List.length_map]
    exact rowsM_len hs hw
/-! ### the dict -/
def rowK (r : List Nat) : List Key := r.map fun n : Nat => Sum.inl (n : Int)
theorem rowK_kV (r : List Nat) : (rowK r).map kV = r.map nV := by
  unfold rowK
  rw [List.map_map]
  rfl
theorem rowK_inj {r s : List Nat} (h : rowK r = rowK s) : r = s := by
  unfold rowK at h
  refine List.map_inj_right (fun a b e => ?_) |>.mp h
  have := Sum.inl.inj e
  omega
def kvN (L : List (List Nat × Nat)) : List (List Key × V) := L.map fun q => (rowK q.1, nV q.2)
theorem val_kvN : ∀ {L : List (List Nat × Nat)} {r : List Nat} {z : Nat}, (L.map (·.1)).Nodup → (r, z) ∈ L → valV (kvN L) (rowK r) = some (nV z)
  | [], r, z, _, h => by cases h
  | x :: L, r, z, hn, h => by
    rw [List.map_cons, List.nodup_cons] at hn
    rcases List.mem_cons.mp h with e | h
    · subst e
      exact valV_pos rfl
    · have : x.1 ≠ r := fun e => hn.1 (by rw [e]; exact List.mem_map.mpr ⟨_, h, rfl⟩)
      show valV ((rowK x.1, nV x.2) :: kvN L) (rowK r) = _
      rw [valV_neg (fun e => this (rowK_inj e))]
      exact val_kvN hn.2 h
theorem put_kvN {L : List (List Nat × Nat)} {r : List Nat} {z : Nat} (h : r ∉ L.map (·.1)) : putK (kvN L) (rowK r) (nV z) = kvN (L ++ [(r, z)]) := by
  unfold putK
  rw [if_neg]
  · simp [kvN]
  · intro e
    obtain ⟨kv, hm, hk⟩ := List.any_eq_true.mp e
    obtain ⟨q, hq, rfl⟩ := List.mem_map.mp hm
    exact h (List.mem_map.mpr ⟨q, hq, rowK_inj (of_decide_eq_true hk)⟩)
section
variable {K : PySem.W.Frag} {σ : L2.St} {G G' H H1 : Hp} {D : Ends} {ta tb te tk tl td : TE} {t : TT} {P P' : VP}
theorem ef_lockE {d : Addr} {u : HO} (hd : G d = some u) (mu : Mut (some u)) (h : ∀ od, EF te σ (upd G d (.frz od u)) P) (hP : ∀ od v G', Ex (upd G d (.frz od u)) G' → P v G' → P' v (upd G' d u)) : EF (tLockE te) σ G P' := fun H e Q q => by
  refine ⟨d, u, e _ _ hd, mu, fun od => ?_⟩
  have e1 : Ex (upd G d (.frz od u)) (upd H d (.frz od u)) := fun a o ha => by
    by_cases hb : a = d
    · subst hb; rw [upd_same] at ha ⊢; exact ha
    · rw [upd_ne hb] at ha ⊢; exact e _ _ ha
  refine h od _ e1 _ fun v G' H' g p => ⟨g.hp _ _ upd_same, ?_⟩
  refine q v (upd G' d u) (upd H' d u) ⟨fun a o ha => ?_, fun a o ha => ?_, fun a o ha => ?_, fun a ha hg => ?_⟩ (hP od v G' g.up p)
  · by_cases hb : a = d
    · subst hb; rw [upd_same]; rw [hd] at ha; exact ha
    · rw [upd_ne hb]; exact g.up _ _ (by rw [upd_ne hb]; exact ha)
  · by_cases hb : a = d
    · subst hb; rw [upd_same] at ha ⊢; exact ha
    · rw [upd_ne hb] at ha ⊢; exact g.ok _ _ ha
  · by_cases hb : a = d
    · subst hb; rw [upd_same]; rw [e _ _ hd] at ha; exact ha
    · rw [upd_ne hb]; exact g.hp _ _ (by rw [upd_ne hb]; exact ha)
  · have hb : a ≠ d := fun z => by rw [z, hd] at hg; cases hg
    rw [upd_ne hb]
    exact g.2.2.2 a (by rw [upd_ne hb]; exact ha) (by rw [upd_ne hb]; exact hg)
theorem walk_kN {d : Addr} {od : Obj} (L : List (List Nat × Nat)) : Walk (Itkt d od (kvN L)) L.length (fun H => H d = some (.frz od (.dT (kvN L))))
    (fun i H x H' => H' = H ∧ ∃ (k : List Key) (v : V) (q : Addr), (kvN L)[i]? = some (k, v) ∧ x = .ref q ∧ H q = some (.tup (k.map kV))) := by
  have := walk_keysT (d := d) (o := od) (kvs := kvN L)
  rw [show (kvN L).length = L.length by unfold kvN; rw [List.length_map]] at this
  exact this
/-- [d[k] for k in d if f(k)] -/
theorem el_keysT {d : Addr} {od : Obj} {L : List (List Nat × Nat)} {f : List Nat → Bool} {j jd : Nat} (hd : G d = some (.frz od (.dT (kvN L)))) (hv : EF td σ G (XV (.ref d))) (hz : L.length ≤ 40000) (nd : (L.map (·.1)).Nodup)
    (hw : ∀ x, wipe ((wipe σ [j]).set j (some x)) [j] = wipe σ [j]) (hjd : ∀ x, ((wipe σ [j]).set j (some x))[jd]? = some (some (.ref d))) (hj : ∀ x, ((wipe σ [j]).set j (some x))[j]? = some (some x))
    (ht : ∀ (q : Addr) (r : List Nat) G', Ex G G' → r ∈ L.map (·.1) → G' q = some (.tup (r.map nV)) → ET t ((wipe σ [j]).set j (some (.ref q))) G' (· = f r)) :
    EF (tLc (iKeys td) (gName j) t (tDGet (tVar jd) (tVar j)) [j]) σ G (fun v G' => ∃ q : Addr, v = .ref q ∧ G' q = some (.lst ((L.filter fun q => f q.1).map fun q => nV q.2))) := by
  intro H0 e Q q
  refine hv H0 e _ fun v G1 H1 g1 pv => ?_
  cases (show v = _ from pv)
  have hd1 := g1.ok _ _ (g1.up _ _ hd)
  refine ⟨d, od, rfl, .inr ⟨kvN L, hd1, fun Dl hD => ?_⟩⟩
  refine lc_it (n := L.length) (walk_kN L) (CW G1 H1 Dl (fun n acc G' => acc = ((L.take n).filter fun q => f q.1).map fun q => nV q.2)) (cw_start g1.ok hD rfl) (fun m H' _ p => ?_) (fun m x H' H'' hm p y => ?_) (fun H' p => ?_)
  · obtain ⟨G', _, e1, e2, _⟩ := p
    exact e2 _ _ (e1 _ _ (g1.up _ _ hd))
  · obtain ⟨rfl, k, v, qa, hk, rfl, hq⟩ := y
    obtain ⟨⟨r, z⟩, hLz, ek⟩ : ∃ x, L[m]? = some x ∧ (rowK x.1, nV x.2) = (k, v) := by
      unfold kvN at hk
      rw [List.getElem?_map] at hk
      exact Option.map_eq_some_iff.mp hk
    cases ek
    rw [rowK_kV] at hq
    obtain ⟨G', xs, e1, e2, gD, hDl, hl, hI, e3, hcc⟩ := p
    have hmem : (r, z) ∈ L := List.mem_of_getElem? hLz
    have et : L.take (m + 1) = L.take m ++ [(r, z)] := by rw [List.take_succ, hLz, Option.toList_some]
    refine ⟨hw _, ht qa r (upd G' qa (.tup (r.map nV))) (fun a o ha => ?_) (List.mem_map.mpr ⟨_, hmem, rfl⟩) upd_same _ (ex_know e2 hq) _ fun b H3 e4 hb => ?_⟩
    · by_cases hb : a = qa
      · subst hb
        rw [upd_same]
        have := e2 _ _ (e1 _ _ (g1.up _ _ ha))
        rw [hq] at this
        exact this
      · rw [upd_ne hb]
        exact e1 _ _ (g1.up _ _ ha)
    · subst hb
      cases hf : f r with
      | true =>
        rw [if_pos rfl]
        refine ⟨.ref d, hjd _, .ref qa, hj _, d, nV z, rfl, .inr ⟨kvN L, rowK r, qa, .inr ⟨od, e4 _ _ (e2 _ _ (e1 _ _ (g1.up _ _ hd)))⟩, rfl, ?_, (val_kvN nd hmem).symm⟩, xs, e4 _ _ hDl, ?_, G', xs ++ [nV z], e1, ex_off (e2.trans e4) gD, gD, upd_same, ?_, ?_, ex_off (e3.trans e4) hD, hcc⟩
        · rw [rowK_kV]
          exact e4 _ _ hq
        · exact Nat.lt_of_le_of_lt hl (Nat.lt_of_lt_of_le (show m < 50000 by omega) (by decide))
        · rw [List.length_append, List.length_singleton]
          omega
        · show _ = _
          rw [et, List.filter_append, List.map_append, ← hI]
          simp [hf]
      | false =>
        rw [if_neg Bool.false_ne_true]
        refine ⟨G', xs, e1, e2.trans e4, gD, e4 _ _ hDl, by omega, ?_, e3.trans e4, hcc⟩
        show _ = _
        rw [et, List.filter_append, List.map_append, ← hI]
        simp [hf]
  · refine cw_end (P := fun v G' => ∃ q : Addr, v = .ref q ∧ G' q = some (.lst ((L.filter fun q => f q.1).map fun q => nV q.2))) hD g1.ok p (fun p xs' G' _ g' _ hl hI => ?_) fun v G' H' g' p' => q v G' H' (g1.trans g') p'
    have hI : xs' = _ := hI
    rw [List.take_length] at hI
    exact ⟨p, rfl, by rw [upd_same, hI]⟩
end
end Lw
set_option Elab.async false
set_option linter.all false
set_option maxRecDepth 100000
set_option maxHeartbeats 4000000
/-! counting, the promises -/
namespace Lw
open PySem PySem.Spec L2
open Evl (Ex)
def RowV (r : List Nat) : VP := fun v G => ∃ q : Addr, v = .ref q ∧ G q = some (.tup (r.map nV))
def RowsV (l : List (List Nat)) : VP := fun v G => ∃ (a : Addr) (xs : List V), v = .ref a ∧ G a = some (.lst xs) ∧ TupL G xs l
def spTopR (K : PySem.W.Frag) (C CLn : Addr) : Sp := fun vs H Q _ => ∃ (G : Hp) (x : Addr) (p : Ln), Ex G H ∧ vs = [.ref x] ∧ LinC K C CLn G x p ∧ p.err = none ∧ Ret G H (RowV p.topM) Q
def spMayF (K : PySem.W.Frag) : Sp := fun vs H Q _ => ∃ (G : Hp) (a b : Addr) (u l : List Nat), Ex G H ∧ vs = [.ref a, .ref b] ∧ G a = some (.tup (u.map nV)) ∧ G b = some (.tup (l.map nV)) ∧ l.length ≤ 100 ∧ Ret G H (XV (.bl (mayN u l))) Q
def spRowsC (K : PySem.W.Frag) (C CLn : Addr) : Sp := fun vs H Q _ => ∃ (G : Hp) (x : Addr) (p : Ln) (e : Nat), Ex G H ∧ vs = [.ref x, .int (e : Int)] ∧ LinC K C CLn G x p ∧ p.err = none ∧ e < p.es.length ∧ Ret G H (RowsV (p.rowsM e)) Q
def spCount (K : PySem.W.Frag) (C CLn : Addr) : Sp := fun vs H Q _ => ∃ (G : Hp) (x : Addr) (p : Ln), Ex G H ∧ vs = [.ref x] ∧ LinC K C CLn G x p ∧ p.err = none ∧ Ret G H (XV (.int (p.count : Int))) Q
section
variable {K : PySem.W.Frag} {C CLn : Addr} {G : Hp} {x a b : Addr} {p : Ln} {u l : List Nat} {e : Nat}
theorem sa_topR (h : LinC K C CLn G x p) (he : p.err = none) : SA (spTopR K C CLn) [.ref x] G (RowV p.topM) := fun H e Q _ q => ⟨G, x, p, e, rfl, h, he, q⟩
theorem sa_mayF (h1 : G a = some (.tup (u.map nV))) (h2 : G b = some (.tup (l.map nV))) (hl : l.length ≤ 100) : SA (spMayF K) [.ref a, .ref b] G (XV (.bl (mayN u l))) := fun H e Q _ q => ⟨G, a, b, u, l, e, rfl, h1, h2, hl, q⟩
theorem sa_rowsC (h : LinC K C CLn G x p) (he : p.err = none) (hi : e < p.es.length) : SA (spRowsC K C CLn) [.ref x, .int (e : Int)] G (RowsV (p.rowsM e)) := fun H e' Q _ q => ⟨G, x, p, e, e', rfl, h, he, hi, q⟩
theorem sa_count (h : LinC K C CLn G x p) (he : p.err = none) : SA (spCount K C CLn) [.ref x] G (XV (.int (p.count : Int))) := fun H e Q _ q => ⟨G, x, p, e, rfl, h, he, q⟩
end
theorem mayN_eq (u l : List Nat) : ((List.range (min u.length l.length)).map fun m => decide (l.getD m 0 ≤ u.getD m 0)).all id = mayN u l := by
  rw [Bool.eq_iff_iff]
  unfold mayN
  rw [List.all_eq_true, List.all_eq_true]
  constructor
  · intro h q hq
    obtain ⟨i, hi, e⟩ := List.mem_iff_getElem.mp hq
    rw [List.length_zip] at hi
    rw [List.getElem_zip] at e
    have h1 : i < u.length := by omega
    have h2 : i < l.length := by omega
    have := h _ (List.mem_map.mpr ⟨i, List.mem_range.mpr hi, rfl⟩)
    rw [List.getD_eq_getElem?_getD, List.getD_eq_getElem?_getD, List.getElem?_eq_getElem h1, List.getElem?_eq_getElem h2] at this
    rw [← e]
    exact this
  · intro h b hb
    obtain ⟨i, hi, rfl⟩ := List.mem_map.mp hb
    have hi := List.mem_range.mp hi
    have h1 : i < u.length := by omega
    have h2 : i < l.length := by omega
    have := h (u[i], l[i]) (List.mem_iff_getElem.mpr ⟨i, by rw [List.length_zip]; exact hi, by rw [List.getElem_zip]⟩)
    show decide _ = true
    rw [List.getD_eq_getElem?_getD, List.getD_eq_getElem?_getD, List.getElem?_eq_getElem h1, List.getElem?_eq_getElem h2]
    exact this
def nxR (yd : List Nat) (r : List Nat) : List (List Nat) := (yd.filter fun y => decide (mxN r ≤ y)).map fun y => r ++ [y]
def partR (rows : List (List Nat)) (yd : List Nat) (i k : Nat) : List (List Nat) := match rows[i]? with
  | some r => nxR (yd.take k) r
  | none => []
theorem nxR_len {yd r : List Nat} : (nxR yd r).length ≤ yd.length := by
  unfold nxR
  rw [List.length_map]
  exact List.length_filter_le _ _
theorem partR_0 {rows : List (List Nat)} {yd : List Nat} {i : Nat} : partR rows yd i 0 = [] := by
  unfold partR
  cases rows[i]? <;> rfl
theorem partR_len {rows : List (List Nat)} {yd : List Nat} {i k : Nat} : (partR rows yd i k).length ≤ yd.length := by
  unfold partR
  cases rows[i]? with
  | none => exact Nat.zero_le _
  | some r => exact Nat.le_trans nxR_len (by rw [List.length_take]; omega)
theorem partR_all {rows : List (List Nat)} {yd : List Nat} {i : Nat} (h : i < rows.length) : (rows.take i).flatMap (nxR yd) ++ partR rows yd i yd.length = (rows.take (i + 1)).flatMap (nxR yd) ++ partR rows yd (i + 1) 0 := by
  rw [partR_0, List.append_nil, List.take_succ, List.getElem?_eq_getElem h, Option.toList_some, List.flatMap_append, List.flatMap_singleton]
  unfold partR
  rw [List.getElem?_eq_getElem h, List.take_length]
theorem partR_s {rows : List (List Nat)} {yd : List Nat} {i k y : Nat} {r : List Nat} (hr : rows[i]? = some r) (hy : yd[k]? = some y) : partR rows yd i (k + 1) = partR rows yd i k ++ (if mxN r ≤ y then [r ++ [y]] else []) := by
  unfold partR
  rw [hr]
  show nxR _ r = nxR _ r ++ _
  unfold nxR
  rw [List.take_succ, hy, Option.toList_some, List.filter_append, List.map_append]
  split
  · rename_i h
    simp [h]
  · rename_i h
    simp [h]
section
variable {K : PySem.W.Frag} {σ : L2.St} {G : Hp} {ta tb : TE} {t : TA}
theorem ex_maxT {r : List Nat} {q : Addr} (ha : EF ta σ G (XV (.ref q))) (hq : G q = some (.tup (r.map nV))) (hb : EF tb σ G (XV (.int 0))) : EF (tCKw (rMaxT K) (tCons ta tNil) (tCons tb tNil)) σ G (XV (.int (mxN r : Int))) := fun H e Q k => (ea_one ha) H e _ fun vs G1 H1 g1 ⟨x, ev, hx⟩ => (ea_one hb) H1 (g1.up.trans g1.ok) _ fun zs G2 H2 g2 ⟨z, ez, hz⟩ => by
  subst ev ez
  cases (show x = _ from hx)
  cases (show z = _ from hz)
  refine ⟨q, r.map fun n : Nat => (n : Int), 0, rfl, rfl, Evl.st_of (by rw [List.map_map]; exact g2.hp _ _ (g1.ok _ _ (g1.up _ _ hq))), ?_⟩
  rw [mxD_nat]
  exact k _ G2 H2 ((Gr.same e g1.hp).trans g2) rfl
theorem ea_starT {r : List Nat} {q : Addr} {R : List V → Hp → Prop} (ha : EF ta σ G (XV (.ref q))) (hq : G q = some (.tup (r.map nV))) (h : EA t σ G R) : EA (StX.tStar K ta t) σ G fun vs G' => ∃ ws, vs = r.map nV ++ ws ∧ R ws G' := fun H e Q k => ha H e _ fun x G1 H1 g1 hx => by
  cases (show x = _ from hx)
  refine ⟨q, r.map nV, rfl, .inl (Evl.st_of (g1.ok _ _ (g1.up _ _ hq))), h H1 (g1.up.trans g1.ok) _ fun ws G2 H2 g2 hR => ?_⟩
  exact k _ G2 H2 ((Gr.same e g1.hp).trans g2) ⟨ws, rfl, hR⟩
end
end Lw
set_option Elab.async false
set_option linter.all false
set_option maxRecDepth 100000
set_option maxHeartbeats 4000000
/-! a dict of rows: made, stored, walked, summed -/
namespace Lw
open PySem PySem.Spec L2
open Evl (Ex)
section
variable {K : PySem.W.Frag} {σ : L2.St} {G G' H H1 : Hp} {D : Ends} {ta tb te tk tl tv td : TE} {t : TT} {P : VP} {d f : Addr} {L : List (List Nat × Nat)} {r : List Nat} {g : TG} {tu : TS}
theorem ef_fnewN {z : Nat} (hi : EF tk σ G (RowV r)) (hz : ∀ G', Ex G G' → EF tv σ G' (XV (nV z))) : EF (tDispT tk tv) σ G fun v G' => ∃ q : Addr, v = .ref q ∧ G q = none ∧ G' q = some (.dT (kvN [(r, z)])) := fun H hE Q q p hp => by
  have hpG := none_back hE hp
  have e1 : Ex H (upd H p (.dT [])) := ex_in hp
  refine hi _ (hE.trans e1) _ fun y G1 H1 g1 ⟨b, ey, hb⟩ => hz G1 g1.up H1 g1.ok _ fun x G2 H2 g2 ex => ?_
  cases (show x = _ from ex)
  subst ey
  have g12 := g1.trans g2
  have hpd : H2 p = some (.dT []) := g12.hp _ _ upd_same
  have hpn : G2 p = none := g12.2.2.2 p (by rw [upd_same]; exact fun z => nomatch z) hpG
  refine ⟨hpd, b, rowK r, nV z, rfl, by rw [rowK_kV]; exact g2.ok _ _ (g2.up _ _ hb), ?_⟩
  refine q (.ref p) (upd G2 p (.dT (kvN [(r, z)]))) _ ?_ ⟨p, rfl, hpG, upd_same⟩
  exact Gr.mut hE ((Gr.same hE e1).trans g12) hp
theorem ef_dnewT : EF tDNewT σ G fun v G' => ∃ q : Addr, v = .ref q ∧ G q = none ∧ G' q = some (.dT (kvN [])) := fun H e Q q p hp => q _ (upd G p (.dT [])) _ (Gr.new e hp) ⟨p, rfl, none_back e hp, upd_same⟩
/-- for row in rows that a call makes -/
theorem st_forRw {rows : List (List Nat)} (hG : Ex G H) (h : EF tl σ G (RowsV rows)) (W : Addr → List V → Nat → L2.St → Hp → Prop) (h0 : ∀ a xs G' H', Gr G G' H H' → G' a = some (.lst xs) → TupL G' xs rows → W a xs 0 σ H')
    (hl : ∀ a xs i σ' H', W a xs i σ' H' → H' a = some (.lst xs))
    (hs : ∀ a xs i x r σ' H', xs[i]? = some x → rows[i]? = some r → W a xs i σ' H' → g x σ' H' fun σ2 H2 => tu { D with nx := W a xs (i + 1), ct := W a xs (i + 1), bk := D.nx } σ2 H2)
    (hd : ∀ a xs σ' H', W a xs rows.length σ' H' → D.nx σ' H') : tFor (iList K tl) g tu D σ H :=
  h H hG _ fun v G1 H1 g1 ⟨a, xs, ev, ha, hT⟩ => ⟨a, ev, ⟨xs, Evl.sq_of (g1.ok _ _ ha)⟩, for_list (xs := xs) (W a xs) (h0 a xs G1 H1 g1 ha hT) (fun i σ' H' _ w => Evl.sq_of (hl a xs i σ' H' w)) (fun i x σ' H' hi w => by
    obtain ⟨r, hr⟩ : ∃ r, rows[i]? = some r := ⟨_, List.getElem?_eq_getElem (by rw [← hT.1]; exact (List.getElem?_eq_some_iff.mp hi).1)⟩
    exact hs a xs i x r σ' H' hi hr w) fun σ' H' w => hd a xs σ' H' (by rw [← hT.1]; exact w)⟩
/-- d[row] = z, a new key -/
theorem st_fputN {i j z : Nat} {q : Addr} (hd : H1 d = some (.dT (kvN L))) (hn : r ∉ L.map (·.1)) (hl : L.length < 5000) (hv : EF te σ H1 (XV (nV z))) (ho : σ[i]? = some (some (.ref d))) (hi : σ[j]? = some (some (.ref q))) (hp : H1 q = some (.tup (r.map nV))) (k : ∀ H2, Ex H1 H2 → D.nx σ (upd H2 d (.dT (kvN (L ++ [(r, z)]))))) : tAsg te (gSub (tVar i) (tVar j) rSetD) D σ H1 := by
  refine hv H1 (Ex.refl _) _ fun v G2 H2 g2 pv => ?_
  cases (show v = _ from pv)
  refine ⟨.ref d, ho, .ref q, hi, d, _, rfl, DPut.t (k := rowK r) (g2.hp _ _ hd) (by rw [rowK_kV]; exact g2.hp _ _ hp) ?_, ?_⟩
  · unfold kvN
    rw [List.length_map]
    exact Nat.lt_of_lt_of_le hl (by decide)
  · rw [put_kvN hn]
    exact k H2 g2.hp
theorem sum_cast : ∀ l : List Nat, (l.map fun n : Nat => (n : Int)).sum = ((l.sum : Nat) : Int)
  | [] => rfl
  | n :: l => by rw [List.map_cons, List.sum_cons, List.sum_cons, sum_cast l, Int.natCast_add]
/-- sum([d[k] for k in d if may follow]) -/
theorem ex_sumK {j jd : Nat} {r : List Nat} (hd : G d = some (.dT (kvN L))) (hv : ∀ G', EF td σ G' (XV (.ref d))) (hz : L.length ≤ 40000) (nd : (L.map (·.1)).Nodup)
    (hw : ∀ x, wipe ((wipe σ [j]).set j (some x)) [j] = wipe σ [j]) (hjd : ∀ x, ((wipe σ [j]).set j (some x))[jd]? = some (some (.ref d))) (hj : ∀ x, ((wipe σ [j]).set j (some x))[j]? = some (some x))
    (ht : ∀ (od : Obj) (q : Addr) (u : List Nat) G', Ex (upd G d (.frz od (.dT (kvN L)))) G' → u ∈ L.map (·.1) → G' q = some (.tup (u.map nV)) → ET t ((wipe σ [j]).set j (some (.ref q))) G' (· = mayN u r)) :
    EF (tCB (rSum K) (tCons (tLockE (tLc (iKeys td) (gName j) t (tDGet (tVar jd) (tVar j)) [j])) tNil)) σ G (XV (nV (sumN L r))) := by
  refine (ex_sumL (ns := (L.filter fun q => mayN q.1 r).map fun q => (q.2 : Int)) (ef_lockE (P := fun v G' => ∃ q : Addr, v = .ref q ∧ G' q = some (.lst ((L.filter fun q => mayN q.1 r).map fun q => nV q.2))) hd trivial (fun od => el_keysT (od := od) upd_same (hv _) hz nd hw hjd hj (ht od)) fun od v G' e pv => ?_)).imp fun v _ _ pv => ?_
  · obtain ⟨a, rfl, ha⟩ := pv
    have hne : a ≠ d := fun z => by
      have h2 : G' d = some (.frz od (.dT (kvN L))) := e _ _ upd_same
      rw [z, h2] at ha
      cases ha
    refine dp_mkL (xs := (L.filter fun q => mayN q.1 r).map fun q => nV q.2) (by rw [upd_ne hne]; exact ha) ?_
    have : ((L.filter fun q => mayN q.1 r).map fun q => nV q.2) = ((L.filter fun q => mayN q.1 r).map fun q => (q.2 : Int)).map V.int := by
      rw [List.map_map]
      rfl
    rw [this]
    exact dpa_ints _
  · rw [show v = _ from pv]
    show V.int _ = V.int _
    unfold sumN
    rw [← sum_cast, List.map_map]
    rfl
theorem ef_valsL (hd : G d = some (.dT (kvN L))) (hv : EF td σ G (XV (.ref d))) : EF (tListVT td) σ G (DV K (dI (L.map fun q => (q.2 : Int)))) := fun H e Q q => hv H e _ fun v G1 H1 g1 pv => by
  cases (show v = _ from pv)
  refine ⟨d, kvN L, rfl, g1.ok _ _ (g1.up _ _ hd), fun p hp => ?_⟩
  refine q _ _ _ (g1.trans (.new g1.ok hp)) (dp_mkL upd_same ?_)
  have : (kvN L).map (·.2) = (L.map fun q => (q.2 : Int)).map V.int := by
    unfold kvN
    rw [List.map_map, List.map_map]
    rfl
  rw [this]
  exact dpa_ints _
end
end Lw
set_option Elab.async false
set_option linter.all false
set_option maxRecDepth 100000
set_option maxHeartbeats 4000000
/-! counting cell by cell is counting row by row -/
namespace Lw
/-- a count told by a number for each row -/
def wtN (F : List Nat → Nat) (L : List (List Nat × Nat)) : Nat := (L.map fun q => q.2 * F q.1).sum
theorem wtN_nil {F : List Nat → Nat} : wtN F [] = 0 := rfl
theorem wtN_cons {F : List Nat → Nat} {q : List Nat × Nat} {L : List (List Nat × Nat)} : wtN F (q :: L) = q.2 * F q.1 + wtN F L := rfl
theorem wtN_app {F : List Nat → Nat} {L M : List (List Nat × Nat)} : wtN F (L ++ M) = wtN F L + wtN F M := by
  unfold wtN
  rw [List.map_append, List.sum_append]
theorem wtN_one {L : List (List Nat × Nat)} : wtN (fun _ => 1) L = (L.map (·.2)).sum := by
  unfold wtN
  congr 1
  exact List.map_congr_left fun q _ => Nat.mul_one _
theorem wtN_congr {F G : List Nat → Nat} {L : List (List Nat × Nat)} (h : ∀ q ∈ L, F q.1 = G q.1) : wtN F L = wtN G L := by
  unfold wtN
  rw [List.map_congr_left fun q m => by rw [h q m]]
def sumF (F : List Nat → Nat) (l : List (List Nat)) : Nat := (l.map F).sum
theorem sumF_cons {F : List Nat → Nat} {r : List Nat} {l : List (List Nat)} : sumF F (r :: l) = F r + sumF F l := rfl
theorem sumF_app {F : List Nat → Nat} {l m : List (List Nat)} : sumF F (l ++ m) = sumF F l + sumF F m := by
  unfold sumF
  rw [List.map_append, List.sum_append]
theorem sumF_flat {F : List Nat → Nat} {f : List Nat → List (List Nat)} : ∀ l : List (List Nat), sumF F (l.flatMap f) = sumF (fun r => sumF F (f r)) l
  | [] => rfl
  | r :: l => by rw [List.flatMap_cons, sumF_app, sumF_cons, sumF_flat l]
theorem sumF_congr {F G : List Nat → Nat} {l : List (List Nat)} (h : ∀ r ∈ l, F r = G r) : sumF F l = sumF G l := by
  unfold sumF
  rw [List.map_congr_left h]
/-- rows below a row -/
def belN (rows : List (List Nat)) (F : List Nat → Nat) (u : List Nat) : Nat := sumF F (rows.filter fun r => mayN u r)
theorem sumF_add {A B : List Nat → Nat} : ∀ l : List (List Nat), sumF (fun r => A r + B r) l = sumF A l + sumF B l
  | [] => rfl
  | r :: l => by
    rw [sumF_cons, sumF_cons, sumF_cons, sumF_add l]
    omega
theorem sumF_zero : ∀ l : List (List Nat), sumF (fun _ => 0) l = 0
  | [] => rfl
  | r :: l => by rw [sumF_cons, sumF_zero l]
theorem sumF_if {F : List Nat → Nat} {u : List Nat} {c : Nat} : ∀ rows : List (List Nat), sumF (fun r => (if mayN u r = true then c else 0) * F r) rows = c * belN rows F u
  | [] => rfl
  | r :: rows => by
    rw [sumF_cons, sumF_if rows]
    unfold belN
    rw [List.filter_cons]
    cases h : mayN u r with
    | true =>
      rw [if_pos rfl, if_pos rfl, sumF_cons, Nat.mul_add]
    | false =>
      rw [if_neg Bool.false_ne_true, if_neg Bool.false_ne_true, Nat.zero_mul, Nat.zero_add]
theorem sumN_cons {q : List Nat × Nat} {L : List (List Nat × Nat)} {r : List Nat} : sumN (q :: L) r = (if mayN q.1 r = true then q.2 else 0) + sumN L r := by
  unfold sumN
  rw [List.filter_cons]
  cases h : mayN q.1 r with
  | true =>
    rw [if_pos rfl, if_pos rfl]
    rfl
  | false =>
    rw [if_neg Bool.false_ne_true, if_neg Bool.false_ne_true, Nat.zero_add]
theorem wtN_stepS {F : List Nat → Nat} {rows : List (List Nat)} {L : List (List Nat × Nat)} : wtN F (stepC L rows) = sumF (fun r => sumN L r * F r) rows := by
  unfold wtN stepC sumF
  rw [List.map_map]
  rfl
/-- a row more, counted -/
theorem wtN_step {F : List Nat → Nat} {rows : List (List Nat)} : ∀ L : List (List Nat × Nat), wtN F (stepC L rows) = wtN (belN rows F) L
  | [] => by
    rw [wtN_stepS]
    have : (fun r => sumN [] r * F r) = fun _ => 0 := funext fun r => Nat.zero_mul _
    rw [this, sumF_zero]
    rfl
  | q :: L => by
    rw [wtN_stepS, wtN_cons, ← wtN_step L, wtN_stepS, ← sumF_if, ← sumF_add]
    exact sumF_congr fun r _ => by rw [sumN_cons, Nat.add_mul]
/-! ### one cell -/
def lowN (j : Nat) (u : List Nat) : Nat := if j = 0 then 0 else u.getD (j - 1) 0
def celN (mt : Nat → Bool) (j : Nat) (u : List Nat) : List (List Nat) := ((List.range (u.getD j 0 + 1)).filter fun k => decide (lowN j u ≤ k) && mt k).map fun k => u.set j k
def celF (mt : Nat → Bool) (j : Nat) (F : List Nat → Nat) (u : List Nat) : Nat := sumF F (celN mt j u)
/-- the cells from j on -/
def rowFc (mt : Nat → Nat → Bool) (F : List Nat → Nat) : Nat → Nat → List Nat → Nat
  | _, 0 => F
  | j, n + 1 => celF (mt j) j (rowFc mt F (j + 1) n)
theorem range_cut {a b : Nat} (h : a ≤ b) (f : Nat → Bool) : (List.range (b + 1)).filter (fun k => decide (k ≤ a) && f k) = (List.range (a + 1)).filter f := by
  obtain ⟨c, rfl⟩ : ∃ c, b = a + c := ⟨b - a, by omega⟩
  induction c with
  | zero =>
    refine List.filter_congr fun k m => ?_
    rw [decide_eq_true (by have := List.mem_range.mp m; omega)]
    rfl
  | succ c ih =>
    rw [show a + (c + 1) + 1 = (a + c + 1) + 1 by omega, List.range_succ, List.filter_append, ih (by omega), List.filter_cons, List.filter_nil, decide_eq_false (by omega)]
    show _ ++ (if false = true then _ else _) = _
    rw [if_neg Bool.false_ne_true, List.append_nil]
theorem mxN_snoc {r : List Nat} {y : Nat} (h : mxN r ≤ y) : mxN (r ++ [y]) = y := by
  unfold mxN at h ⊢
  rw [List.foldl_append]
  show max (r.foldl max 0) y = y
  omega
theorem rowsN_low {yd : Nat → List Nat} : ∀ {j : Nat} {r : List Nat}, r ∈ rowsN yd j → mxN r = lowN j r
  | 0, r, h => by
    rw [List.mem_singleton.mp h]
    rfl
  | j + 1, r, h => by
    obtain ⟨s, hs, h2⟩ := List.mem_flatMap.mp h
    obtain ⟨y, hy, rfl⟩ := List.mem_map.mp h2
    have hy := of_decide_eq_true (List.mem_filter.mp hy).2
    rw [mxN_snoc hy]
    unfold lowN
    rw [if_neg (by omega), List.getD_eq_getElem?_getD, List.getElem?_append_right (by rw [rowsN_wid hs]; omega), rowsN_wid hs]
    show y = ([y][j + 1 - 1 - j]?).getD 0
    rw [show j + 1 - 1 - j = 0 by omega]
    rfl
theorem mayN_snoc : ∀ {u r : List Nat} {y : Nat}, r.length < u.length → mayN u (r ++ [y]) = (mayN u r && decide (y ≤ u.getD r.length 0))
  | [], r, y, h => by cases h
  | a :: u, [], y, h => by
    show (decide (y ≤ a) && mayN u []) = (true && decide (y ≤ a))
    unfold mayN
    rw [List.zip_nil_right]
    cases decide (y ≤ a) <;> rfl
  | a :: u, b :: r, y, h => by
    show (decide (b ≤ a) && mayN u (r ++ [y])) = ((decide (b ≤ a) && mayN u r) && decide (y ≤ u.getD r.length 0))
    rw [mayN_snoc (by simpa using h), Bool.and_assoc]
theorem sumF_filter {F : List Nat → Nat} {p : List Nat → Bool} : ∀ l : List (List Nat), sumF F (l.filter p) = sumF (fun r => if p r = true then F r else 0) l
  | [] => rfl
  | r :: l => by
    rw [List.filter_cons, sumF_cons, ← sumF_filter l]
    cases p r with
    | true => rw [if_pos rfl, if_pos rfl, sumF_cons]
    | false => rw [if_neg Bool.false_ne_true, if_neg Bool.false_ne_true, Nat.zero_add]
theorem sumF_map {F : List Nat → Nat} {g : Nat → List Nat} {l : List Nat} : sumF F (l.map g) = (l.map fun k => F (g k)).sum := by
  unfold sumF
  rw [List.map_map]
  rfl
/-- the first j cells of a row are told, the others stand as above -/
def partA (yd : Nat → List Nat) (j : Nat) (u : List Nat) (F : List Nat → Nat) : Nat := sumF (fun r => F (r ++ u.drop j)) ((rowsN yd j).filter fun r => mayN u r)
theorem partA_step {yd : Nat → List Nat} {mt : Nat → Bool} {S j : Nat} {u : List Nat} {F : List Nat → Nat} (hy : yd j = (List.range (S + 1)).filter mt) (hj : j < u.length) (hu : u.getD j 0 ≤ S) : partA yd (j + 1) u F = partA yd j u (celF mt j F) := by
  unfold partA
  rw [sumF_filter, sumF_filter]
  show sumF _ ((rowsN yd j).flatMap _) = _
  rw [sumF_flat]
  refine sumF_congr fun r hr => ?_
  have hl := rowsN_wid hr
  have hm := rowsN_low hr
  rw [← sumF_filter]
  have e1 : (((yd j).filter fun y => decide (mxN r ≤ y)).map fun y => r ++ [y]).filter (fun r => mayN u r) = if mayN u r = true then (((yd j).filter fun y => decide (mxN r ≤ y)).filter fun y => decide (y ≤ u.getD j 0)).map fun y => r ++ [y] else [] := by
    rw [List.filter_map]
    cases h : mayN u r with
    | true =>
      rw [if_pos rfl]
      congr 1
      refine List.filter_congr fun y _ => ?_
      show mayN u (r ++ [y]) = _
      rw [mayN_snoc (by omega), h, hl]
      rfl
    | false =>
      rw [if_neg Bool.false_ne_true]
      have : (((yd j).filter fun y => decide (mxN r ≤ y)).filter ((fun r => mayN u r) ∘ fun y => r ++ [y])) = [] := List.filter_eq_nil_iff.mpr fun y _ => by
        show ¬ mayN u (r ++ [y]) = true
        rw [mayN_snoc (by omega), h]
        exact Bool.false_ne_true
      rw [this]
      rfl
  rw [e1]
  cases h : mayN u r with
  | false => rw [if_neg Bool.false_ne_true, if_neg Bool.false_ne_true]; rfl
  | true =>
    rw [if_pos rfl, if_pos rfl]
    unfold celF celN
    have g1 : (r ++ u.drop j).getD j 0 = u.getD j 0 := by
      rw [List.getD_eq_getElem?_getD, List.getD_eq_getElem?_getD, List.getElem?_append_right (by omega), List.getElem?_drop, hl, Nat.sub_self, Nat.add_zero]
    have g2 : lowN j (r ++ u.drop j) = mxN r := by
      rw [hm]
      unfold lowN
      by_cases hz : j = 0
      · rw [if_pos hz, if_pos hz]
      · rw [if_neg hz, if_neg hz, List.getD_eq_getElem?_getD, List.getD_eq_getElem?_getD, List.getElem?_append_left (by omega)]
    rw [g1, g2, sumF_map, sumF_map, hy, List.filter_filter, List.filter_filter]
    have e2 : ((List.range (S + 1)).filter fun a => decide (a ≤ u.getD j 0) && decide (mxN r ≤ a) && mt a) = (List.range (u.getD j 0 + 1)).filter fun k => decide (mxN r ≤ k) && mt k :=
      (List.filter_congr fun a _ => Bool.and_assoc _ _ _).trans (range_cut hu _)
    rw [e2]
    congr 1
    refine List.map_congr_left fun k _ => ?_
    have : (r ++ u.drop j).set j k = (r ++ [k]) ++ u.drop (j + 1) := by
      rw [List.set_append_right _ _ (by omega), hl, Nat.sub_self, List.append_assoc]
      congr 1
      rw [List.drop_eq_getElem_cons hj]
      rfl
    rw [this]
theorem partA_all {yd : Nat → List Nat} {mt : Nat → Nat → Bool} {S : Nat} {u : List Nat} {F : List Nat → Nat} (hy : ∀ j, j < u.length → yd j = (List.range (S + 1)).filter (mt j)) (hu : ∀ j, j < u.length → u.getD j 0 ≤ S) : ∀ n j : Nat, j + n = u.length → partA yd u.length u F = partA yd j u (rowFc mt F j n)
  | 0, j, h => by
    rw [show j = u.length by omega]
    rfl
  | n + 1, j, h => by
    rw [partA_all hy hu n (j + 1) (by omega), partA_step (hy j (by omega)) (by omega) (hu j (by omega))]
    rfl
/-- a row below, cell by cell -/
theorem bel_cells {yd : Nat → List Nat} {mt : Nat → Nat → Bool} {S : Nat} {u : List Nat} {F : List Nat → Nat} (hy : ∀ j, j < u.length → yd j = (List.range (S + 1)).filter (mt j)) (hu : ∀ j, j < u.length → u.getD j 0 ≤ S) : belN (rowsN yd u.length) F u = rowFc mt F 0 u.length u := by
  have h1 := partA_all (F := F) hy hu u.length 0 (by omega)
  have h2 : partA yd u.length u F = belN (rowsN yd u.length) F u := by
    unfold partA belN
    rw [List.drop_length]
    exact sumF_congr fun r _ => by rw [List.append_nil]
  have h3 : partA yd 0 u (rowFc mt F 0 u.length) = rowFc mt F 0 u.length u := by
    unfold partA
    show sumF _ (([[]] : List (List Nat)).filter _) = _
    have : (([[]] : List (List Nat)).filter fun r => mayN u r) = [[]] := by
      rw [List.filter_cons]
      unfold mayN
      rw [List.zip_nil_right]
      rfl
    rw [this]
    show rowFc mt F 0 u.length ([] ++ u.drop 0) + 0 = _
    rw [List.drop_zero, List.nil_append, Nat.add_zero]
  rw [← h2, h1, h3]
end Lw
set_option Elab.async false
set_option linter.all false
set_option maxRecDepth 100000
set_option maxHeartbeats 4000000
/-! dict(d), keys that are tuples -/
namespace Lw
open PySem PySem.Spec PyProof.Rows L2
def hashT (P : Program) (w : World) (k : List L2.Key) : Int := (tupleKind (mixKind P w)).hash k
def rDictT (X : Cx) : List V → Hp → VK → Prop := fun xs H Q => ∃ (a : Addr) (kvs : List (List L2.Key × V)), xs = [.ref a] ∧ H a = some (.dT kvs) ∧ (kvs.map fun x => hashT X.prog X.w x.1).Nodup ∧ ∀ p, H p = none → Q (.ref p) (upd H p (.dT kvs))
theorem kt_keys {H : Hp} {kvs : List (List L2.Key × V)} {xs : List (List L2.Key × Addr × Value)} (r : KT H kvs xs) : kvs.map (·.1) = xs.map (·.1) := by
  unfold KT at r
  induction r with
  | nil => rfl
  | cons h t ih => rw [List.map_cons, List.map_cons, ih, h.1]
theorem kt_mem {H : Hp} {kvs : List (List L2.Key × V)} {xs : List (List L2.Key × Addr × Value)} (r : KT H kvs xs) : ∀ x ∈ xs, ∃ k : List L2.Key, H x.2.1 = some (.tup (k.map kV)) := by
  unfold KT at r
  induction r with
  | nil => intro x h; cases h
  | @cons p q ps qs h t ih =>
    intro x hx
    rcases List.mem_cons.mp hx with e | hx
    · subst e
      exact ⟨p.1, h.2.1⟩
    · exact ih x hx
theorem kt_upd {H : Hp} {a : Addr} {o : HO} {kvs : List (List L2.Key × V)} {xs : List (List L2.Key × Addr × Value)} (hf : H a = none) (r : KT H kvs xs) : KT (upd H a o) kvs xs := by
  unfold KT at r ⊢
  induction r with
  | nil => exact .nil
  | cons h t ih => exact .cons ⟨h.1, by rw [upd_ne (fun z => by have := h.2.1; rw [z, hf] at this; cases this)]; exact h.2.1, h.2.2⟩ ih
theorem cr_dictT {X : Cx} (hu : X.A.units + 64 < cLine) : CallR X (.type "dict") (rDictT X) := by
  intro pins s σ H xs us Q I r q
  obtain ⟨a, kvs, rfl, hd, hh, q⟩ := q
  rw [Vals.ref1 r]
  obtain ⟨z, lo, ys, rel, dd⟩ := dt_of I.hok hd
  have hty : ∀ x ∈ ys, s.TypeIs (.ref x.2.1) "tuple" := fun x hx => by
    obtain ⟨k, hk⟩ := kt_mem rel x hx
    obtain ⟨_, its, _, o, h1, h2, _⟩ := (show ObjOk X.prog X.w H s.heap x.2.1 (.tup (k.map kV)) from I.hok _ _ hk)
    exact ⟨o, h1, h2⟩
  have hap : (ys.map fun x => (tupleKind (mixKind X.prog X.w)).hash x.1).Nodup := by
    have e1 : (ys.map fun x => (tupleKind (mixKind X.prog X.w)).hash x.1) = (ys.map (·.1)).map (hashT X.prog X.w) := by
      rw [List.map_map]
      rfl
    have e2 : (kvs.map fun x => hashT X.prog X.w x.1) = (kvs.map (·.1)).map (hashT X.prog X.w) := by
      rw [List.map_map]
      rfl
    rw [e1, ← kt_keys rel, ← e2]
    exact hh
  have hn : (ys.map (·.1)).Nodup := dd.nodup
  have hlen : kvs.length = ys.length := Paired.length rel
  refine callType_codes (Q₁ := fun obj s₁ => obj = .ref s.heap.objs.size ∧ s₁ = { s with heap := s.heap.push { cls := .type "dict", data := .dict #[] } }) F.kt_called_dict (F.kt_typeCall_dict_1 _) F.entry_dict_init (kt_code_dict_new _ ⟨rfl, rfl⟩) ?_
  rintro obj s₁ ⟨rfl, rfl⟩
  have keep : ∀ b o, s.heap.get? b = some o → (s.heap.push { cls := .type "dict", data := .dict #[] }).get? b = some o := fun b o e => Heap.get?_push_of_some _ e
  have hnew : (s.heap.push { cls := .type "dict", data := .dict #[] }).DictOfH (tupleKind (mixKind X.prog X.w)) s.heap.objs.size [] := Heap.DictOfH.new s.heap
  have ho' : (s.heap.push { cls := .type "dict", data := .dict #[] }).DictOfH (tupleKind (mixKind X.prog X.w)) a ys := by
    obtain ⟨o, es, ep, h1, h2, h3, h4, h5, h6⟩ := dd
    refine ⟨o, es, ep, keep _ _ h1, h2, h3, h4, fun x hx => ?_, h6⟩
    obtain ⟨o', items, n, g1, g2, g3, g4⟩ := h5 x hx
    exact ⟨o', items, n, keep _ _ g1, g2, g3, g4⟩
  have hdo : s.heap.objs.size ≠ a := by
    obtain ⟨_, _, _, hg, _⟩ := dd
    exact fun e => absurd (Heap.lt_size hg) (by rw [e]; exact Nat.lt_irrefl _)
  refine ⟨hnew.typeIs, F.args_dict_init_2 _ _, ?_⟩
  unfold Builtin.«dict.__init__»
  refine wpAny_bind ?_
  unfold Builtin.Dict.selfAndRest
  refine wpAny_bind (wpAny_notOrdered_dict hnew.typeIs ?_)
  show wpAny _ _ (pure (s.heap.objs.size, [Value.ref a])) _ _ _
  refine wpAny_pure ?_
  show wpAny _ _ (Builtin.Dict.updateFrom "dict.__init__" s.heap.objs.size (.ref a) [] .none) _ _ _
  refine updateFrom_dictH .none (show X.A.units + 1 + 1 < cLine by omega) hdo lo hnew ho' (.inr ⟨fun x hx => ?_, hap⟩) (by simpa [hlen] using z) fun h' hd' _ hs => ?_
  · obtain ⟨o, h1, h2⟩ := hty x hx
    exact ⟨o, keep _ _ h1, h2⟩
  · rw [storedAllH_nil_of_nodup ys hn] at hd'
    have hm : (s.heap.objs.size == sysModules) = false := beq_eq_false_iff_ne.mpr (Nat.ne_of_gt I.big)
    obtain ⟨o, es, ep, h1, h2, h3, h4, h5, h6⟩ := hd'
    have rel2 : KT (upd H s.heap.objs.size (.dT kvs)) kvs ys := kt_upd (I.hok.fresh (Nat.le_refl s.heap.objs.size)) rel
    refine ⟨rfl, .ref s.heap.objs.size, upd H s.heap.objs.size (.dT kvs), I.laid (t' := s.toks) (fun b u e => (hs.2 b (Nat.ne_of_lt (Heap.lt_size e))).trans (keep _ _ e)) (Nat.le_refl _) (show ObjOk X.prog X.w _ _ _ (.dT kvs) from ⟨z, hm, ys, rel2, o, es, ep, h1, h2, h3, h4, h6⟩), rfl, q _ (I.hok.fresh (Nat.le_refl _))⟩
end Lw
set_option Elab.async false
set_option linter.all false
set_option maxRecDepth 100000
set_option maxHeartbeats 4000000
/-! no two rows hash alike -/
namespace Lw
open PySem PySem.Spec L2
def mrgN : Nat → List Nat → List Nat → List Nat
  | 0, xs, ys => xs ++ ys
  | _ + 1, [], ys => ys
  | _ + 1, x :: xs, [] => x :: xs
  | n + 1, x :: xs, y :: ys => match Nat.ble x y with
    | true => x :: mrgN n xs (y :: ys)
    | false => y :: mrgN n (x :: xs) ys
def splN : List Nat → List Nat × List Nat
  | [] => ([], [])
  | [x] => ([x], [])
  | x :: y :: l => (x :: (splN l).1, y :: (splN l).2)
def srtN : Nat → List Nat → List Nat
  | 0, l => l
  | k + 1, l => match l with
    | [] => []
    | [x] => [x]
    | x :: y :: l' => mrgN 5000 (srtN k (splN (x :: y :: l')).1) (srtN k (splN (x :: y :: l')).2)
def ascN : List Nat → Bool
  | [] => true
  | [_] => true
  | x :: y :: l => Nat.blt x y && ascN (y :: l)
theorem mrgN_perm : ∀ (n : Nat) (xs ys : List Nat), (mrgN n xs ys).Perm (xs ++ ys)
  | 0, xs, ys => List.Perm.refl _
  | n + 1, [], ys => List.Perm.refl _
  | n + 1, x :: xs, [] => by rw [List.append_nil]; exact List.Perm.refl _
  | n + 1, x :: xs, y :: ys => by
    unfold mrgN
    cases Nat.ble x y with
    | true => exact (mrgN_perm n xs (y :: ys)).cons x
    | false => exact ((mrgN_perm n (x :: xs) ys).cons y).trans List.perm_middle.symm
theorem splN_perm : ∀ l : List Nat, ((splN l).1 ++ (splN l).2).Perm l
  | [] => List.Perm.refl _
  | [x] => List.Perm.refl _
  | x :: y :: l => by
    show (x :: ((splN l).1 ++ y :: (splN l).2)).Perm _
    exact (List.perm_middle.trans ((splN_perm l).cons y)).cons x
theorem srtN_perm : ∀ (k : Nat) (l : List Nat), (srtN k l).Perm l
  | 0, l => List.Perm.refl _
  | k + 1, [] => List.Perm.refl _
  | k + 1, [x] => List.Perm.refl _
  | k + 1, x :: y :: l => (mrgN_perm _ _ _).trans (((srtN_perm k _).append (srtN_perm k _)).trans (splN_perm _))
theorem ascN_lt : ∀ {l : List Nat}, ascN l = true → l.Pairwise (· < ·)
  | [], _ => .nil
  | [x], _ => .cons (fun y h => by cases h) .nil
  | x :: y :: l, h => by
    unfold ascN at h
    rw [Bool.and_eq_true] at h
    have h1 : x < y := Nat.le_of_ble_eq_true h.1
    have h2 := ascN_lt h.2
    refine .cons (fun z hz => ?_) h2
    rcases List.mem_cons.mp hz with e | hz
    · rw [e]; exact h1
    · exact Nat.lt_trans h1 ((List.pairwise_cons.mp h2).1 z hz)
theorem nodup_of_srt {l : List Nat} (h : ascN (srtN 13 l) = true) : l.Nodup :=
  (srtN_perm 13 l).nodup_iff.mp ((ascN_lt h).imp fun hab e => by omega)
/-- all rows of a width, entries below 7 -/
def allR : Nat → List (List Nat)
  | 0 => [[]]
  | w + 1 => (allR w).flatMap fun r => [r ++ [0], r ++ [1], r ++ [2], r ++ [3], r ++ [4], r ++ [5], r ++ [6]]
def hbN (r : List Nat) : Nat := (PySem.reduceHash (PySem.Builtin.Tuple.tupleHashOf (r.map fun n : Nat => PySem.hashInt (n : Int))) % 18446744073709551616).toNat
theorem hash_1 : ascN (srtN 13 ((allR 1).map hbN)) = true := by decide +kernel
theorem hash_2 : ascN (srtN 13 ((allR 2).map hbN)) = true := by decide +kernel
theorem hash_3 : ascN (srtN 13 ((allR 3).map hbN)) = true := by decide +kernel
theorem hash_4 : ascN (srtN 13 ((allR 4).map hbN)) = true := by decide +kernel
theorem hash_nd {w : Nat} (h : w ≤ 4) : ((allR w).map hbN).Nodup := by
  have : w = 0 ∨ w = 1 ∨ w = 2 ∨ w = 3 ∨ w = 4 := by omega
  rcases this with rfl | rfl | rfl | rfl | rfl
  · simp [allR]
  · exact nodup_of_srt hash_1
  · exact nodup_of_srt hash_2
  · exact nodup_of_srt hash_3
  · exact nodup_of_srt hash_4
theorem inj_of_nodup {α β : Type} {f : α → β} : ∀ {l : List α}, (l.map f).Nodup → ∀ {x y : α}, x ∈ l → y ∈ l → f x = f y → x = y
  | [], _, x, y, hx, _, _ => by cases hx
  | a :: l, hn, x, y, hx, hy, e => by
    rw [List.map_cons, List.nodup_cons] at hn
    rcases List.mem_cons.mp hx with e1 | h1
    · rcases List.mem_cons.mp hy with e2 | h2
      · rw [e1, e2]
      · exact absurd (show f a ∈ l.map f from List.mem_map.mpr ⟨y, h2, by rw [← e1, e]⟩) hn.1
    · rcases List.mem_cons.mp hy with e2 | h2
      · exact absurd (show f a ∈ l.map f from List.mem_map.mpr ⟨x, h1, by rw [← e2, e]⟩) hn.1
      · exact inj_of_nodup hn.2 h1 h2 e
theorem mem_allR : ∀ {w : Nat} {r : List Nat}, r.length = w → (∀ y ∈ r, y ≤ 6) → r ∈ allR w
  | 0, r, hl, _ => by
    rw [List.eq_nil_of_length_eq_zero hl]
    exact List.mem_singleton.mpr rfl
  | w + 1, r, hl, h => by
    have hne : r ≠ [] := fun z => by rw [z] at hl; cases hl
    have e := List.dropLast_concat_getLast hne
    refine List.mem_flatMap.mpr ⟨r.dropLast, mem_allR (by rw [List.length_dropLast]; omega) (fun y m => h y ((List.dropLast_sublist r).subset m)), ?_⟩
    have hy := h (r.getLast hne) (List.getLast_mem hne)
    obtain ⟨y, ey⟩ : ∃ y, y = r.getLast hne := ⟨_, rfl⟩
    rw [← ey] at e hy
    rw [← e]
    have : y = 0 ∨ y = 1 ∨ y = 2 ∨ y = 3 ∨ y = 4 ∨ y = 5 ∨ y = 6 := by omega
    rcases this with rfl | rfl | rfl | rfl | rfl | rfl | rfl <;> simp
theorem allR_len : ∀ w : Nat, (allR w).length = 7 ^ w
  | 0 => rfl
  | w + 1 => by
    have : ∀ l : List (List Nat), (l.flatMap fun r => [r ++ [0], r ++ [1], r ++ [2], r ++ [3], r ++ [4], r ++ [5], r ++ [6]]).length = l.length * 7 := fun l => by
      induction l with
      | nil => rfl
      | cons a l ih =>
        rw [List.flatMap_cons, List.length_append, ih]
        simp only [List.length_cons, List.length_nil]
        omega
    show ((allR w).flatMap _).length = _
    rw [this, allR_len w, Nat.pow_succ]
theorem len_sub {α : Type} [DecidableEq α] : ∀ (l m : List α), l.Nodup → (∀ x ∈ l, x ∈ m) → l.length ≤ m.length
  | [], _, _, _ => Nat.zero_le _
  | a :: l, m, hn, h => by
    rw [List.nodup_cons] at hn
    have h1 := len_sub l (m.erase a) hn.2 fun x hx => (List.mem_erase_of_ne (fun z => hn.1 (by rw [← z]; exact hx))).mpr (h x (List.mem_cons_of_mem _ hx))
    have h2 := List.length_erase_of_mem (h a (List.mem_cons_self ..))
    have h3 := List.length_pos_of_mem (h a (List.mem_cons_self ..))
    rw [List.length_cons]
    omega
/-- the keys of a count: rows of a width, entries up to 6, each once -/
def KeysW (w B : Nat) (L : List (List Nat × Nat)) : Prop := (L.map (·.1)).Nodup ∧ ∀ q ∈ L, q.1.length = w ∧ ∀ y ∈ q.1, y ≤ B
theorem KeysW.len {w B : Nat} {L : List (List Nat × Nat)} (h : KeysW w B L) (hw : w ≤ 4) (hB : B ≤ 6) : L.length ≤ 2401 := by
  have h1 := len_sub (L.map (·.1)) (allR w) h.1 fun r hr => by
    obtain ⟨q, hq, rfl⟩ := List.mem_map.mp hr
    exact mem_allR (h.2 q hq).1 fun y m => Nat.le_trans ((h.2 q hq).2 y m) hB
  rw [List.length_map, allR_len] at h1
  exact Nat.le_trans h1 (Nat.le_trans (Nat.pow_le_pow_right (by omega) hw) (by decide))
theorem hashT_row {P : Program} {w : World} {r : List Nat} : hashT P w (rowK r) = PySem.reduceHash (PySem.Builtin.Tuple.tupleHashOf (r.map fun n : Nat => PySem.hashInt (n : Int))) := by
  unfold hashT rowK
  show PySem.reduceHash (PySem.Builtin.Tuple.tupleHashOf ((r.map fun n : Nat => (Sum.inl (n : Int) : L2.Key)).map (keyH w))) = _
  rw [List.map_map]
  rfl
theorem KeysW.hash {P : Program} {w' : World} {w B : Nat} {L : List (List Nat × Nat)} (h : KeysW w B L) (hw : w ≤ 4) (hB : B ≤ 6) : ((kvN L).map fun x => hashT P w' x.1).Nodup := by
  have e : ((kvN L).map fun x => hashT P w' x.1) = (L.map (·.1)).map fun r => hashT P w' (rowK r) := by
    unfold kvN
    rw [List.map_map, List.map_map]
    rfl
  rw [e]
  unfold List.Nodup
  rw [List.pairwise_map]
  refine List.Pairwise.imp_of_mem (fun {r s} hr hs hne => ?_) h.1
  intro z
  rw [hashT_row, hashT_row] at z
  obtain ⟨q, hq, rfl⟩ := List.mem_map.mp hr
  obtain ⟨q', hq', rfl⟩ := List.mem_map.mp hs
  exact hne (inj_of_nodup (hash_nd hw) (mem_allR (h.2 q hq).1 fun y m => Nat.le_trans ((h.2 q hq).2 y m) hB) (mem_allR (h.2 q' hq').1 fun y m => Nat.le_trans ((h.2 q' hq').2 y m) hB) (by unfold hbN; rw [z]))
end Lw
set_option Elab.async false
set_option linter.all false
set_option maxRecDepth 100000
set_option maxHeartbeats 4000000
/-! a dict of rows that is added to; cells counted -/
namespace Lw
open PySem PySem.Spec L2
def lookN (L : List (List Nat × Nat)) (k : List Nat) : Option Nat := (L.find? fun q => decide (q.1 = k)).map (·.2)
def addN (L : List (List Nat × Nat)) (k : List Nat) (c : Nat) : List (List Nat × Nat) := if (L.any fun q => decide (q.1 = k)) = true then L.map fun q => if q.1 = k then (q.1, q.2 + c) else q else L ++ [(k, c)]
theorem look_kvN : ∀ (L : List (List Nat × Nat)) (k : List Nat), valV (kvN L) (rowK k) = (lookN L k).map nV
  | [], k => rfl
  | q :: L, k => by
    by_cases h : q.1 = k
    · show valV ((rowK q.1, nV q.2) :: kvN L) (rowK k) = _
      rw [valV_pos (by rw [h])]
      unfold lookN
      rw [List.find?_cons_of_pos (by simpa using h)]
      rfl
    · show valV ((rowK q.1, nV q.2) :: kvN L) (rowK k) = _
      rw [valV_neg (fun e => h (rowK_inj e)), look_kvN L k]
      unfold lookN
      rw [List.find?_cons_of_neg (by simpa using h)]
theorem any_kvN (L : List (List Nat × Nat)) (k : List Nat) : ((kvN L).any fun kv => decide (kv.1 = rowK k)) = L.any fun q => decide (q.1 = k) := by
  unfold kvN
  rw [List.any_map]
  congr 1
  funext q
  exact decide_eq_decide.mpr ⟨fun e => rowK_inj e, fun e => by show rowK q.1 = _; rw [e]⟩
theorem look_of {L : List (List Nat × Nat)} (hn : (L.map (·.1)).Nodup) {q : List Nat × Nat} (h : q ∈ L) : lookN L q.1 = some q.2 := by
  have e := look_kvN L q.1
  rw [val_kvN hn (show (q.1, q.2) ∈ L from h)] at e
  cases hl : lookN L q.1 with
  | none => rw [hl] at e; cases e
  | some z =>
    rw [hl] at e
    have := V.int.inj (Option.some.inj e)
    congr 1
    omega
theorem look_none {L : List (List Nat × Nat)} {k : List Nat} (h : (L.any fun q => decide (q.1 = k)) = false) : lookN L k = none := by
  unfold lookN
  rw [List.find?_eq_none.mpr fun q m => ?_]
  · rfl
  · rw [List.any_eq_false] at h
    exact h q m
theorem put_addN {L : List (List Nat × Nat)} (hn : (L.map (·.1)).Nodup) {k : List Nat} {c : Nat} : putK (kvN L) (rowK k) (nV ((lookN L k).getD 0 + c)) = kvN (addN L k c) := by
  unfold putK addN
  rw [any_kvN]
  cases h : L.any fun q => decide (q.1 = k) with
  | false =>
    rw [if_neg Bool.false_ne_true, if_neg Bool.false_ne_true, look_none h]
    unfold kvN
    rw [List.map_append]
    show _ ++ [(rowK k, nV (0 + c))] = _
    rw [Nat.zero_add]
    rfl
  | true =>
    rw [if_pos rfl, if_pos rfl]
    unfold kvN
    rw [List.map_map, List.map_map]
    refine List.map_congr_left fun q m => ?_
    show (if rowK q.1 = rowK k then (rowK q.1, nV ((lookN L k).getD 0 + c)) else (rowK q.1, nV q.2)) = (rowK (if q.1 = k then (q.1, q.2 + c) else q).1, nV (if q.1 = k then (q.1, q.2 + c) else q).2)
    by_cases e : q.1 = k
    · rw [if_pos (by rw [e]), if_pos e, ← e, look_of hn m]
      rfl
    · rw [if_neg (fun z => e (rowK_inj z)), if_neg e]
theorem addN_keys {L : List (List Nat × Nat)} {k : List Nat} {c : Nat} : (addN L k c).map (·.1) = if (L.any fun q => decide (q.1 = k)) = true then L.map (·.1) else L.map (·.1) ++ [k] := by
  unfold addN
  split
  · rw [List.map_map]
    refine List.map_congr_left fun q _ => ?_
    show (if q.1 = k then (q.1, q.2 + c) else q).1 = q.1
    split <;> rfl
  · rw [List.map_append]
    rfl
theorem KeysW.add {w B : Nat} {L : List (List Nat × Nat)} {k : List Nat} {c : Nat} (h : KeysW w B L) (h1 : k.length = w) (h2 : ∀ y ∈ k, y ≤ B) : KeysW w B (addN L k c) := by
  have hk : ∀ r ∈ L.map (·.1), r.length = w ∧ ∀ y ∈ r, y ≤ B := fun r hr => by
    obtain ⟨q, hq, rfl⟩ := List.mem_map.mp hr
    exact h.2 q hq
  refine ⟨?_, fun q hq => ?_⟩
  · rw [addN_keys]
    split
    · exact h.1
    · rename_i hc
      refine List.nodup_append.mpr ⟨h.1, by simp, fun a ha b hb e => ?_⟩
      rw [List.mem_singleton.mp hb] at e
      obtain ⟨q, hq, e2⟩ := List.mem_map.mp ha
      exact hc (List.any_eq_true.mpr ⟨q, hq, by simpa using e2.trans e⟩)
  · have hm : q.1 ∈ (addN L k c).map (·.1) := List.mem_map.mpr ⟨q, hq, rfl⟩
    rw [addN_keys] at hm
    split at hm
    · exact hk _ hm
    · rcases List.mem_append.mp hm with m | m
      · exact hk _ m
      · rw [List.mem_singleton.mp m]
        exact ⟨h1, h2⟩
theorem wtN_map {F : List Nat → Nat} {k : List Nat} {c : Nat} : ∀ {L : List (List Nat × Nat)}, (L.map (·.1)).Nodup → wtN F (L.map fun q => if q.1 = k then (q.1, q.2 + c) else q) = wtN F L + (if (L.any fun q => decide (q.1 = k)) = true then c * F k else 0)
  | [], _ => rfl
  | q :: L, hn => by
    rw [List.map_cons, List.nodup_cons] at hn
    rw [List.map_cons, wtN_cons, wtN_cons, wtN_map hn.2, List.any_cons]
    by_cases e : q.1 = k
    · have hz : (L.any fun q => decide (q.1 = k)) = false := List.any_eq_false.mpr fun r hr z => hn.1 (List.mem_map.mpr ⟨r, hr, by rw [of_decide_eq_true z, e]⟩)
      rw [hz, if_pos e, decide_eq_true e]
      show (q.2 + c) * F q.1 + (wtN F L + 0) = q.2 * F q.1 + wtN F L + c * F k
      rw [e, Nat.add_mul]
      omega
    · rw [if_neg e, decide_eq_false e, Bool.false_or]
      omega
theorem wtN_add {F : List Nat → Nat} {L : List (List Nat × Nat)} {k : List Nat} {c : Nat} (hn : (L.map (·.1)).Nodup) : wtN F (addN L k c) = wtN F L + c * F k := by
  unfold addN
  cases h : L.any fun q => decide (q.1 = k) with
  | true =>
    rw [if_pos rfl, wtN_map hn, h, if_pos rfl]
  | false =>
    rw [if_neg Bool.false_ne_true, wtN_app]
    show _ + (c * F k + 0) = _
    omega
def addAll (c : Nat) : List (List Nat × Nat) → List (List Nat) → List (List Nat × Nat)
  | M, [] => M
  | M, k :: ks => addAll c (addN M k c) ks
theorem addAll_snoc {c : Nat} {k : List Nat} : ∀ {ks : List (List Nat)} {M : List (List Nat × Nat)}, addAll c M (ks ++ [k]) = addN (addAll c M ks) k c
  | [], M => rfl
  | a :: ks, M => addAll_snoc (ks := ks) (M := addN M a c)
theorem addAll_ok {w B c : Nat} : ∀ {ks : List (List Nat)} {M : List (List Nat × Nat)}, KeysW w B M → (∀ k ∈ ks, k.length = w ∧ ∀ y ∈ k, y ≤ B) → KeysW w B (addAll c M ks) ∧ ∀ F, wtN F (addAll c M ks) = wtN F M + c * sumF F ks
  | [], M, h, _ => ⟨h, fun F => rfl⟩
  | k :: ks, M, h, hk => by
    have h1 := hk k (List.mem_cons_self ..)
    obtain ⟨a, b⟩ := addAll_ok (ks := ks) (h.add (c := c) h1.1 h1.2) fun r m => hk r (List.mem_cons_of_mem _ m)
    refine ⟨a, fun F => ?_⟩
    show wtN F (addAll c (addN M k c) ks) = _
    rw [b, wtN_add h.1, sumF_cons, Nat.mul_add]
    omega
/-- all profiles of a count, one cell further -/
def celD (mt : Nat → Bool) (j : Nat) : List (List Nat × Nat) → List (List Nat × Nat) → List (List Nat × Nat)
  | M, [] => M
  | M, q :: L => celD mt j (addAll q.2 M (celN mt j q.1)) L
theorem celD_snoc {mt : Nat → Bool} {j : Nat} {q : List Nat × Nat} : ∀ {L M : List (List Nat × Nat)}, celD mt j M (L ++ [q]) = addAll q.2 (celD mt j M L) (celN mt j q.1)
  | [], M => rfl
  | a :: L, M => celD_snoc (L := L) (M := addAll a.2 M (celN mt j a.1))
theorem celN_ok {mt : Nat → Bool} {j w B : Nat} {u : List Nat} (h : u.length = w) (hj : j < w) (hu : ∀ y ∈ u, y ≤ B) : ∀ k ∈ celN mt j u, k.length = w ∧ ∀ y ∈ k, y ≤ B := fun k hk => by
  obtain ⟨z, hz, rfl⟩ := List.mem_map.mp hk
  have hz := List.mem_range.mp (List.mem_filter.mp hz).1
  refine ⟨by rw [List.length_set]; exact h, fun y hy => ?_⟩
  rcases List.mem_or_eq_of_mem_set hy with m | e
  · exact hu y m
  · have : u.getD j 0 ≤ B := by
      rw [List.getD_eq_getElem?_getD, List.getElem?_eq_getElem (by omega)]
      exact hu _ (List.getElem_mem _)
    omega
theorem celD_ok {mt : Nat → Bool} {j w B : Nat} (hj : j < w) : ∀ {L M : List (List Nat × Nat)}, KeysW w B M → KeysW w B L → KeysW w B (celD mt j M L) ∧ ∀ F, wtN F (celD mt j M L) = wtN F M + wtN (celF mt j F) L
  | [], M, h, _ => ⟨h, fun F => rfl⟩
  | q :: L, M, h, hL => by
    have hq := hL.2 q (List.mem_cons_self ..)
    have hL' : KeysW w B L := ⟨(List.nodup_cons.mp hL.1).2, fun r m => hL.2 r (List.mem_cons_of_mem _ m)⟩
    obtain ⟨a, b⟩ := addAll_ok (c := q.2) h (celN_ok (mt := mt) hq.1 hj hq.2)
    obtain ⟨a2, b2⟩ := celD_ok hj (L := L) a hL'
    refine ⟨a2, fun F => ?_⟩
    show wtN F (celD mt j (addAll q.2 M (celN mt j q.1)) L) = _
    rw [b2, b, wtN_cons]
    show wtN F M + q.2 * celF mt j F q.1 + _ = _
    omega
/-- a row, cell by cell -/
def rowD (mt : Nat → Nat → Bool) (L : List (List Nat × Nat)) : Nat → List (List Nat × Nat)
  | 0 => L
  | j + 1 => celD (mt j) j [] (rowD mt L j)
theorem rowFc_s {mt : Nat → Nat → Bool} {F : List Nat → Nat} : ∀ (n j : Nat), rowFc mt F j (n + 1) = rowFc mt (celF (mt (j + n)) (j + n) F) j n
  | 0, j => rfl
  | n + 1, j => by
    show celF (mt j) j (rowFc mt F (j + 1) (n + 1)) = celF (mt j) j (rowFc mt _ (j + 1) n)
    rw [rowFc_s n (j + 1), show j + 1 + n = j + (n + 1) by omega]
theorem rowD_ok {mt : Nat → Nat → Bool} {w B : Nat} {L : List (List Nat × Nat)} (hL : KeysW w B L) : ∀ j : Nat, j ≤ w → KeysW w B (rowD mt L j) ∧ ∀ F, wtN F (rowD mt L j) = wtN (rowFc mt F 0 j) L
  | 0, _ => ⟨hL, fun F => rfl⟩
  | j + 1, h => by
    obtain ⟨a, b⟩ := rowD_ok hL j (by omega)
    obtain ⟨a2, b2⟩ := celD_ok (mt := mt j) (j := j) (by omega) (M := []) ⟨List.nodup_nil, fun q hq => by cases hq⟩ a
    refine ⟨a2, fun F => ?_⟩
    show wtN F (celD (mt j) j [] (rowD mt L j)) = _
    rw [b2, b, wtN_nil, Nat.zero_add, rowFc_s, Nat.zero_add]
/-- all rows -/
def tabD (mt : Nat → Nat → Nat → Bool) (W : Nat) (top : List Nat) : Nat → List (List Nat × Nat)
  | 0 => [(top, 1)]
  | e + 1 => rowD (mt e) (tabD mt W top e) W
theorem tabD_ok {p : Ln} (he : p.err = none) : ∀ e : Nat, KeysW p.ws.length p.ss.length (tabD p.meet p.ws.length p.topM e) ∧ ∀ F, wtN F (tabD p.meet p.ws.length p.topM e) = wtN F (p.cntM e)
  | 0 => ⟨⟨by simp [tabD], fun q hq => by
      rw [List.mem_singleton.mp hq]
      exact ⟨by show (List.replicate _ _).length = _; rw [List.length_replicate], fun y hy => by rw [(List.mem_replicate.mp hy).2]; exact Nat.le_refl _⟩⟩, fun F => rfl⟩
  | e + 1 => by
    obtain ⟨a, b⟩ := tabD_ok he e
    obtain ⟨a2, b2⟩ := rowD_ok (mt := p.meet e) a p.ws.length (Nat.le_refl _)
    refine ⟨a2, fun F => ?_⟩
    show wtN F (rowD (p.meet e) (tabD p.meet p.ws.length p.topM e) p.ws.length) = wtN F (stepC (p.cntM e) (p.rowsM e))
    rw [b2, wtN_step, ← b]
    refine wtN_congr fun q hq => ?_
    obtain ⟨h1, h2⟩ := a.2 q hq
    have := bel_cells (yd := p.yds e) (mt := p.meet e) (S := p.ss.length) (u := q.1) (F := F) (fun j _ => rfl) fun j hj => by
      rw [List.getD_eq_getElem?_getD, List.getElem?_eq_getElem hj]
      exact h2 _ (List.getElem_mem hj)
    rw [h1] at this
    exact this.symm
/-- what the law counts is what the program counts -/
theorem tabD_count {p : Ln} (he : p.err = none) : ((tabD p.meet p.ws.length p.topM p.es.length).map (·.2)).sum = p.count := by
  rw [← wtN_one, (tabD_ok he _).2, wtN_one]
  rfl
end Lw
set_option Elab.async false
set_option linter.all false
set_option maxRecDepth 100000
set_option maxHeartbeats 4000000
/-! tuples cut and joined; a dict that is added to -/
namespace Lw
open PySem PySem.Spec L2
open Evl (Ex)
def TupV (xs : List V) : VP := fun v G => ∃ q : Addr, v = .ref q ∧ G q = some (.tup xs)
section
variable {K : PySem.W.Frag} {σ : L2.St} {G G' H H1 : Hp} {D : Ends} {ta tb td tk tv : TE} {xs ys : List V} {q d : Addr}
theorem ef_catA (ha : EF ta σ G (TupV xs)) (hb : EF tb σ G (TupV ys)) (hz : xs.length + ys.length ≤ 1000) : EF (tOp (rCatA K) ta tb) σ G (TupV (xs ++ ys)) := fun H e Q k => ha H e _ fun x G1 H1 g1 ⟨a, ex, ha1⟩ => hb H1 (g1.up.trans g1.ok) _ fun y G2 H2 g2 ⟨b, ey, hb2⟩ => by
  subst ex ey
  obtain ⟨G3, e1, e2, g3⟩ := g1.join g2
  refine ⟨a, b, xs, ys, rfl, rfl, Evl.st_of (g2.hp _ _ (g1.ok _ _ ha1)), Evl.st_of (g2.ok _ _ hb2), Nat.le_trans hz (by decide), fun h1 => ?_, fun h1 h2 => ?_, fun _ _ p hp => ?_⟩
  · exact k _ G3 H2 g3 ⟨b, rfl, by rw [h1]; exact e2 _ _ hb2⟩
  · exact k _ G3 H2 g3 ⟨a, rfl, by rw [h2, List.append_nil]; exact e1 _ _ ha1⟩
  · exact k _ _ _ (g3.trans (.new g3.ok hp)) ⟨p, rfl, upd_same⟩
theorem cutV_whole {lo hi : Option Int} (h : HT.sIx xs.length 0 lo = 0 ∧ HT.sIx xs.length xs.length hi = xs.length) : cutV xs lo hi = xs := by
  unfold cutV
  rw [h.1, h.2, List.drop_zero, Nat.sub_zero, List.take_length]
theorem ef_slTo {j : Nat} (ha : EF ta σ G (XV (.ref q))) (hq : G q = some (.tup xs)) (hb : EF tb σ G (XV (.int (j : Int)))) : EF (tSl (rSlA K) ta tNoPart (tPart tb)) σ G (TupV (xs.take j)) := fun H e Q k => ha H e _ fun x G1 H1 g1 hx => hb H1 (g1.up.trans g1.ok) _ fun y G2 H2 g2 hy => by
  cases (show x = _ from hx)
  obtain ⟨G3, e1, e2, g3⟩ := g1.join g2
  refine ⟨(j : Int), hy, q, xs, rfl, Evl.st_of (g2.ok _ _ (g2.up _ _ hq)), fun hw => ?_, fun _ p hp => ?_⟩
  · refine k _ G3 H2 g3 ⟨q, rfl, ?_⟩
    rw [← cutV_to, cutV_whole hw]
    exact g3.up _ _ hq
  · refine k _ _ _ (g3.trans (.new g3.ok hp)) ⟨p, rfl, ?_⟩
    rw [upd_same, cutV_to]
theorem ef_slFrom {j : Nat} (ha : EF ta σ G (XV (.ref q))) (hq : G q = some (.tup xs)) (hb : EF tb σ G (XV (.int (j : Int)))) : EF (tSl (rSlA K) ta (tPart tb) tNoPart) σ G (TupV (xs.drop j)) := fun H e Q k => ha H e _ fun x G1 H1 g1 hx => hb H1 (g1.up.trans g1.ok) _ fun y G2 H2 g2 hy => by
  cases (show x = _ from hx)
  obtain ⟨G3, e1, e2, g3⟩ := g1.join g2
  refine ⟨(j : Int), hy, q, xs, rfl, Evl.st_of (g2.ok _ _ (g2.up _ _ hq)), fun hw => ?_, fun _ p hp => ?_⟩
  · refine k _ G3 H2 g3 ⟨q, rfl, ?_⟩
    rw [← cutV_from, cutV_whole hw]
    exact g3.up _ _ hq
  · refine k _ _ _ (g3.trans (.new g3.ok hp)) ⟨p, rfl, ?_⟩
    rw [upd_same, cutV_from]
theorem set_cut {u : List Nat} {j k : Nat} (hj : j < u.length) : ((u.map nV).take j ++ [nV k]) ++ (u.map nV).drop (j + 1) = (u.set j k).map nV := by
  rw [List.append_assoc, ← List.map_take, ← List.map_drop]
  show _ ++ (nV k :: _) = _
  rw [List.set_eq_take_append_cons_drop, if_pos hj, List.map_append, List.map_cons]
  rfl
/-- u[:j] + (k,) + u[j + 1:] -/
theorem ef_setN {u : List Nat} {j k i5 i3 i7 : Nat} (h5 : σ[i5]? = some (some (.ref q))) (hq : G q = some (.tup (u.map nV))) (hl : u.length ≤ 100) (hj : j < u.length) (h3 : σ[i3]? = some (some (.int (j : Int)))) (h7 : σ[i7]? = some (some (.int (k : Int)))) :
    EF (tOp (rCatA K) (tOp (rCatA K) (tSl (rSlA K) (tVar i5) tNoPart (tPart (tVar i3))) (tTup (tCons (tVar i7) tNil))) (tSl (rSlA K) (tVar i5) (tPart (tOp (rI0 fun i j => .int (i + j)) (tVar i3) (tC (.int 1)))) tNoPart)) σ G (RowV (u.set j k)) := by
  refine (ef_catA (xs := (u.map nV).take j ++ [nV k]) (ys := (u.map nV).drop (j + 1)) (ef_catA (xs := (u.map nV).take j) (ys := [nV k]) (ef_slTo (ex_var h5) hq (ex_var h3)) (ef_tup (R := fun vs _ => vs = [nV k]) (ea_x (ex_var h7) ea_nil) (fun vs _ ev => by rw [ev]; simp) fun p vs G' _ _ _ ev => ⟨p, rfl, by rw [upd_same, ev]⟩) (by simp; omega)) (ef_slFrom (j := j + 1) (ex_var h5) hq ((ex_add (ex_var h3) (ex_c (v := .int 1))).imp fun v _ _ pv => by rw [show v = _ from pv]; rfl)) (by simp; omega)).imp fun v G' _ ⟨p, ev, hp⟩ => ⟨p, ev, ?_⟩
  rw [hp, set_cut hj]
/-- an entry of a row that stands -/
theorem ex_ixRow {u : List Nat} {j i5 : Nat} (h5 : σ[i5]? = some (some (.ref q))) (hq : G q = some (.tup (u.map nV))) (hj : j < u.length) (hb : EF tb σ G (XV (.int (j : Int)))) : EF (tOp (rIxT K) (tVar i5) tb) σ G (XV (.int (u.getD j 0 : Nat))) := by
  refine ed_ixT (ds := u.map fun n : Nat => PyData.int (n : Int)) (q := (· = (j : Int))) (EF.imp (ex_var (v := .ref q) h5) fun v G' e pv => by
    rw [show v = _ from pv]
    refine dp_mkT (xs := u.map nV) (e _ _ hq) ?_
    have := dpa_ints (K := K) (G := G') (u.map fun n : Nat => (n : Int))
    rw [List.map_map, List.map_map] at this
    exact this) (EF.iv hb) fun i hi => ⟨j, .int ((u[j] : Nat) : Int), hi, by rw [List.getElem?_map, List.getElem?_eq_getElem hj]; rfl, fun v G' d => ?_⟩
  have ev : v = .int ((u[j] : Nat) : Int) := by
    cases d
    rfl
  rw [ev]
  show V.int _ = V.int _
  rw [List.getD_eq_getElem?_getD, List.getElem?_eq_getElem hj]
  rfl
/-- d[row] = d.get(row, 0) + c -/
theorem st_faddN {i j c : Nat} {r : List Nat} {M : List (List Nat × Nat)} {p : Addr} {te : TE} (hd : H1 d = some (.dT (kvN M))) (hn : (M.map (·.1)).Nodup) (hl : M.length ≤ 5000) (hc : EF te σ H1 (XV (nV c))) (ho : σ[i]? = some (some (.ref d))) (hi : σ[j]? = some (some (.ref p))) (hp : H1 p = some (.tup (r.map nV))) (k : ∀ H2, Ex H1 H2 → D.nx σ (upd H2 d (.dT (kvN (addN M r c))))) :
    tAsg (tOp (rI0 fun i j => .int (i + j)) (tDGet2 (tVar i) (tVar j) (tC (.int 0))) te) (gSub (tVar i) (tVar j) rSetD) D σ H1 := by
  have hv : EF (tOp (rI0 fun i j => .int (i + j)) (tDGet2 (tVar i) (tVar j) (tC (.int 0))) te) σ H1 (XV (nV ((lookN M r).getD 0 + c))) := by
    refine (ex_add (a := (((lookN M r).getD 0 : Nat) : Int)) (b := (c : Int)) (fun H e Q q => ?_) hc).imp fun v _ _ pv => by rw [show v = _ from pv]; show V.int _ = V.int _; rw [Int.natCast_add]
    refine ⟨.ref d, ho, d, rfl, .inr ⟨kvN M, .inl (e _ _ hd)⟩, .ref p, hi, ?_⟩
    refine ⟨(lookN M r).map nV, .inr ⟨kvN M, rowK r, p, .inl (e _ _ hd), rfl, by rw [rowK_kV]; exact e _ _ hp, (look_kvN M r).symm⟩, q _ H1 H (.refl e) ?_⟩
    show ((lookN M r).map nV).getD (.int 0) = _
    cases lookN M r <;> rfl
  refine hv H1 (Ex.refl _) _ fun v G2 H2 g2 pv => ?_
  cases (show v = _ from pv)
  refine ⟨.ref d, ho, .ref p, hi, d, _, rfl, DPut.t (k := rowK r) (g2.hp _ _ hd) (by rw [rowK_kV]; exact g2.hp _ _ hp) ?_, ?_⟩
  · unfold kvN
    rw [List.length_map]
    exact Nat.lt_of_le_of_lt hl (by decide)
  · rw [put_addN hn]
    exact k H2 g2.hp
end
end Lw
namespace Lw
open PySem PySem.Spec L2
open Evl (Ex)
section
variable {K : PySem.W.Frag} {σ : L2.St} {G : Hp} {tl te : TE} {a : Addr}
/-- tuple([n for _ in ns]) -/
theorem ef_tupRow {ns : List Int} {j n : Nat} (h : EF tl σ G (XV (.ref a))) (hs : G a = some (.lst (ns.map V.int))) (hz : ns.length ≤ 100) (hw : ∀ x, wipe ((wipe σ [j]).set j (some x)) [j] = wipe σ [j])
    (he : ∀ x G', Ex G G' → EF te ((wipe σ [j]).set j (some x)) G' (XV (.int (n : Int)))) : EF (tCB (rTupOf K) (tCons (tLc (iList K tl) (gName j) tYes te [j]) tNil)) σ G (RowV (List.replicate ns.length n)) := fun H e Q q => by
  have hL : EF (tLc (iList K tl) (gName j) tYes te [j]) σ G fun v G' => ∃ r : Addr, v = .ref r ∧ G' r = some (.lst ((List.replicate ns.length n).map nV)) := by
    refine ef_lcL (xs := ns.map V.int) (fun i acc G' => acc = (List.replicate i n).map nV) (h.imp fun v G' e pv => ⟨a, pv, Evl.sq_of (e _ _ hs)⟩) (by rw [List.length_map]; omega) hw (fun _ _ => rfl) (fun i x acc G' e _ hI => ec_all ((he x G' e).imp fun v G2 _ pv => ?_)) fun r acc G' _ _ _ _ hI => ⟨r, rfl, by rw [upd_same, hI, List.length_map]⟩
    rw [show v = _ from pv, hI, List.replicate_succ', List.map_append]
    rfl
  refine (ea_one hL) H e _ fun vs G1 H1 g1 ⟨x, ev, r, ex, hr⟩ => ?_
  subst ev ex
  exact ⟨r, (List.replicate ns.length n).map nV, rfl, .inl ⟨Evl.sq_of (g1.ok _ _ hr), fun l hl => q _ _ _ (g1.trans (.new g1.ok hl)) ⟨l, rfl, upd_same⟩⟩⟩
/-- sum([d[k] for k in d]) -/
theorem ex_sumD {td : TE} {d : Addr} {L : List (List Nat × Nat)} {j jd : Nat} (hd : G d = some (.dT (kvN L))) (hv : ∀ G', EF td σ G' (XV (.ref d))) (hz : L.length ≤ 40000) (nd : (L.map (·.1)).Nodup)
    (hw : ∀ x, wipe ((wipe σ [j]).set j (some x)) [j] = wipe σ [j]) (hjd : ∀ x, ((wipe σ [j]).set j (some x))[jd]? = some (some (.ref d))) (hj : ∀ x, ((wipe σ [j]).set j (some x))[j]? = some (some x)) :
    EF (tCB (rSum K) (tCons (tLockE (tLc (iKeys td) (gName j) tYes (tDGet (tVar jd) (tVar j)) [j])) tNil)) σ G (XV (nV (L.map (·.2)).sum)) := by
  refine (ex_sumL (ns := L.map fun q => (q.2 : Int)) (ef_lockE (P := fun v G' => ∃ q : Addr, v = .ref q ∧ G' q = some (.lst ((L.filter fun q => (fun _ => true) q.1).map fun q => nV q.2))) hd trivial (fun od => el_keysT (od := od) (f := fun _ => true) upd_same (hv _) hz nd hw hjd hj fun q r G' e hr hq => fun H e2 Q k => k true H (.refl _) rfl) fun od v G' e pv => ?_)).imp fun v _ _ pv => ?_
  · obtain ⟨a, rfl, ha⟩ := pv
    have hne : a ≠ d := fun z => by
      have h2 : G' d = some (.frz od (.dT (kvN L))) := e _ _ upd_same
      rw [z, h2] at ha
      cases ha
    have hf : (L.filter fun q => (fun _ => true) q.1) = L := List.filter_eq_self.mpr fun _ _ => rfl
    rw [hf] at ha
    refine dp_mkL (xs := L.map fun q => nV q.2) (by rw [upd_ne hne]; exact ha) ?_
    have : (L.map fun q => nV q.2) = (L.map fun q => (q.2 : Int)).map V.int := by
      rw [List.map_map]
      rfl
    rw [this]
    exact dpa_ints _
  · rw [show v = _ from pv]
    show V.int _ = V.int _
    rw [← sum_cast, List.map_map]
    rfl
end
end Lw
set_option Elab.async false
set_option linter.all false
set_option maxRecDepth 100000
set_option maxHeartbeats 16000000
/-! the law counts, cell by cell -/
namespace Kx
open PySem L2 Lw
open Evl (Ex)
theorem sc_meets : FnScope ["_law_parts_here", "_law_i", "_law_j", "_law_k"] ["_law_parts_here", "_law_i", "_law_j", "_law_k"] (defScope s_meets) := ⟨rfl, rfl, rfl, by decide +kernel, rfl, by decide +kernel, by decide +kernel⟩
theorem sc_number : FnScope ["_law_parts_here", "_law_counts", "_law_i", "_law_j", "_law_wider", "_law_profile", "_law_low", "_law_k", "_law_size", "_law_key"] ["_law_parts_here"] (defScope s_number) := ⟨rfl, rfl, rfl, by decide +kernel, rfl, by decide +kernel, by decide +kernel⟩
def spNumL (K : PySem.W.Frag) : Sp := fun vs H Q _ => ∃ (G : Hp) (v : V) (p : Ln), Ex G H ∧ vs = [v] ∧ LnR G v p ∧ p.err = none ∧ Ret G H (XV (.int (p.count : Int))) Q
theorem sa_numL {K : PySem.W.Frag} {G : Hp} {v : V} {p : Ln} (h : LnR G v p) (he : p.err = none) : SA (spNumL K) [v] G (XV (.int (p.count : Int))) := fun H e Q _ q => ⟨G, v, p, e, rfl, h, he, q⟩
theorem range_low {low a : Nat} (f : Nat → Bool) : (List.range (low + (a + 1 - low))).filter (fun k => decide (low ≤ k) && f k) = (List.range (a + 1)).filter fun k => decide (low ≤ k) && f k := by
  by_cases h : low ≤ a + 1
  · rw [show low + (a + 1 - low) = a + 1 by omega]
  · rw [show low + (a + 1 - low) = low by omega, List.filter_eq_nil_iff.mpr fun k m => ?_, List.filter_eq_nil_iff.mpr fun k m => ?_]
    · have := List.mem_range.mp m
      rw [decide_eq_false (by omega)]
      exact Bool.false_ne_true
    · have := List.mem_range.mp m
      rw [decide_eq_false (by omega)]
      exact Bool.false_ne_true
theorem st_raw1 {te : TE} {D : Ends} {σ : L2.St} {H : Hp} {i : Nat} (h : te σ H fun v H' => D.nx (σ.set i (some v)) H') : tAsg te (gName i) D σ H := h
theorem lnr_drop {G : Hp} {v : V} {p : Ln} {d : Addr} {L : List (List Nat × Nat)} (h : LnR G v p) (hd : G d = some (.dT (kvN L))) : LnR (dropA G d) v p := by
  obtain ⟨pa, a, b, c, e, ev, h1, h2, h3, h4, h5⟩ := h
  have key : ∀ {x : Addr} {xs : List V}, G x = some (.lst xs) → dropA G d x = some (.lst xs) := fun {x xs} hx => by
    rw [dropA_ne (fun z => by rw [z, hd] at hx; cases hx)]
    exact hx
  exact ⟨pa, a, b, c, e, ev, key h1, key h2, key h3, key h4, key h5⟩
section
variable {P : Program} {w : World} {K : PySem.W.Frag} {mg : Str → Option Value} {base : Heap} {f : Addr} {fd : FuncData}
theorem ok_meetsL (B : Blt mg) (F : Fun K "_law_meets" "_law_meets" s_meets f fd) : FnOk P w K mg base CX0 1 f fd ["_law_parts_here", "_law_i", "_law_j", "_law_k"] (spMeetsL K) := by
  have m_len := B.len
  refine F.ok sc_meets (fun vs H Q E h => ?_) (fun cdv A outer s H vs Q E hr h => ?_)
  · obtain ⟨G, v, p, i, j, m, _, rfl, _⟩ := h
    rfl
  · obtain ⟨G, v, p, i, j, m, hG, rfl, hv, hi, hj, hm, k⟩ := h
    refine ⟨_, (pss_cons (ps_if (PW.pt (pw_or (pt_cmpR op_eq (pv 3) pe_int (nomark _)) (pw_or1 (pt_cmpR op_eq (pv 3) (pe_callB call_len_seq (by rfl) m_len PySem.boot_len (pa_cons (pe_ix ix_list (pv 0) pe_int (fun _ _ => rfl)) pa_nil)) (nomark _)))))
 (pss_one (ps_ret pe_bl)) pss_nil)
 (pss_one (ps_ret (pe_or (pe_cmpR op_le (pe_ix ix_list (pe_ix ix_list (pv 0) pe_int (fun _ _ => rfl)) (pv 1) (fun _ _ => rfl)) (pe_ix ix_list (pe_ix ix_list (pv 0) pe_int (fun _ _ => rfl)) (pv 3) (fun _ _ => rfl)) (nomark _)) (pe_one (pe_cmpR op_le (pe_ix ix_list (pe_ix ix_list (pv 0) pe_int (fun _ _ => rfl)) (pv 2) (fun _ _ => rfl)) (pe_ix ix_list (pe_ix ix_list (pv 0) pe_int (fun _ _ => rfl)) (pv 3) (fun _ _ => rfl)) (nomark _))))))), ?_⟩
    obtain ⟨a, b, c, d, h1, h2, h3, h4, rw4⟩ := hv.parts
    obtain ⟨zi, hzi⟩ : ∃ z, p.es[i]? = some z := ⟨_, List.getElem?_eq_getElem hi⟩
    obtain ⟨zj, hzj⟩ : ∃ z, p.ws[j]? = some z := ⟨_, List.getElem?_eq_getElem hj⟩
    obtain ⟨zm, hzm⟩ : ∃ z, p.ys[m]? = some z := ⟨_, List.getElem?_eq_getElem hm⟩
    have emeet : p.meet i j m = decide (m = 0 ∨ m = p.ss.length ∨ zi ≤ zm ∨ zj ≤ zm) := by
      unfold Ln.meet
      rw [List.getD_eq_getElem?_getD, List.getD_eq_getElem?_getD, List.getD_eq_getElem?_getD, hzi, hzj, hzm]
      refine decide_eq_decide.mpr ?_
      show (m = 0 ∨ m = p.ss.length ∨ min zi zj ≤ zm) ↔ _
      constructor
      · rintro (z | z | z)
        · exact .inl z
        · exact .inr (.inl z)
        · exact .inr (.inr (by omega))
      · rintro (z | z | z | z)
        · exact .inl z
        · exact .inr (.inl z)
        · exact .inr (.inr (by omega))
        · exact .inr (.inr (by omega))
    refine st_if (p := (· = decide ((m : Int) = 0 ∨ (m : Int) = (p.ss.length : Int)))) hG (et_orD (et_eqI (ex_var rfl) ex_c) (et_eqI (ex_var rfl) (ex_lenR (rw4 (.refl G) rfl).2.1 h2))) (fun h H1 e1 => ?_) (fun h H1 e1 => ?_)
    · have hb := of_decide_eq_true h.symm
      refine st_ret (P := XV (.bl true)) (hG.trans e1) ex_c fun v G' H' g pv => k v G' H' ((Gr.same hG e1).trans g) ?_
      rw [show v = _ from pv, emeet, decide_eq_true (by omega)]
      rfl
    · have hb := of_decide_eq_false h.symm
      dsimp only [tNext]
      refine st_ret (P := XV (.bl (p.meet i j m))) (hG.trans e1) ((eb_or (p := (· = decide (zi ≤ zm))) (r := (· = decide (zj ≤ zm))) (s := (· = p.meet i j m)) (ec_int (f := fun i j => decide (i ≤ j)) (EF.iv (ex_ixL (i := i) (rw4 (.refl G) rfl).2.2.1 (ex_var rfl) rfl (Evl.sq_of h3) (by rw [List.getElem?_map, hzi]; rfl))) (EF.iv (ex_ixL (i := m) (rw4 (.refl G) rfl).1 (ex_var rfl) rfl (Evl.sq_of h1) (by rw [List.getElem?_map, hzm]; rfl))) fun y z hy hz => by rw [hy, hz]) (fun _ => ec_int (f := fun i j => decide (i ≤ j)) (EF.iv (ex_ixL (i := j) (rw4 (.refl G) rfl).2.2.2 (ex_var rfl) rfl (Evl.sq_of h4) (by rw [List.getElem?_map, hzj]; rfl))) (EF.iv (ex_ixL (i := m) (rw4 (.refl G) rfl).1 (ex_var rfl) rfl (Evl.sq_of h1) (by rw [List.getElem?_map, hzm]; rfl))) fun y z hy hz => by rw [hy, hz]) (fun h => ?_) fun h b hb2 => ?_).bvx) fun v G' H' g pv => k v G' H' ((Gr.same hG e1).trans g) pv
      · have := of_decide_eq_true h.symm
        rw [emeet, decide_eq_true (.inr (.inr (.inl this)))]
      · have := of_decide_eq_false h.symm
        rw [hb2, emeet]
        exact decide_eq_decide.mpr ⟨fun z => .inr (.inr (.inr z)), fun z => by omega⟩
theorem ok_numL (B : Blt mg) (m_sum : mg "sum" = none) (m_tuple : mg "tuple" = none) (m_dict : mg "dict" = none) (F : Fun K "_law_number" "_law_number" s_number f fd) (Cm : Cal P w K mg base "_law_meets" 1 ["_law_parts_here", "_law_i", "_law_j", "_law_k"] (spMeetsL K)) : FnOk P w K mg base CX0 2 f fd ["_law_parts_here"] (spNumL K) := by
  obtain ⟨f2, fd2, G_meets, m_meets, k_meets, b_meets⟩ := Cm
  have m_range := B.range
  have m_len := B.len
  refine F.ok sc_number (fun vs H Q E h => ?_) (fun cdv A outer s H vs Q E hr h => ?_)
  · obtain ⟨G, v, p, _, rfl, _⟩ := h
    rfl
  · obtain ⟨G, v, p, hG, rfl, hv, he, k⟩ := h
    refine ⟨_, (pss_cons (ps_set (i := 1) sc_number.nd rfl (by first | exact Or.inl rfl | exact Or.inr rfl) (pe_dispT (hu1 hr) (pe_callTy (T := "tuple") (call_tupK (K := K) rfl) (by rfl) m_tuple (by decide +kernel) (pa_cons (pe_lc (own := [("_law_size", 8)]) (g := (gName 8)) (tt := tYes) (te := (tCB (Evl.rLenS K) (tCons (tOp (rIxL K) (tVar 0) (tC (.int 1))) tNil))) rfl sc_number.nd (pi_list (pe_ix ix_list (pv 0) pe_int (fun _ _ => rfl))) (blkOk_by (N := ["_law_parts_here", "_law_counts", "_law_i", "_law_j", "_law_wider", "_law_profile", "_law_low", "_law_k", "_law_size", "_law_key"]) (sc := defScope s_number) (by decide +kernel)) (fun _ _ _ _ _ => pg_name (i := 8) sc_number.nd rfl (Or.inl rfl)) (fun _ _ _ _ _ => pts_nil) (fun _ _ _ _ _ => (pe_callB call_len_seq (by rfl) m_len PySem.boot_len (pa_cons (pe_ix ix_list (pv 0) pe_int (fun _ _ => rfl)) pa_nil)))) pa_nil)) pe_int))
 (pss_cons (ps_for PassesOwn.never rfl (pi_range1 rfl m_range (pa_cons (pe_callB call_len_seq (by rfl) m_len PySem.boot_len (pa_cons (pe_ix ix_list (pv 0) pe_int (fun _ _ => rfl)) pa_nil)) pa_nil)) (pg_name (i := 2) sc_number.nd rfl (by first | exact Or.inl rfl | exact Or.inr rfl))
 (pss_one (ps_for PassesOwn.never rfl (pi_range1 rfl m_range (pa_cons (pe_callB call_len_seq (by rfl) m_len PySem.boot_len (pa_cons (pe_ix ix_list (pv 0) pe_int (fun _ _ => rfl)) pa_nil)) pa_nil)) (pg_name (i := 3) sc_number.nd rfl (by first | exact Or.inl rfl | exact Or.inr rfl))
 (pss_cons (ps_set (i := 4) sc_number.nd rfl (by first | exact Or.inl rfl | exact Or.inr rfl) pe_dnewT)
 (pss_cons (ps_lock (ps_for PassesOwn.never rfl (pi_keys (pv 1)) (pg_name (i := 5) sc_number.nd rfl (by first | exact Or.inl rfl | exact Or.inr rfl))
 (pss_cons (ps_set (i := 6) sc_number.nd rfl (by first | exact Or.inl rfl | exact Or.inr rfl) pe_int)
 (Evl.pss_cut (ps_if (pt_cmpR op_gt (pv 3) pe_int (nomark _))
 (pss_one (ps_set (i := 6) sc_number.nd rfl (by first | exact Or.inl rfl | exact Or.inr rfl) (pe_ix ix_tup (pv 5) (pe_op op_sub (pv 3) pe_int) (fun _ _ => rfl)))) pss_nil)
 (pss_one (ps_for PassesOwn.never rfl (pi_range2 rfl m_range (pa_cons (pv 6) (pa_cons (pe_op op_add (pe_ix ix_tup (pv 5) (pv 3) (fun _ _ => rfl)) pe_int) pa_nil))) (pg_name (i := 7) sc_number.nd rfl (by first | exact Or.inl rfl | exact Or.inr rfl))
 (pss_one (ps_if (pt_val (pe_call G_meets (hr.mono (by decide)) rfl m_meets k_meets b_meets .nil pass0 (pa_cons (pv 0) (pa_cons (pv 2) (pa_cons (pv 3) (pa_cons (pv 7) pa_nil))))))
 (pss_cons (ps_set (i := 9) sc_number.nd rfl (by first | exact Or.inl rfl | exact Or.inr rfl) (pe_op op_catA (pe_op op_catA (pe_slice sl_tupA (pv 5) po_none (po_some (pv 3))) (pe_tup (pa_cons (pv 7) pa_nil))) (pe_slice sl_tupA (pv 5) (po_some (pe_op op_add (pv 3) pe_int)) po_none)))
 (pss_one (ps_asg (pe_op op_add (pe_dget2 (hu1 hr) (pv 4) (pv 9) pe_int ⟨by rfl, by rfl, by rfl, by rfl⟩) (pe_dget (hu1 hr) (pv 1) (pv 5) (fun _ _ => rfl))) (pg_sub (pv 4) (pv 9) (set_dict (hu1 hr)))))) pss_nil))))))))
 (pss_one (ps_set (i := 1) sc_number.nd rfl (by first | exact Or.inl rfl | exact Or.inr rfl) (pe_callTy (T := "dict") (cr_dictT (hu64 hr)) (by rfl) m_dict (by decide +kernel) (pa_cons (pv 4) pa_nil)))))))))
 (pss_one (ps_ret (pe_callB (cr_sum rfl) (by rfl) m_sum (by decide +kernel) (pa_cons (pe_lock (pe_lc (own := [("_law_profile", 5)]) (g := (gName 5)) (tt := tYes) (te := (tDGet (tVar 1) (tVar 5))) rfl sc_number.nd (pi_keys (pv 1)) (blkOk_by (N := ["_law_parts_here", "_law_counts", "_law_i", "_law_j", "_law_wider", "_law_profile", "_law_low", "_law_k", "_law_size", "_law_key"]) (sc := defScope s_number) (by decide +kernel)) (fun _ _ _ _ _ => pg_name (i := 5) sc_number.nd rfl (Or.inl rfl)) (fun _ _ _ _ _ => pts_nil) (fun _ _ _ _ _ => (pe_dget (hu1 hr) (pv 1) (pv 5) (fun _ _ => rfl))))) pa_nil)))))), ?_⟩
    obtain ⟨q1, q2, q3, q4, q5, hall⟩ := Ln.ok_shape he
    have hvH := hv.ex hG
    obtain ⟨a1, a2, a3, a4, y1, y2, y3, y4, rw4⟩ := hvH.parts
    have hk : ∀ e, KeysW p.ws.length p.ss.length (tabD p.meet p.ws.length p.topM e) := fun e => (tabD_ok he e).1
    have hrow : ∀ e j, j ≤ p.ws.length → KeysW p.ws.length p.ss.length (rowD (p.meet e) (tabD p.meet p.ws.length p.topM e) j) := fun e j hj => (rowD_ok (mt := p.meet e) (hk e) j hj).1
    refine st_asg (G := H) (P := fun v G' => ∃ q : Addr, v = .ref q ∧ H q = none ∧ G' q = some (.dT (kvN (tabD p.meet p.ws.length p.topM 0)))) (Ex.refl _) (ef_fnewN (r := p.topM) (z := 1) (ef_tupRow (n := p.ss.length) (rw4 (i := 0) (.refl _) rfl).2.2.2 y4 (by omega) (fun _ => rfl) fun x G' e => ex_lenR (rw4 (i := 0) e rfl).2.1 (e _ _ y2)) fun G' e => ex_c) fun v1 G1 H1 g1 p1 => ?_
    obtain ⟨d0, rfl, _, hd0⟩ := p1
    dsimp only
    refine st_forR1 (G := H1) (n := (p.es.length : Int)) (Ex.refl _) (ea_x (ex_lenR (rw4 g1.hp rfl).2.2.1 (g1.hp _ _ y3)) ea_nil) (by omega) (by omega) (fun i σ' H' => ∃ (d : Addr) (v2 v3 v4 v5 v6 v7 v8 v9 : Option V), σ' = [some v, some (.ref d), v2, v3, v4, v5, v6, v7, v8, v9] ∧ Ex H H' ∧ H' d = some (.dT (kvN (tabD p.meet p.ws.length p.topM i)))) (fun H' e => ⟨d0, _, _, _, _, _, _, _, _, rfl, g1.hp.trans e, e _ _ (g1.ok _ _ hd0)⟩) (fun i σ' H' hi hw => ?_) (fun σ' H' hw => ?_)
    · obtain ⟨d, v2, v3, v4, v5, v6, v7, v8, v9, rfl, eH, hd⟩ := hw
      have hi' : i < p.es.length := by omega
      dsimp only
      refine st_forR1 (G := H') (n := (p.ws.length : Int)) (Ex.refl _) (ea_x (ex_lenR (rw4 eH rfl).2.2.2 (eH _ _ y4)) ea_nil) (by omega) (by omega) (fun j σ' H' => ∃ (d : Addr) (v3 v4 v5 v6 v7 v8 v9 : Option V), σ' = [some v, some (.ref d), some (.int (i : Int)), v3, v4, v5, v6, v7, v8, v9] ∧ Ex H H' ∧ H' d = some (.dT (kvN (rowD (p.meet i) (tabD p.meet p.ws.length p.topM i) j)))) (fun H2 e => ⟨d, _, _, _, _, _, _, _, rfl, eH.trans e, e _ _ hd⟩) (fun j σ' H' hj hw => ?_) (fun σ' H' hw => ?_)
      · obtain ⟨d, v3, v4, v5, v6, v7, v8, v9, rfl, eH, hd⟩ := hw
        have hj' : j < p.ws.length := by omega
        have hKL := hrow i j (by omega)
        obtain ⟨L, eL⟩ : ∃ L, L = rowD (p.meet i) (tabD p.meet p.ws.length p.topM i) j := ⟨_, rfl⟩
        rw [← eL] at hd hKL
        dsimp only
        refine st_asg (G := H') (P := fun v G' => ∃ q : Addr, v = .ref q ∧ H' q = none ∧ G' q = some (.dT (kvN []))) (Ex.refl _) ef_dnewT fun v4' G3 H3 g3 p3 => ?_
        obtain ⟨fa, rfl, fn, hf⟩ := p3
        have hf3 := g3.ok _ _ hf
        have hd3 := g3.hp _ _ hd
        have hdf : d ≠ fa := fun z => by rw [z, fn] at hd; cases hd
        have rw5 := fun {Hn : Hp} {od : Obj} (e : Ex (upd H' d (.frz od (.dT (kvN L)))) Hn) => (show Ex (dropA H' d) Hn from fun b o hb => by
          by_cases z : b = d
          · rw [z, dropA_same] at hb; cases hb
          · rw [dropA_ne z] at hb; exact e _ _ (by rw [upd_ne z]; exact hb))
        dsimp only
        refine ⟨d, .dT (kvN L), hd3, trivial, fun od => ?_⟩
        refine ⟨.ref d, rfl, d, od, rfl, .inr ⟨kvN L, upd_same, for_it (walk_kN L) (fun m σ' Hn => ∃ (v5 v6 v7 v8 v9 : Option V), σ' = [some v, some (.ref d), some (.int (i : Int)), some (.int (j : Int)), some (.ref fa), v5, v6, v7, v8, v9] ∧ Ex (upd H' d (.frz od (.dT (kvN L)))) Hn ∧ Hn fa = some (.dT (kvN (celD (p.meet i j) j [] (L.take m))))) ⟨_, _, _, _, _, rfl, fun b o hb => ?_, ?_⟩ (fun m σ' Hn _ w => ?_) (fun m x σ' Hn Hn' hm w y => ?_) fun σ' Hn w => ?_⟩⟩
        · by_cases z : b = d
          · subst z; rw [upd_same] at hb ⊢; exact hb
          · rw [upd_ne z] at hb ⊢; exact g3.hp _ _ hb
        · rw [upd_ne (Ne.symm hdf)]; exact hf3
        · obtain ⟨_, _, _, _, _, _, e, _⟩ := w
          exact e _ _ upd_same
        · obtain ⟨v5, v6, v7, v8, v9, rfl, eN, hfa⟩ := w
          obtain ⟨rfl, kk, vv, qa, hkk, rfl, hq⟩ := y
          obtain ⟨⟨u, c⟩, hLz, ek⟩ : ∃ x, L[m]? = some x ∧ (rowK x.1, nV x.2) = (kk, vv) := by
            unfold kvN at hkk
            rw [List.getElem?_map] at hkk
            exact Option.map_eq_some_iff.mp hkk
          cases ek
          rw [rowK_kV] at hq
          have hmem : (u, c) ∈ L := List.mem_of_getElem? hLz
          obtain ⟨ul, uS⟩ := hKL.2 _ hmem
          have hju : j < u.length := by rw [ul]; exact hj'
          have uj : u.getD j 0 ≤ p.ss.length := by
            rw [List.getD_eq_getElem?_getD, List.getElem?_eq_getElem hju]
            exact uS _ (List.getElem_mem hju)
          have et : L.take (m + 1) = L.take m ++ [(u, c)] := by rw [List.take_succ, hLz, Option.toList_some]
          have hM0 : KeysW p.ws.length p.ss.length (celD (p.meet i j) j [] (L.take m)) := (celD_ok (mt := p.meet i j) (j := j) hj' (M := []) (L := L.take m) ⟨List.nodup_nil, fun q hq => by cases hq⟩ ⟨by rw [List.map_take]; exact hKL.1.sublist (List.take_sublist _ _), fun q hq => hKL.2 q (List.mem_of_mem_take hq)⟩).1
          have hvN : ∀ {Hk : Hp}, Ex Hn' Hk → ∃ Gk, Ex Gk Hk ∧ LnR Gk v p := fun {Hk} e => ⟨dropA H' d, (rw5 eN).trans e, lnr_drop (hvH.ex eH) hd⟩
          refine st_asg (G := Hn') (P := XV (.int ((0 : Nat) : Int))) (Ex.refl _) ex_c fun v6' G4 H4 g4 p4 => ?_
          cases (show v6' = _ from p4)
          have e4 := g4.hp
          have hq4 := e4 _ _ hq
          refine Evl.q_cut (M := fun σ' Hk => σ' = [some v, some (.ref d), some (.int (i : Int)), some (.int (j : Int)), some (.ref fa), some (.ref qa), some (.int (lowN j u : Nat)), v7, v8, v9] ∧ Ex Hn' Hk) (st_if (G := H4) (p := (· = decide ((j : Int) > 0))) (Ex.refl _) (et_test (EF.bl (ex_bI (f := fun i j => decide (i > j)) (ex_var (v := .int (j : Int)) rfl) (ex_c (v := .int 0))) rfl)) (fun hb H5 e5 => ?_) (fun hb H5 e5 => ?_)) (fun σ' Hk hk5 => ?_)
          · have hb := of_decide_eq_true hb.symm
            refine st_asg (G := H5) (P := XV (.int (lowN j u : Nat))) (Ex.refl _) ((ex_ixRow (u := u) (j := j - 1) (q := qa) rfl (e5 _ _ hq4) (by omega) ((ex_sub (ex_var (v := .int (j : Int)) rfl) (ex_c (v := .int 1))).imp fun v _ _ pv => by rw [show v = _ from pv]; show V.int _ = V.int _; congr 1; omega)).imp fun v _ _ pv => by rw [show v = _ from pv]; unfold lowN; rw [if_neg (by omega)]; rfl) fun v7' G6 H6 g6 p6 => ?_
            cases (show v7' = _ from p6)
            exact ⟨rfl, e4.trans (e5.trans g6.hp)⟩
          · have hb := of_decide_eq_false hb.symm
            have : j = 0 := by omega
            subst this
            exact ⟨rfl, e4.trans e5⟩
          · obtain ⟨rfl, e5⟩ := hk5
            refine st_forR2 (G := Hk) (lo := (lowN j u : Nat)) (n := ((u.getD j 0 : Nat) : Int) + 1) (Ex.refl _) (ea_x (ex_var rfl) (ea_x (ex_add (ex_ixRow (u := u) (j := j) (q := qa) rfl (e5 _ _ hq) hju (ex_var (v := .int (j : Int)) rfl)) (ex_c (v := .int 1))) ea_nil)) ⟨by omega, ?_, by omega, by omega⟩ (fun t σ' H6 => ∃ (v7 v9 : Option V), σ' = [some v, some (.ref d), some (.int (i : Int)), some (.int (j : Int)), some (.ref fa), some (.ref qa), some (.int (lowN j u : Nat)), v7, v8, v9] ∧ Ex (upd H' d (.frz od (.dT (kvN L)))) H6 ∧ H6 qa = some (.tup (u.map nV)) ∧ H6 fa = some (.dT (kvN (addAll c (celD (p.meet i j) j [] (L.take m)) (((List.range (lowN j u + t)).filter fun k => decide (lowN j u ≤ k) && p.meet i j k).map fun k => u.set j k))))) (fun H6 e6 => ⟨_, _, rfl, (eN.trans e5).trans e6, e6 _ _ (e5 _ _ hq), ?_⟩) (fun t σ' H6 ht hw6 => ?_) (fun σ' H6 hw6 => ?_)
            · have : lowN j u ≤ 6 := by
                unfold lowN
                split
                · omega
                · have h2 : j - 1 < u.length := by omega
                  rw [List.getD_eq_getElem?_getD, List.getElem?_eq_getElem h2]
                  have := uS _ (List.getElem_mem h2)
                  show u[j - 1] ≤ 6
                  omega
              omega
            · have e0 : ((List.range (lowN j u + 0)).filter fun k => decide (lowN j u ≤ k) && p.meet i j k) = [] := List.filter_eq_nil_iff.mpr fun k m => by
                have := List.mem_range.mp m
                rw [decide_eq_false (by omega)]
                exact Bool.false_ne_true
              rw [e0]
              exact e6 _ _ (e5 _ _ hfa)
            · obtain ⟨v7', v9', rfl, eN6, hq6, hf6⟩ := hw6
              obtain ⟨M, eM⟩ : ∃ M, M = addAll c (celD (p.meet i j) j [] (L.take m)) (((List.range (lowN j u + t)).filter fun k => decide (lowN j u ≤ k) && p.meet i j k).map fun k => u.set j k) := ⟨_, rfl⟩
              have hkt : lowN j u + t ≤ p.ss.length := by omega
              have hMk : KeysW p.ws.length p.ss.length M := by
                rw [eM]
                refine (addAll_ok hM0 fun r hr => ?_).1
                obtain ⟨z, hz, rfl⟩ := List.mem_map.mp hr
                have hz := List.mem_range.mp (List.mem_filter.mp hz).1
                refine ⟨by rw [List.length_set]; exact ul, fun y hy => ?_⟩
                rcases List.mem_or_eq_of_mem_set hy with m1 | m1
                · exact uS y m1
                · omega
              rw [← eM] at hf6
              have es : (((List.range (lowN j u + (t + 1))).filter fun k => decide (lowN j u ≤ k) && p.meet i j k).map fun k => u.set j k) = (((List.range (lowN j u + t)).filter fun k => decide (lowN j u ≤ k) && p.meet i j k).map fun k => u.set j k) ++ (if p.meet i j (lowN j u + t) = true then [u.set j (lowN j u + t)] else []) := by
                rw [show lowN j u + (t + 1) = (lowN j u + t) + 1 by omega, List.range_succ, List.filter_append, List.map_append, List.filter_cons, List.filter_nil, decide_eq_true (by omega), Bool.true_and]
                split <;> rfl
              have hLr : LnR (dropA H' d) v p := lnr_drop (hvH.ex eH) hd
              have hd6 : H6 d = some (.frz od (.dT (kvN L))) := eN6 _ _ upd_same
              have hfn : (upd H' d (.frz od (.dT (kvN L)))) fa = none := by rw [upd_ne (Ne.symm hdf)]; exact fn
              have hqf : qa ≠ fa := fun z => by rw [z, hf6] at hq6; cases hq6
              refine st_if (G := dropA H' d) (p := (· = p.meet i j (lowN j u + t))) (rw5 eN6) (et_B (EF.bl (ef_call (ea_x (ex_var (v := v) rfl) (ea_x (ex_var (v := .int (i : Int)) rfl) (ea_x (ex_var (v := .int (j : Int)) rfl) (ea_x (ex_var (v := .int (((lowN j u : Nat) : Int) + (t : Int))) rfl) ea_nil)))) fun vs G5 e5' ev => by
                rw [ev, ← Int.natCast_add]
                exact sa_meetsL (hLr.ex e5') hi' hj' (by omega)) rfl)) (fun hb H7 e7 => ?_) (fun hb H7 e7 => ?_)
              · refine st_asg (G := H7) (P := RowV (u.set j (lowN j u + t))) (Ex.refl _) (ef_setN (i5 := 5) (i3 := 3) (i7 := 7) (q := qa) rfl (e7 _ _ hq6) (by rw [show u.length = p.ws.length from ul]; omega) hju rfl (by
                  show some (some (V.int (((lowN j u : Nat) : Int) + (t : Int)))) = _
                  rw [← Int.natCast_add])) fun v9'' G8 H8 g8 p8 => ?_
                obtain ⟨qn, rfl, hqn⟩ := p8
                have e68 := e7.trans g8.hp
                dsimp only
                refine st_faddN (d := fa) (r := u.set j (lowN j u + t)) (c := c) (p := qn) (M := M) (e68 _ _ hf6) hMk.1 (Nat.le_trans (hMk.len (by omega) (by omega)) (by omega)) (fun H e Q q => ⟨.ref d, rfl, .ref qa, rfl, d, nV c, rfl, .inr ⟨kvN L, rowK u, qa, .inr ⟨od, e _ _ (e68 _ _ hd6)⟩, rfl, by rw [rowK_kV]; exact e _ _ (e68 _ _ hq6), (val_kvN hKL.1 hmem).symm⟩, q _ H8 H (.refl e) rfl⟩) rfl rfl (g8.ok _ _ hqn) fun H9 e9 => ⟨_, _, rfl, ex_off (eN6.trans (e68.trans e9)) hfn, by rw [upd_ne hqf]; exact e9 _ _ (e68 _ _ hq6), ?_⟩
                rw [upd_same, es, if_pos hb.symm, addAll_snoc, ← eM]
              · refine ⟨_, _, rfl, eN6.trans e7, e7 _ _ hq6, ?_⟩
                rw [es, if_neg (by rw [← hb]; exact Bool.false_ne_true), List.append_nil, ← eM]
                exact e7 _ _ hf6
            · obtain ⟨v7', v9', rfl, eN6, hq6, hf6⟩ := hw6
              refine ⟨_, _, _, _, _, rfl, eN6, ?_⟩
              rw [et, celD_snoc]
              rw [show (((u.getD j 0 : Nat) : Int) + 1 - ((lowN j u : Nat) : Int)).toNat = u.getD j 0 + 1 - lowN j u by omega, range_low] at hf6
              exact hf6
        · obtain ⟨v5, v6, v7, v8, v9, rfl, eN, hfa⟩ := w
          rw [List.take_length] at hfa
          refine ⟨eN _ _ upd_same, ?_⟩
          have hne : fa ≠ d := Ne.symm hdf
          have eb : Ex H' (upd Hn d (.dT (kvN L))) := fun b o hb => by
            by_cases z : b = d
            · rw [z, hd] at hb; rw [z, upd_same]; exact hb
            · rw [upd_ne z]; exact eN _ _ (by rw [upd_ne z]; exact hb)
          have hfb : (upd Hn d (.dT (kvN L))) fa = some (.dT (kvN (celD (p.meet i j) j [] L))) := by rw [upd_ne hne]; exact hfa
          have hKC := hrow i (j + 1) (by omega)
          have eC : rowD (p.meet i) (tabD p.meet p.ws.length p.topM i) (j + 1) = celD (p.meet i j) j [] L := by rw [eL]; rfl
          rw [eC] at hKC
          dsimp only
          refine st_raw1 ?_
          refine ⟨_, rfl, ?_⟩
          refine ⟨fa, kvN (celD (p.meet i j) j [] L), rfl, hfb, hKC.hash (by omega) (by omega), fun q hq => ?_⟩
          exact ⟨q, _, _, _, _, _, _, _, rfl, eH.trans (eb.trans (Ex.new hq)), by rw [eC]; exact upd_same⟩
      · obtain ⟨d, v3, v4, v5, v6, v7, v8, v9, rfl, eH2, hd2⟩ := hw
        rw [Int.toNat_natCast] at hd2
        exact ⟨d, _, _, _, _, _, _, _, _, rfl, eH2, hd2⟩
    · obtain ⟨d, v2, v3, v4, v5, v6, v7, v8, v9, rfl, eH, hd⟩ := hw
      rw [Int.toNat_natCast] at hd
      refine st_ret (G := H') (P := XV (.int (p.count : Int))) (Ex.refl _) (EF.imp (ex_sumD (d := d) (L := tabD p.meet p.ws.length p.topM p.es.length) hd (fun _ => ex_var rfl) (Nat.le_trans ((hk _).len (by omega) (by omega)) (by omega)) (hk _).1 (fun _ => rfl) (fun _ => rfl) (fun _ => rfl)) fun v _ _ pv => by rw [show v = _ from pv, tabD_count he]; rfl) fun v G6 H6 g pv => k v G H6 (.same hG (eH.trans g.hp)) pv
end
end Kx
set_option Elab.async false
set_option linter.all false
set_option maxRecDepth 100000
set_option maxHeartbeats 4000000
/-! all tables, as mathematics -/
namespace Lw
/-- one row more below every table -/
def nxT2 (top : List Nat) (rows : List (List Nat)) (T : List (List Nat)) : List (List (List Nat)) := (rows.filter fun r => mayN (T.getLastD top) r).map fun r => T ++ [r]
/-- the tables with e rows, the row above left out -/
def tblN (top : List Nat) (rows : Nat → List (List Nat)) : Nat → List (List (List Nat))
  | 0 => [[]]
  | e + 1 => (tblN top rows e).flatMap (nxT2 top (rows e))
def Ln.tables (p : Ln) : List (List (List Nat)) := tblN p.topM p.rowsM p.es.length
def sumT (F : List (List Nat) → Nat) (l : List (List (List Nat))) : Nat := (l.map F).sum
theorem sumT_cons {F : List (List Nat) → Nat} {T : List (List Nat)} {l : List (List (List Nat))} : sumT F (T :: l) = F T + sumT F l := rfl
theorem sumT_app {F : List (List Nat) → Nat} {l m : List (List (List Nat))} : sumT F (l ++ m) = sumT F l + sumT F m := by
  unfold sumT
  rw [List.map_append, List.sum_append]
theorem sumT_flat {F : List (List Nat) → Nat} {f : List (List Nat) → List (List (List Nat))} : ∀ l : List (List (List Nat)), sumT F (l.flatMap f) = sumT (fun T => sumT F (f T)) l
  | [] => rfl
  | T :: l => by rw [List.flatMap_cons, sumT_app, sumT_cons, sumT_flat l]
theorem last_snoc {top r : List Nat} {T : List (List Nat)} : (T ++ [r]).getLastD top = r := by
  first
    | exact List.getLastD_concat ..
    | simp [List.getLastD_eq_getLast?]
    | (rw [List.getLastD_eq_getLast?, List.getLast?_append]; rfl)
theorem sumT_nx {F : List Nat → Nat} {top : List Nat} {rows : List (List Nat)} {T : List (List Nat)} : sumT (fun T => F (T.getLastD top)) (nxT2 top rows T) = belN rows F (T.getLastD top) := by
  unfold sumT nxT2 belN sumF
  rw [List.map_map]
  congr 1
  refine List.map_congr_left fun r _ => ?_
  show F ((T ++ [r]).getLastD top) = F r
  rw [last_snoc]
theorem tblN_wt {top : List Nat} {rows : Nat → List (List Nat)} : ∀ (e : Nat) (F : List Nat → Nat), sumT (fun T => F (T.getLastD top)) (tblN top rows e) = wtN F (cntL top rows e)
  | 0, F => by
    show F top + 0 = 1 * F top + 0
    omega
  | e + 1, F => by
    show sumT _ ((tblN top rows e).flatMap _) = wtN F (stepC (cntL top rows e) (rows e))
    rw [sumT_flat, wtN_step, ← tblN_wt e]
    unfold sumT
    congr 1
    refine List.map_congr_left fun T _ => ?_
    exact sumT_nx
/-- as many tables as are counted -/
theorem tables_len {p : Ln} : p.tables.length = p.count := by
  have h := tblN_wt (top := p.topM) (rows := p.rowsM) p.es.length fun _ => 1
  rw [wtN_one] at h
  unfold Ln.count Ln.cntM
  rw [← h]
  unfold sumT Ln.tables
  rw [List.map_const']
  simp
/-- what every table keeps -/
theorem tblN_ok {top : List Nat} {rows : Nat → List (List Nat)} : ∀ {e : Nat} {T : List (List Nat)}, T ∈ tblN top rows e → T.length = e ∧ ∀ (i : Nat) (r : List Nat), T[i]? = some r → r ∈ rows i ∧ mayN ((T.take i).getLastD top) r = true
  | 0, T, h => by
    rw [List.mem_singleton.mp h]
    exact ⟨rfl, fun i r a => by simp at a⟩
  | e + 1, T, h => by
    obtain ⟨S, hS, h2⟩ := List.mem_flatMap.mp h
    obtain ⟨r, hr, rfl⟩ := List.mem_map.mp h2
    obtain ⟨h3, h4⟩ := List.mem_filter.mp hr
    obtain ⟨hl, hi⟩ := tblN_ok hS
    refine ⟨by rw [List.length_append, hl]; rfl, fun i s a => ?_⟩
    by_cases z : i < S.length
    · rw [List.getElem?_append_left z] at a
      rw [List.take_append_of_le_length (by omega)]
      exact hi i s a
    · have : i = S.length := by
        have := (List.getElem?_eq_some_iff.mp a).1
        rw [List.length_append, List.length_singleton] at this
        omega
      subst this
      rw [List.getElem?_append_right (Nat.le_refl _), Nat.sub_self] at a
      cases (show some r = some s from a)
      rw [List.take_left, hl]
      exact ⟨h3, h4⟩
/-- rows in the order of their texts: first difference -/
def ltR : List Nat → List Nat → Prop
  | [], [] => False
  | [], _ :: _ => True
  | _ :: _, [] => False
  | a :: r, b :: s => a < b ∨ (a = b ∧ ltR r s)
theorem ltR_snoc {y z : Nat} : ∀ {r : List Nat}, y < z → ltR (r ++ [y]) (r ++ [z])
  | [], h => .inl h
  | a :: r, h => .inr ⟨rfl, ltR_snoc h⟩
theorem ltR_app {y z : Nat} : ∀ {r s : List Nat}, r.length = s.length → ltR r s → ltR (r ++ [y]) (s ++ [z])
  | [], [], _, h => h.elim
  | [], _ :: _, hl, _ => by cases hl
  | _ :: _, [], hl, _ => by cases hl
  | a :: r, b :: s, hl, h => by
    rcases h with h | ⟨e, h⟩
    · exact .inl h
    · exact .inr ⟨e, ltR_app (by simpa using hl) h⟩
theorem rowsN_asc {yd : Nat → List Nat} (h : ∀ w, (yd w).Pairwise (· < ·)) : ∀ w, (rowsN yd w).Pairwise ltR
  | 0 => by simp [rowsN]
  | w + 1 => by
    unfold rowsN
    rw [List.pairwise_flatMap]
    refine ⟨fun r _ => ?_, ?_⟩
    · rw [List.pairwise_map]
      exact ((h w).filter _).imp fun hab => ltR_snoc hab
    · refine List.Pairwise.imp_of_mem (fun {a b} ha hb hab x hx y hy => ?_) (rowsN_asc h w)
      obtain ⟨u, _, rfl⟩ := List.mem_map.mp hx
      obtain ⟨v, _, rfl⟩ := List.mem_map.mp hy
      exact ltR_app (by rw [rowsN_wid ha, rowsN_wid hb]) hab
/-- tables likewise -/
def ltTb : List (List Nat) → List (List Nat) → Prop
  | [], [] => False
  | [], _ :: _ => True
  | _ :: _, [] => False
  | a :: r, b :: s => ltR a b ∨ (a = b ∧ ltTb r s)
theorem ltTb_snoc {y z : List Nat} : ∀ {r : List (List Nat)}, ltR y z → ltTb (r ++ [y]) (r ++ [z])
  | [], h => .inl h
  | a :: r, h => .inr ⟨rfl, ltTb_snoc h⟩
theorem ltTb_app {y z : List Nat} : ∀ {r s : List (List Nat)}, r.length = s.length → ltTb r s → ltTb (r ++ [y]) (s ++ [z])
  | [], [], _, h => h.elim
  | [], _ :: _, hl, _ => by cases hl
  | _ :: _, [], hl, _ => by cases hl
  | a :: r, b :: s, hl, h => by
    rcases h with h | ⟨e, h⟩
    · exact .inl h
    · exact .inr ⟨e, ltTb_app (by simpa using hl) h⟩
theorem tblN_asc {top : List Nat} {rows : Nat → List (List Nat)} (h : ∀ e, (rows e).Pairwise ltR) : ∀ e, (tblN top rows e).Pairwise ltTb
  | 0 => by simp [tblN]
  | e + 1 => by
    unfold tblN
    rw [List.pairwise_flatMap]
    refine ⟨fun r _ => ?_, ?_⟩
    · unfold nxT2
      rw [List.pairwise_map]
      exact ((h e).filter _).imp fun hab => ltTb_snoc hab
    · refine List.Pairwise.imp_of_mem (fun {a b} ha hb hab x hx y hy => ?_) (tblN_asc h e)
      obtain ⟨u, _, rfl⟩ := List.mem_map.mp hx
      obtain ⟨v, _, rfl⟩ := List.mem_map.mp hy
      exact ltTb_app (by rw [(tblN_ok ha).1, (tblN_ok hb).1]) hab
theorem tables_asc {p : Ln} : p.tables.Pairwise ltTb := tblN_asc (fun e => rowsN_asc (fun w => List.Pairwise.filter _ List.pairwise_lt_range) _) _
end Lw
set_option Elab.async false
set_option linter.all false
set_option maxRecDepth 100000
set_option maxHeartbeats 4000000
/-! tables that stand: lists of tuples -/
namespace Lw
open PySem PySem.Spec L2
open Evl (Ex)
def TabL (top : List Nat) (G : Hp) (xs : List V) (Ts : List (List (List Nat))) : Prop := xs.length = Ts.length ∧ ∀ (i : Nat) (x : V) (T : List (List Nat)), xs[i]? = some x → Ts[i]? = some T → ∃ (t : Addr) (ws : List V), x = .ref t ∧ G t = some (.lst ws) ∧ TupL G ws (top :: T)
def TabsV (top : List Nat) (Ts : List (List (List Nat))) : VP := fun v G => ∃ (a : Addr) (xs : List V), v = .ref a ∧ G a = some (.lst xs) ∧ TabL top G xs Ts
theorem TabL.ex {top : List Nat} {G G' : Hp} {xs : List V} {Ts : List (List (List Nat))} (h : TabL top G xs Ts) (e : Ex G G') : TabL top G' xs Ts := ⟨h.1, fun i x T a b => let ⟨t, ws, h1, h2, h3⟩ := h.2 i x T a b; ⟨t, ws, h1, e _ _ h2, h3.ex e⟩⟩
theorem TabL.nil {top : List Nat} {G : Hp} : TabL top G [] [] := ⟨rfl, fun i x r a => by simp at a⟩
theorem TabL.snoc {top : List Nat} {G : Hp} {xs : List V} {Ts : List (List (List Nat))} {t : Addr} {ws : List V} {T : List (List Nat)} (h : TabL top G xs Ts) (h1 : G t = some (.lst ws)) (h2 : TupL G ws (top :: T)) : TabL top G (xs ++ [.ref t]) (Ts ++ [T]) := ⟨by rw [List.length_append, List.length_append, h.1]; rfl, fun i x T' a b => by
  by_cases hi : i < xs.length
  · rw [List.getElem?_append_left hi] at a
    rw [List.getElem?_append_left (by rw [← h.1]; exact hi)] at b
    exact h.2 i x T' a b
  · rw [List.getElem?_append_right (by omega)] at a
    rw [List.getElem?_append_right (by rw [← h.1]; omega), ← h.1] at b
    obtain ⟨k, ek⟩ : ∃ k, k = i - xs.length := ⟨_, rfl⟩
    rw [← ek] at a b
    cases k with
    | zero =>
      cases (show some _ = some x from a)
      cases (show some _ = some T' from b)
      exact ⟨t, ws, rfl, h1, h2⟩
    | succ k => simp at a⟩
def partT (top : List Nat) (Ts : List (List (List Nat))) (rows : List (List Nat)) (i k : Nat) : List (List (List Nat)) := match Ts[i]? with
  | some T => nxT2 top (rows.take k) T
  | none => []
theorem nxT2_len {top : List Nat} {rows T : List (List Nat)} : (nxT2 top rows T).length ≤ rows.length := by
  unfold nxT2
  rw [List.length_map]
  exact List.length_filter_le _ _
theorem partT_0 {top : List Nat} {Ts : List (List (List Nat))} {rows : List (List Nat)} {i : Nat} : partT top Ts rows i 0 = [] := by
  unfold partT
  cases Ts[i]? <;> rfl
theorem partT_len {top : List Nat} {Ts : List (List (List Nat))} {rows : List (List Nat)} {i k : Nat} : (partT top Ts rows i k).length ≤ rows.length := by
  unfold partT
  cases Ts[i]? with
  | none => exact Nat.zero_le _
  | some r => exact Nat.le_trans nxT2_len (by rw [List.length_take]; omega)
theorem partT_all {top : List Nat} {Ts : List (List (List Nat))} {rows : List (List Nat)} {i : Nat} (h : i < Ts.length) : (Ts.take i).flatMap (nxT2 top rows) ++ partT top Ts rows i rows.length = (Ts.take (i + 1)).flatMap (nxT2 top rows) ++ partT top Ts rows (i + 1) 0 := by
  rw [partT_0, List.append_nil, List.take_succ, List.getElem?_eq_getElem h, Option.toList_some, List.flatMap_append, List.flatMap_singleton]
  unfold partT
  rw [List.getElem?_eq_getElem h, List.take_length]
theorem partT_s {top : List Nat} {Ts : List (List (List Nat))} {rows T : List (List Nat)} {i k : Nat} {r : List Nat} (hT : Ts[i]? = some T) (hr : rows[k]? = some r) : partT top Ts rows i (k + 1) = partT top Ts rows i k ++ (if mayN (T.getLastD top) r = true then [T ++ [r]] else []) := by
  unfold partT
  rw [hT]
  show nxT2 top _ T = nxT2 top _ T ++ _
  unfold nxT2
  rw [List.take_succ, hr, Option.toList_some, List.filter_append, List.map_append, List.filter_cons]
  split <;> rfl
theorem last_topA : ∀ (T : List (List Nat)) (top : List Nat), (top :: T)[T.length]? = some (T.getLastD top)
  | [], top => rfl
  | a :: l, top => by
    rw [List.getLastD_cons]
    exact last_topA l a
theorem last_top {top : List Nat} {T : List (List Nat)} : (top :: T)[T.length]? = some (T.getLastD top) := last_topA T top
section
variable {K : PySem.W.Frag} {σ : L2.St} {G : Hp} {tl0 tl : TE}
theorem el_nxT {top : List Nat} {Ts : List (List (List Nat))} {rows : List (List Nat)} {a b : Addr} {xs ws0 : List V} {j5 j6 : Nat} (h0 : EF tl0 σ G (XV (.ref a))) (ha : G a = some (.lst xs)) (hT : TabL top G xs Ts) (hb : G b = some (.lst ws0)) (hR : TupL G ws0 rows) (hz : Ts.length * rows.length + rows.length ≤ 1000000) (hw0 : ∀ r ∈ rows, r.length ≤ 100) (hTl : ∀ T ∈ Ts, T.length ≤ 100)
    (hl : ∀ x G', Ex G G' → EF tl ((wipe σ [j5, j6]).set j5 (some x)) G' (XV (.ref b)))
    (hw : ∀ x, wipe ((wipe σ [j5, j6]).set j5 (some x)) [j5, j6] = wipe σ [j5, j6]) (hw1 : ∀ x y, wipe ((wipe ((wipe σ [j5, j6]).set j5 (some x)) [j6]).set j6 (some y)) [j6] = wipe ((wipe σ [j5, j6]).set j5 (some x)) [j6])
    (h5 : ∀ x y, ((wipe ((wipe σ [j5, j6]).set j5 (some x)) [j6]).set j6 (some y))[j5]? = some (some x)) (h6 : ∀ x y, ((wipe ((wipe σ [j5, j6]).set j5 (some x)) [j6]).set j6 (some y))[j6]? = some (some y)) :
    EF (tLc2 (iList K tl0) (gName j5) tYes (iList K tl) (gName j6) (tB (tCall (spMayF K) [] E0 (tCons (tOp (rIxL K) (tVar j5) (tUn (rU fun i => .int (-i)) (tC (.int 1)))) (tCons (tVar j6) tNil)))) (tLst (StX.tStar K (tVar j5) (tCons (tVar j6) tNil))) [j5, j6] [j6]) σ G (TabsV top (Ts.flatMap (nxT2 top rows))) := by
  refine ef_lc2E (K := K) xs (fun _ => ws0) (fun i kk acc G' => TabL top G' acc ((Ts.take i).flatMap (nxT2 top rows) ++ partT top Ts rows i kk)) (h0.imp fun v G' e pv => ⟨a, pv, Evl.sq_of (e _ _ ha)⟩) hw hw1 (fun G' e => ?_) (fun i acc G' hi hI => ?_) (fun i z G' e hz' => (hl z G' e).imp fun v G'' e' pv => ⟨b, pv, Evl.sq_of (e' _ _ (e _ _ hb))⟩) (fun i kk acc G' G'' e hI => hI.ex e) (fun i kk z y acc G' e hz' hy hI => ?_) (fun i kk acc G' hI => ?_) fun q acc G' _ q1 e hI => ⟨q, acc, rfl, upd_same, ?_⟩
  · rw [partT_0]
    exact TabL.nil
  · rw [hR.1] at hI
    rw [← partT_all (by rw [← hT.1]; exact hi)]
    exact hI
  · have hir : i < Ts.length := by rw [← hT.1]; exact (List.getElem?_eq_some_iff.mp hz').1
    obtain ⟨T, hTi⟩ : ∃ T, Ts[i]? = some T := ⟨_, List.getElem?_eq_getElem hir⟩
    obtain ⟨t, ws, rfl, ht, hU⟩ := hT.2 i z T hz' hTi
    have hkr : kk < rows.length := by rw [← hR.1]; exact (List.getElem?_eq_some_iff.mp hy).1
    obtain ⟨r, hr⟩ : ∃ r, rows[kk]? = some r := ⟨_, List.getElem?_eq_getElem hkr⟩
    obtain ⟨q, rfl, hq⟩ := hR.2 kk y r hy hr
    have hwl : ws.length = T.length + 1 := hU.1
    obtain ⟨x1, hx1⟩ : ∃ x1, ws[T.length]? = some x1 := ⟨_, List.getElem?_eq_getElem (by omega)⟩
    obtain ⟨ql, rfl, hql⟩ := hU.2 T.length x1 _ hx1 last_top
    rw [partT_s hTi hr]
    refine ec_if (p := (· = mayN (T.getLastD top) r)) (et_B (EF.bl (ef_call (ea_x (ex_ixLast (a := t) (xs := ws) (ex_var (h5 _ _)) ((ex_negX (ex_c (v := .int 1))).imp fun v _ _ pv => pv) (Evl.sq_of (e _ _ ht)) (by rw [hwl]; exact hx1)) (ea_x (ex_var (v := .ref q) (h6 _ _)) ea_nil)) fun vs G2 e2 ev => by rw [ev]; exact sa_mayF (e2 _ _ (e _ _ hql)) (e2 _ _ (e _ _ hq)) (hw0 r (List.mem_of_getElem? hr))) rfl)) (fun hb1 => ?_) (fun hb1 => ?_)
    · rw [if_pos hb1.symm]
      refine ef_lst (ea_starL (ex_var (v := .ref t) (h5 _ _)) (Evl.sq_of (e _ _ ht)) (ea_x (ex_var (v := .ref q) (h6 _ _)) ea_nil)) (fun vs G5 ev => ?_) fun qn vs G5 e5 _ q5 ev => ?_
      · have := hTl T (List.mem_of_getElem? hTi)
        rw [ev, List.length_append]
        simp
        omega
      · rw [← List.append_assoc]
        refine (hI.ex (e5.trans (ex_in q5))).snoc (ws := ws ++ [.ref q]) (by rw [upd_same, ev]) ?_
        exact ((hU.ex (e.trans (e5.trans (ex_in q5)))).snoc (q := q) (r := r) ((e.trans (e5.trans (ex_in q5))) _ _ hq))
    · rw [if_neg (by rw [← hb1]; exact Bool.false_ne_true), List.append_nil]
      exact hI
  · rw [hI.1, List.length_append]
    have h1 : ((Ts.take i).flatMap (nxT2 top rows)).length ≤ (Ts.take i).length * rows.length := by
      have : ∀ l : List (List (List Nat)), (l.flatMap (nxT2 top rows)).length ≤ l.length * rows.length := fun l => by
        induction l with
        | nil => simp
        | cons c l ih =>
          rw [List.flatMap_cons, List.length_append, List.length_cons, Nat.add_mul, Nat.one_mul]
          have := nxT2_len (top := top) (rows := rows) (T := c)
          omega
      exact this _
    have h2 : (Ts.take i).length ≤ Ts.length := by rw [List.length_take]; omega
    have h3 := Nat.mul_le_mul_right rows.length h2
    have h4 := partT_len (top := top) (Ts := Ts) (rows := rows) (i := i) (k := kk)
    omega
  · rw [hT.1, List.take_length, partT_0, List.append_nil] at hI
    exact hI.ex (ex_in q1)
end
end Lw
set_option Elab.async false
set_option linter.all false
set_option maxRecDepth 100000
set_option maxHeartbeats 4000000
/-! tables copied: new lists of new lists -/
namespace Lw
open PySem PySem.Spec L2
open Evl (Ex)
def natI (r : List Nat) : List Int := r.map fun n : Nat => (n : Int)
theorem natI_V (r : List Nat) : (natI r).map V.int = r.map nV := by
  unfold natI
  rw [List.map_map]
  rfl
/-- new tables: each a new list of new lists, no two the same -/
structure TbI (G0 G : Hp) (ps : List Addr) (rss : List (List Addr)) (Ts : List (List (List Nat))) : Prop where
  l1 : ps.length = Ts.length
  l2 : rss.length = Ts.length
  nd : (ps ++ rss.flatten).Nodup
  nw : ∀ a ∈ ps ++ rss.flatten, G0 a = none ∧ G a ≠ none
  at_ : ∀ (i : Nat) (t : Addr) (rs : List Addr) (T : List (List Nat)), ps[i]? = some t → rss[i]? = some rs → Ts[i]? = some T → G t = some (.lst (rs.map V.ref)) ∧ rs.length = T.length ∧ ∀ (k : Nat) (r : Addr) (row : List Nat), rs[k]? = some r → T[k]? = some row → G r = some (.lst (row.map nV))
theorem TbI.ex {G0 G G' : Hp} {ps : List Addr} {rss : List (List Addr)} {Ts : List (List (List Nat))} (h : TbI G0 G ps rss Ts) (e : Ex G G') : TbI G0 G' ps rss Ts :=
  ⟨h.l1, h.l2, h.nd, fun a m => ⟨(h.nw a m).1, fun z => by
    cases hg : G a with
    | none => exact (h.nw a m).2 hg
    | some o => rw [e _ _ hg] at z; cases z⟩, fun i t rs T a b c => let ⟨x, y, z⟩ := h.at_ i t rs T a b c; ⟨e _ _ x, y, fun k r row u w => e _ _ (z k r row u w)⟩⟩
theorem TbI.nil {G0 G : Hp} : TbI G0 G [] [] [] := ⟨rfl, rfl, by simp, fun a m => by simp at m, fun i t rs T a => by simp at a⟩
theorem snoc_at {α : Type} {l : List α} {x y : α} {i : Nat} (h : (l ++ [x])[i]? = some y) : (i < l.length ∧ l[i]? = some y) ∨ (i = l.length ∧ x = y) := by
  by_cases hi : i < l.length
  · rw [List.getElem?_append_left hi] at h
    exact .inl ⟨hi, h⟩
  · have hl := (List.getElem?_eq_some_iff.mp h).1
    rw [List.length_append, List.length_singleton] at hl
    have : i = l.length := by omega
    subst this
    rw [List.getElem?_append_right (Nat.le_refl _), Nat.sub_self] at h
    exact .inr ⟨rfl, Option.some.inj h⟩
theorem TbI.app {G0 G G' : Hp} {ps : List Addr} {rss : List (List Addr)} {Ts : List (List (List Nat))} {t : Addr} {rs : List Addr} {T : List (List Nat)} (h : TbI G0 G ps rss Ts) (e : Ex G G') (e0 : Ex G0 G) (ht : G t = none) (ht' : G' t = some (.lst (rs.map V.ref))) (hR : RsI G G' rs (T.map natI)) (hn : t ∉ rs) : TbI G0 G' (ps ++ [t]) (rss ++ [rs]) (Ts ++ [T]) := by
  have old : ∀ a ∈ ps ++ rss.flatten, a ≠ t ∧ a ∉ rs := fun a m => ⟨fun z => (h.nw a m).2 (by rw [z]; exact ht), fun z => (h.nw a m).2 (hR.2.2.1 a z)⟩
  have hrl : rs.length = T.length := by rw [hR.1, List.length_map]
  have h1 := h.ex e
  refine ⟨by rw [List.length_append, List.length_append, h.l1]; rfl, by rw [List.length_append, List.length_append, h.l2]; rfl, ?_, fun a m => ?_, fun i t1 rs1 T1 a b c => ?_⟩
  · rw [List.flatten_append, List.flatten_cons, List.flatten_nil, List.append_nil]
    have hp : ((ps ++ [t]) ++ (rss.flatten ++ rs)).Perm ((ps ++ rss.flatten) ++ (t :: rs)) := by
      rw [List.append_assoc, List.append_assoc]
      refine List.Perm.append_left ps ?_
      rw [List.singleton_append]
      exact List.perm_middle.symm
    refine hp.nodup_iff.mpr (List.nodup_append.mpr ⟨h.nd, List.nodup_cons.mpr ⟨hn, hR.2.1⟩, fun a ha b hb z => ?_⟩)
    rcases List.mem_cons.mp hb with e2 | hb
    · exact (old a ha).1 (z.trans e2)
    · exact (old a ha).2 (by rw [z]; exact hb)
  · rw [List.flatten_append, List.flatten_cons, List.flatten_nil, List.append_nil] at m
    have hb : ∀ {x : Addr}, G x = none → G0 x = none := fun hx => none_back e0 hx
    rcases List.mem_append.mp m with m | m
    · rcases List.mem_append.mp m with m | m
      · exact h1.nw a (List.mem_append_left _ m)
      · rw [List.mem_singleton.mp m]
        exact ⟨hb ht, by rw [ht']; exact fun z => nomatch z⟩
    · rcases List.mem_append.mp m with m | m
      · exact h1.nw a (List.mem_append_right _ m)
      · obtain ⟨o, ho⟩ := hR.in_ m
        exact ⟨hb (hR.2.2.1 a m), by rw [ho]; exact fun z => nomatch z⟩
  · rcases snoc_at a with ⟨i1, a1⟩ | ⟨i1, a1⟩
    · rcases snoc_at b with ⟨i2, b1⟩ | ⟨i2, b1⟩
      · rcases snoc_at c with ⟨i3, c1⟩ | ⟨i3, c1⟩
        · exact h1.at_ i t1 rs1 T1 a1 b1 c1
        · have := h.l1; omega
      · have := h.l1; have := h.l2; omega
    · subst i1 a1
      rcases snoc_at b with ⟨i2, b1⟩ | ⟨i2, b1⟩
      · have := h.l1; have := h.l2; omega
      · rcases snoc_at c with ⟨i3, c1⟩ | ⟨i3, c1⟩
        · have := h.l1; omega
        · subst b1 c1
          refine ⟨ht', hrl, fun k r row u w => ?_⟩
          have := hR.2.2.2 k r (natI row) u (by rw [List.getElem?_map, w]; rfl)
          rw [natI_V] at this
          exact this
section
variable {K : PySem.W.Frag} {σ : L2.St} {G : Hp} {tl ta tb te : TE}
theorem ex_listTu {a : Addr} {xs : List V} (ha : EF ta σ G (XV (.ref a))) (hs : G a = some (.tup xs)) : EF (tCB (Evl.rListS K) (tCons ta tNil)) σ G fun v G' => ∃ q : Addr, v = .ref q ∧ G q = none ∧ G' q = some (.lst xs) := fun H e Q q => ha H e _ fun x G1 H1 g1 p => by
  cases (show x = .ref a from p)
  refine ⟨a, xs, rfl, .inr (Evl.st_of (g1.ok _ _ (g1.up _ _ hs))), fun l hl => ?_⟩
  exact q _ _ _ (g1.trans (.new g1.ok hl)) ⟨l, rfl, none_back (g1.up.trans g1.ok) hl, upd_same⟩
/-- [list(row) for row in table] -/
theorem el_tabRows {ws : List V} {T : List (List Nat)} {j : Nat} (h : EF tl σ G fun v G' => ∃ b : Addr, v = .ref b ∧ G' b = some (.lst ws)) (hU : TupL G ws T) (hz : T.length ≤ 100)
    (hw : ∀ x, wipe ((wipe σ [j]).set j (some x)) [j] = wipe σ [j]) (hj : ∀ x, ((wipe σ [j]).set j (some x))[j]? = some (some x)) :
    EF (tLc (iList K tl) (gName j) tYes (tCB (Evl.rListS K) (tCons (tVar j) tNil)) [j]) σ G (fun v G' => ∃ (t : Addr) (rs : List Addr), v = .ref t ∧ G t = none ∧ G' t = some (.lst (rs.map V.ref)) ∧ RsI G G' rs (T.map natI) ∧ t ∉ rs) := by
  refine ef_lcL (xs := ws) (fun i acc G' => ∃ rs : List Addr, acc = rs.map V.ref ∧ Ex G G' ∧ RsI G G' rs ((T.take i).map natI)) (h.imp fun v G' e ⟨b, ev, hb⟩ => ⟨b, ev, Evl.sq_of hb⟩) (by rw [hU.1]; omega) hw (fun G' e => ⟨[], rfl, e, rfl, List.nodup_nil, (fun r m => nomatch m), fun i r ns a => by simp at a⟩) (fun i x acc G' e hi hI => ?_) fun q acc G' g0 g1 eg _ hI => ?_
  · obtain ⟨rs, rfl, _, hT⟩ := hI
    obtain ⟨r, hr⟩ : ∃ r, T[i]? = some r := ⟨_, List.getElem?_eq_getElem (by rw [← hU.1]; exact (List.getElem?_eq_some_iff.mp hi).1)⟩
    obtain ⟨qa, rfl, hqa⟩ := hU.2 i x r hi hr
    refine ec_all ((ex_listTu (ex_var (hj _)) (e _ _ hqa)).imp fun v G2 e2 ⟨y, ev, hy0, hy⟩ => ⟨rs ++ [y], by rw [ev, List.map_append]; rfl, e.trans e2, ?_⟩)
    rw [show T.take (i + 1) = T.take i ++ [r] by rw [List.take_succ, hr, Option.toList_some], List.map_append]
    exact hT.app e2 (none_back e hy0) hy0 (by rw [hy, natI_V])
  · obtain ⟨rs, rfl, eG, hT⟩ := hI
    rw [hU.1, List.take_length] at hT
    exact ⟨q, rs, rfl, g0, upd_same, hT.ex (ex_in g1), fun m => by
      obtain ⟨o, ho⟩ := hT.in_ m
      rw [g1] at ho; cases ho⟩
/-- [[list(row) for row in table[1:]] for table in tables] -/
theorem el_tabs {top : List Nat} {Ts : List (List (List Nat))} {a : Addr} {xs : List V} {j5 j6 : Nat} (h : EF tl σ G (XV (.ref a))) (ha : G a = some (.lst xs)) (hT : TabL top G xs Ts) (hz : Ts.length ≤ 40000) (hl : ∀ T ∈ Ts, T.length ≤ 100)
    (hw : ∀ x, wipe ((wipe σ [j5]).set j5 (some x)) [j5] = wipe σ [j5]) (h5 : ∀ x, ((wipe σ [j5]).set j5 (some x))[j5]? = some (some x))
    (hw6 : ∀ x y, wipe ((wipe ((wipe σ [j5]).set j5 (some x)) [j6]).set j6 (some y)) [j6] = wipe ((wipe σ [j5]).set j5 (some x)) [j6]) (h6 : ∀ x y, ((wipe ((wipe σ [j5]).set j5 (some x)) [j6]).set j6 (some y))[j6]? = some (some y)) :
    EF (tLc (iList K tl) (gName j5) tYes (tLc (iList K (tSl (rSlL K) (tVar j5) (tPart (tC (.int 1))) tNoPart)) (gName j6) tYes (tCB (Evl.rListS K) (tCons (tVar j6) tNil)) [j6]) [j5]) σ G (fun v G' => ∃ (pa : Addr) (ps : List Addr) (rss : List (List Addr)), v = .ref pa ∧ G pa = none ∧ G' pa = some (.lst (ps.map V.ref)) ∧ TbI G G' ps rss Ts ∧ pa ∉ ps ++ rss.flatten) := by
  refine ef_lcL (xs := xs) (fun i acc G' => ∃ (ps : List Addr) (rss : List (List Addr)), acc = ps.map V.ref ∧ Ex G G' ∧ TbI G G' ps rss (Ts.take i)) (h.imp fun v G' e pv => ⟨a, pv, Evl.sq_of (e _ _ ha)⟩) (by rw [hT.1]; exact hz) hw (fun G' e => ⟨[], [], rfl, e, TbI.nil⟩) (fun i x acc G' e hi hI => ?_) fun q acc G' g0 g1 eg _ hI => ?_
  · obtain ⟨ps, rss, rfl, _, hB⟩ := hI
    obtain ⟨T, hTi⟩ : ∃ T, Ts[i]? = some T := ⟨_, List.getElem?_eq_getElem (by rw [← hT.1]; exact (List.getElem?_eq_some_iff.mp hi).1)⟩
    obtain ⟨t, ws, rfl, ht, hU⟩ := hT.2 i x T hi hTi
    have hU2 : TupL G (ws.drop 1) T := ⟨by rw [List.length_drop, hU.1]; rfl, fun k y r a1 a2 => hU.2 (k + 1) y r (by rw [List.getElem?_drop] at a1; rw [Nat.add_comm]; exact a1) a2⟩
    refine ec_all ((el_tabRows (T := T) (ws := ws.drop 1) (EF.imp (ex_from (k := 1) (ex_var (v := .ref t) (h5 _)) (Evl.sq_of (e _ _ ht)) (ex_c (v := .int 1))) fun v G2 e2 ⟨b, ev, _, hb⟩ => ⟨b, ev, hb⟩) (hU2.ex e) (hl T (List.mem_of_getElem? hTi)) (hw6 _) (h6 _)).imp fun v G2 e2 ⟨tt, rs, ev, hn, ht2, hR, hnr⟩ => ⟨ps ++ [tt], rss ++ [rs], by rw [ev, List.map_append]; rfl, e.trans e2, ?_⟩)
    rw [show Ts.take (i + 1) = Ts.take i ++ [T] by rw [List.take_succ, hTi, Option.toList_some]]
    exact hB.app e2 e hn ht2 hR hnr
  · obtain ⟨ps, rss, rfl, eG, hB⟩ := hI
    rw [hT.1, List.take_length] at hB
    exact ⟨q, ps, rss, rfl, g0, upd_same, hB.ex (ex_in g1), fun m => (hB.nw q m).2 g1⟩
end
/-- the row of zeros always fits -/
theorem zero_row {yd : Nat → List Nat} (h : ∀ w, 0 ∈ yd w) : ∀ w, List.replicate w 0 ∈ rowsN yd w ∧ mxN (List.replicate w 0) = 0
  | 0 => ⟨List.mem_singleton.mpr rfl, rfl⟩
  | w + 1 => by
    obtain ⟨a, b⟩ := zero_row h w
    refine ⟨List.mem_flatMap.mpr ⟨List.replicate w 0, a, List.mem_map.mpr ⟨0, List.mem_filter.mpr ⟨h w, decide_eq_true (by omega)⟩, by rw [List.replicate_succ']⟩⟩, ?_⟩
    rw [List.replicate_succ']
    exact mxN_snoc (by omega)
theorem mayN_zero : ∀ (u : List Nat) (w : Nat), mayN u (List.replicate w 0) = true
  | [], w => by unfold mayN; rw [List.zip_nil_left]; rfl
  | a :: u, 0 => rfl
  | a :: u, w + 1 => by
    show (decide (0 ≤ a) && mayN u (List.replicate w 0)) = true
    rw [mayN_zero u w, decide_eq_true (Nat.zero_le _)]
    rfl
theorem zero_rowM {p : Ln} {e : Nat} : List.replicate p.ws.length 0 ∈ p.rowsM e := (zero_row (fun w => List.mem_filter.mpr ⟨List.mem_range.mpr (by omega), by unfold Ln.meet; rw [decide_eq_true (.inl rfl)]⟩) _).1
theorem tblN_grow {p : Ln} {e : Nat} : (tblN p.topM p.rowsM e).length ≤ (tblN p.topM p.rowsM (e + 1)).length := by
  have key : ∀ l : List (List (List Nat)), l.length ≤ (l.flatMap (nxT2 p.topM (p.rowsM e))).length := fun l => by
    induction l with
    | nil => exact Nat.le_refl _
    | cons T l ih =>
      rw [List.flatMap_cons, List.length_append, List.length_cons]
      have : 0 < (nxT2 p.topM (p.rowsM e) T).length := by
        unfold nxT2
        rw [List.length_map]
        exact List.length_pos_of_mem (List.mem_filter.mpr ⟨zero_rowM, mayN_zero _ _⟩)
      omega
  exact key _
theorem tblN_few {p : Ln} : ∀ (n e : Nat), e + n = p.es.length → (tblN p.topM p.rowsM e).length ≤ p.count
  | 0, e, h => by
    rw [← tables_len]
    unfold Ln.tables
    rw [show e = p.es.length by omega]
    exact Nat.le_refl _
  | n + 1, e, h => Nat.le_trans tblN_grow (tblN_few n (e + 1) (by omega))
def spAllT (K : PySem.W.Frag) (C CLn CB : Addr) : Sp := fun vs H Q E => ∃ (G : Hp) (x : Addr) (p : Ln), Ex G H ∧ vs = [.ref x] ∧ LinC K C CLn G x p ∧ p.err = none ∧ (200 < p.count → RseH CB [("limit", .int 200), ("number", .int (p.count : Int))] H E) ∧
  (p.count ≤ 200 → Ret G H (fun v G' => ∃ (pa : Addr) (ps : List Addr) (rss : List (List Addr)), v = .ref pa ∧ G pa = none ∧ G' pa = some (.lst (ps.map V.ref)) ∧ TbI G G' ps rss p.tables ∧ pa ∉ ps ++ rss.flatten) Q)
end Lw
set_option Elab.async false
set_option linter.all false
set_option maxRecDepth 100000
set_option maxHeartbeats 4000000
/-! a < b of lists of lists of whole numbers -/
namespace Lw
open PySem PySem.Spec L2 PySem.W PyProof.Rows
def rLtD (K : PySem.W.Frag) : R2 := fun x y H Q => ∃ (G : Hp) (da db : PyData), Evl.Ex G H ∧ Dp K G x da ∧ Dp K G y db ∧ PySem.W.alike da db = true ∧ da ≠ .none ∧ da.depth ≤ 60 ∧ Q (.bl (PySem.W.dataLt da db)) H
theorem op_ltD {X : Cx} (hu : X.A.units + 65 < cLine) : OpR X (compareOp .Lt) (rLtD X.K) := by
  intro pins s σ H x y v u Q I rx ry h
  obtain ⟨G, da, db, eG, hx, hy, ha, hn, hd, q⟩ := h
  obtain ⟨as, h1⟩ := Dp.reads I da x v (dpx hx eG) rx
  obtain ⟨bs, h2⟩ := Dp.reads I db y u (dpx hy eG) ry
  have R := PySem.W.rcLt_alike da db X.A s v u as bs h1 h2 ha hn (by omega)
  exact R X.prog X.w X.xe (EP X pins σ Q) ⟨.bl _, H, I, rfl, q⟩
def dNr (r : List Nat) : PyData := dI (natI r)
def dTb (T : List (List Nat)) : PyData := .list (T.map dNr)
theorem alikeAll_N : ∀ a b : List Nat, PySem.W.alikeAll ((natI a).map PyData.int) ((natI b).map PyData.int) = true
  | [], b => by unfold natI; rw [List.map_nil, List.map_nil]; unfold PySem.W.alikeAll; rfl
  | x :: a, [] => by
    unfold natI
    rw [List.map_nil, List.map_nil, List.map_cons, List.map_cons]
    unfold PySem.W.alikeAll
    rfl
  | x :: a, y :: b => by
    have := alikeAll_N a b
    unfold natI at this ⊢
    rw [List.map_cons, List.map_cons, List.map_cons, List.map_cons]
    unfold PySem.W.alikeAll
    rw [this]
    unfold PySem.W.alike
    rfl
theorem alike_N (a b : List Nat) : PySem.W.alike (dNr a) (dNr b) = true := by
  unfold dNr dI PySem.W.alike
  exact alikeAll_N a b
theorem alike_T : ∀ S T : List (List Nat), PySem.W.alikeAll (S.map dNr) (T.map dNr) = true
  | [], b => by rw [List.map_nil]; unfold PySem.W.alikeAll; rfl
  | x :: a, [] => by
    rw [List.map_nil, List.map_cons]
    unfold PySem.W.alikeAll
    rfl
  | x :: a, y :: b => by
    rw [List.map_cons, List.map_cons]
    unfold PySem.W.alikeAll
    rw [alike_T a b, alike_N]
    rfl
theorem ltR_irr : ∀ r : List Nat, ¬ ltR r r
  | [], h => h
  | a :: r, h => by
    rcases h with h | ⟨_, h⟩
    · omega
    · exact ltR_irr r h
theorem lt_rows : ∀ {a b : List Nat}, a.length = b.length → ltR a b → lexLt itemOrd (keyToksAll ((natI a).map PyData.int)) (keyToksAll ((natI b).map PyData.int)) = true
  | [], [], _, h => h.elim
  | [], _ :: _, hl, _ => by cases hl
  | _ :: _, [], hl, _ => by cases hl
  | x :: a, y :: b, hl, h => by
    unfold natI
    rw [List.map_cons, List.map_cons, List.map_cons, List.map_cons, dataLt_cons (by unfold PySem.W.alike; rfl), eqv_int, dataLt_int]
    rcases h with h | ⟨e, h⟩
    · rw [if_neg (by simp; omega)]
      exact decide_eq_true (by omega)
    · rw [if_pos (by simp; omega)]
      exact lt_rows (by simpa using hl) h
theorem lt_dN {a b : List Nat} (hl : a.length = b.length) (h : ltR a b) : PySem.W.dataLt (dNr a) (dNr b) = true := by
  unfold dNr dI
  rw [dataLt_list]
  exact lt_rows hl h
theorem natI_inj {a b : List Nat} (h : natI a = natI b) : a = b := by
  unfold natI at h
  exact (List.map_inj_right (fun x y e => by omega)).mp h
theorem lt_tabs {w : Nat} : ∀ {S T : List (List Nat)}, S.length = T.length → (∀ r ∈ S, r.length = w) → (∀ r ∈ T, r.length = w) → ltTb S T → lexLt itemOrd (keyToksAll (S.map dNr)) (keyToksAll (T.map dNr)) = true
  | [], [], _, _, _, h => h.elim
  | [], _ :: _, hl, _, _, _ => by cases hl
  | _ :: _, [], hl, _, _, _ => by cases hl
  | x :: a, y :: b, hl, h1, h2, h => by
    rw [List.map_cons, List.map_cons, dataLt_cons (alike_N x y)]
    have ee : PyData.eqv (dNr x) (dNr y) = decide (natI x = natI y) := eqv_I _ _
    rw [ee]
    rcases h with h | ⟨e, h⟩
    · rw [if_neg (by
        intro z
        have := natI_inj (of_decide_eq_true z)
        rw [this] at h
        exact ltR_irr _ h)]
      exact lt_dN (by rw [h1 x (List.mem_cons_self ..), h2 y (List.mem_cons_self ..)]) h
    · rw [if_pos (by rw [e]; exact decide_eq_true rfl)]
      exact lt_tabs (by simpa using hl) (fun r m => h1 r (List.mem_cons_of_mem _ m)) (fun r m => h2 r (List.mem_cons_of_mem _ m)) h
theorem lt_dTb {w : Nat} {S T : List (List Nat)} (hl : S.length = T.length) (h1 : ∀ r ∈ S, r.length = w) (h2 : ∀ r ∈ T, r.length = w) (h : ltTb S T) : PySem.W.dataLt (dTb S) (dTb T) = true := by
  unfold dTb
  rw [dataLt_list]
  exact lt_tabs hl h1 h2 h
theorem alike_dTb (S T : List (List Nat)) : PySem.W.alike (dTb S) (dTb T) = true := by
  unfold dTb PySem.W.alike
  exact alike_T S T
end Lw
set_option Elab.async false
set_option linter.all false
set_option maxRecDepth 100000
set_option maxHeartbeats 4000000
/-! a table entry by entry -/
namespace Lw
open PySem PySem.Spec L2
open Evl (Ex)
theorem mem_mxN : ∀ (r : List Nat) (a : Nat), (a ≤ r.foldl max a) ∧ ∀ y ∈ r, y ≤ r.foldl max a
  | [], a => ⟨Nat.le_refl _, fun y m => nomatch m⟩
  | x :: r, a => by
    obtain ⟨h1, h2⟩ := mem_mxN r (max a x)
    refine ⟨Nat.le_trans (Nat.le_max_left a x) h1, fun y m => ?_⟩
    rcases List.mem_cons.mp m with e | m
    · rw [e]; exact Nat.le_trans (Nat.le_max_right a x) h1
    · exact h2 y m
theorem le_mxN {r : List Nat} {y : Nat} (h : y ∈ r) : y ≤ mxN r := (mem_mxN r 0).2 y h
theorem rowsN_at {yd : Nat → List Nat} : ∀ {w : Nat} {r : List Nat}, r ∈ rowsN yd w → ∀ {j y : Nat}, r[j]? = some y → y ∈ yd j ∧ ∀ z, 0 < j → r[j - 1]? = some z → z ≤ y
  | 0, r, h, j, y, a => by
    rw [List.mem_singleton.mp h] at a
    simp at a
  | w + 1, r, h, j, y, a => by
    obtain ⟨s, hs, h2⟩ := List.mem_flatMap.mp h
    obtain ⟨x, hx, rfl⟩ := List.mem_map.mp h2
    obtain ⟨h3, h4⟩ := List.mem_filter.mp hx
    have h4 := of_decide_eq_true h4
    have hl := rowsN_wid hs
    by_cases z : j < s.length
    · rw [List.getElem?_append_left z] at a
      rw [List.getElem?_append_left (by omega)]
      exact rowsN_at hs a
    · have : j = s.length := by
        have := (List.getElem?_eq_some_iff.mp a).1
        rw [List.length_append, List.length_singleton] at this
        omega
      subst this
      rw [List.getElem?_append_right (Nat.le_refl _), Nat.sub_self] at a
      cases (show some x = some y from a)
      rw [hl]
      refine ⟨h3, fun z hz b => ?_⟩
      rw [List.getElem?_append_left (by omega)] at b
      exact Nat.le_trans (le_mxN (List.mem_of_getElem? b)) h4
theorem mayN_at : ∀ {u r : List Nat}, mayN u r = true → ∀ {j a y : Nat}, u[j]? = some a → r[j]? = some y → y ≤ a
  | [], r, _, j, a, y, h1, _ => by simp at h1
  | b :: u, [], _, j, a, y, _, h2 => by simp at h2
  | b :: u, x :: r, h, j, a, y, h1, h2 => by
    have h' : (decide (x ≤ b) && mayN u r) = true := h
    rw [Bool.and_eq_true] at h'
    cases j with
    | zero =>
      cases (show some b = some a from h1)
      cases (show some x = some y from h2)
      exact of_decide_eq_true h'.1
    | succ j => exact mayN_at h'.2 (j := j) (by simpa using h1) (by simpa using h2)
theorem last_take {T : List (List Nat)} {top u : List Nat} {i : Nat} (hi : 0 < i) (h : T[i - 1]? = some u) (hl : i ≤ T.length) : (T.take i).getLastD top = u := by
  obtain ⟨k, rfl⟩ : ∃ k, i = k + 1 := ⟨i - 1, by omega⟩
  rw [List.take_succ, show T[k]? = some u from h, Option.toList_some]
  exact last_snoc
structure EntOk (p : Ln) (T : List (List Nat)) (i j y : Nat) : Prop where
  le : y ≤ p.ss.length
  mt : p.meet i j y = true
  up : ∀ u a : List Nat, 0 < i → T[i - 1]? = some u → ∀ z, u[j]? = some z → y ≤ z
  lf : ∀ r z, 0 < j → T[i]? = some r → r[j - 1]? = some z → z ≤ y
theorem ent_ok {p : Ln} {T : List (List Nat)} (h : T ∈ p.tables) {i j y : Nat} {r : List Nat} (hr : T[i]? = some r) (hy : r[j]? = some y) : EntOk p T i j y := by
  obtain ⟨h1, h2⟩ := tblN_ok h
  obtain ⟨h3, h4⟩ := h2 i r hr
  obtain ⟨h5, h6⟩ := rowsN_at h3 hy
  refine ⟨yds_le h5, (List.mem_filter.mp h5).2, fun u _ hi hu z hz => ?_, fun r' z hj hr' hz => ?_⟩
  · rw [last_take hi hu (Nat.le_of_lt (List.getElem?_eq_some_iff.mp hr).1)] at h4
    exact mayN_at h4 hz hy
  · rw [hr] at hr'
    cases hr'
    exact h6 z hj hz
theorem tab_wid {p : Ln} {T : List (List Nat)} (h : T ∈ p.tables) {i : Nat} {r : List Nat} (hr : T[i]? = some r) : r.length = p.ws.length := rowsN_wid ((tblN_ok h).2 i r hr).1
section
variable {K : PySem.W.Frag} {σ : L2.St} {G : Hp} {ta tb te : TE}
/-- a list told as data is a list -/
theorem ed_isL {ds : List PyData} (ha : EF ta σ G (DV K (.list ds))) : EF (tCB (rIsi K) (tCons ta (tCons (tC (.ty "list")) tNil))) σ G (XV (.bl true)) :=
  ef_cb (ea_two mo_DV mo_XV ha (ex_c (v := .ty "list"))) fun vs G' e ⟨x, y, ev, hx, hy⟩ => by
    subst ev
    cases (show y = .ty "list" from hy)
    exact fun H e2 Q q => ⟨x, .ty "list", _, _, true, rfl, .ty "list", ty_of (dpx hx e2) (k := .l) rfl, kit_ty (by decide +kernel), q _ G' H (.refl e2) rfl⟩
theorem ed_lenX {ds : List PyData} (ha : EF ta σ G (DV K (.list ds))) : EF (tCB (Evl.rLenS K) (tCons ta tNil)) σ G (XV (.int (ds.length : Int))) := (ed_lenL ha).imp fun v _ _ ⟨z, e, h⟩ => by rw [e, h]; rfl
theorem ed_ixR {T : List (List Nat)} {i : Nat} {z : Int} {r : List Nat} (ha : EF ta σ G (DV K (dTb T))) (hb : EF tb σ G (XV (.int z))) (ez : z = (i : Int)) (hr : T[i]? = some r) : EF (tOp (rIxL K) ta tb) σ G (DV K (dNr r)) :=
  ed_ixL (ds := T.map dNr) ha (EF.iv hb) fun x hx => ⟨i, dNr r, by rw [hx, ez], by rw [List.getElem?_map, hr]; rfl, fun v G' d => d⟩
theorem ed_ixE {r : List Nat} {j y : Nat} {z : Int} (ha : EF ta σ G (DV K (dNr r))) (hb : EF tb σ G (XV (.int z))) (ez : z = (j : Int)) (hy : r[j]? = some y) : EF (tOp (rIxL K) ta tb) σ G (XV (.int (y : Int))) :=
  ed_ixL (ds := (natI r).map PyData.int) ha (EF.iv hb) fun x hx => ⟨j, .int (y : Int), by rw [hx, ez], by unfold natI; rw [List.getElem?_map, List.getElem?_map, hy]; rfl, fun v G' d => by cases d; rfl⟩
end
end Lw
namespace Lw
open PySem PySem.Spec L2
open Evl (Ex)
variable {K : PySem.W.Frag} {σ : L2.St} {G : Hp} {ta tb te : TE}
theorem ed_lenTb {T : List (List Nat)} (ha : EF ta σ G (DV K (dTb T))) : EF (tCB (Evl.rLenS K) (tCons ta tNil)) σ G (XV (.int (T.length : Int))) := (ed_lenX (ds := T.map dNr) ha).imp fun v _ _ h => by rw [show v = _ from h, List.length_map]; rfl
theorem ed_lenNr {r : List Nat} (ha : EF ta σ G (DV K (dNr r))) : EF (tCB (Evl.rLenS K) (tCons ta tNil)) σ G (XV (.int (r.length : Int))) := (ed_lenX (ds := (natI r).map PyData.int) ha).imp fun v _ _ h => by rw [show v = _ from h]; unfold natI; rw [List.length_map, List.length_map]; rfl
end Lw
set_option Elab.async false
set_option linter.all false
set_option maxRecDepth 100000
set_option maxHeartbeats 16000000
/-! a table is of the right form -/
namespace Kx
open PySem L2 Lw
open Evl (Ex)
theorem sc_is_good : FnScope ["_law_parts_here", "_law_rows", "_law_i", "_law_j"] ["_law_parts_here", "_law_rows"] (defScope s_is_good) := ⟨rfl, rfl, rfl, by decide +kernel, rfl, by decide +kernel, by decide +kernel⟩
def spGoodD (K : PySem.W.Frag) : Sp := fun vs H Q _ => ∃ (G : Hp) (v x : V) (p : Ln) (T : List (List Nat)), Ex G H ∧ vs = [v, x] ∧ LnR G v p ∧ p.err = none ∧ Dp K G x (dTb T) ∧ T ∈ p.tables ∧ Ret G H (XV (.bl true)) Q
theorem sa_goodD {K : PySem.W.Frag} {G : Hp} {v x : V} {p : Ln} {T : List (List Nat)} (h : LnR G v p) (he : p.err = none) (hd : Dp K G x (dTb T)) (hT : T ∈ p.tables) : SA (spGoodD K) [v, x] G (XV (.bl true)) := fun H e Q _ q => ⟨G, v, x, p, T, e, rfl, h, he, hd, hT, q⟩
section
variable {P : Program} {w : World} {K : PySem.W.Frag} {mg : Str → Option Value} {base : Heap} {f : Addr} {fd : FuncData}
theorem ok_goodD (B : Blt mg) (F : Fun K "_law_is_good" "_law_is_good" s_is_good f fd) (Cm : Cal P w K mg base "_law_meets" 1 ["_law_parts_here", "_law_i", "_law_j", "_law_k"] (spMeetsL K)) : FnOk P w K mg base CX0 2 f fd ["_law_parts_here", "_law_rows"] (spGoodD K) := by
  obtain ⟨f2, fd2, G_meets, m_meets, k_meets, b_meets⟩ := Cm
  have m_range := B.range
  have m_len := B.len
  have m_isinstance := B.isinstance
  have m_list := B.list
  have m_int := B.int
  have m_bool := B.bool
  refine F.ok sc_is_good (fun vs H Q E h => ?_) (fun cdv A outer s H vs Q E hr h => ?_)
  · obtain ⟨G, v, x, p, T, _, rfl, _⟩ := h
    rfl
  · obtain ⟨G, v, x, p, T, hG, rfl, hv, he, hd, hT, k⟩ := h
    refine ⟨_, (pss_cons (ps_if (PW.pt (pw_or (pt_not (pt_val (pe_callB call_isi (by rfl) m_isinstance (by decide +kernel) (pa_cons (pv 1) (pa_cons (pe_bltn (v := .ty "list") (u := .type "list") rfl m_list (by decide +kernel) rfl) pa_nil))))) (pw_or1 (pt_cmpR op_ne (pe_callB call_len_seq (by rfl) m_len PySem.boot_len (pa_cons (pv 1) pa_nil)) (pe_callB call_len_seq (by rfl) m_len PySem.boot_len (pa_cons (pe_ix ix_list (pv 0) pe_int (fun _ _ => rfl)) pa_nil)) (nomark _)))))
 (pss_one (ps_ret pe_bl)) pss_nil)
 (pss_cons (ps_for PassesOwn.never rfl (pi_range1 rfl m_range (pa_cons (pe_callB call_len_seq (by rfl) m_len PySem.boot_len (pa_cons (pv 1) pa_nil)) pa_nil)) (pg_name (i := 2) sc_is_good.nd rfl (by first | exact Or.inl rfl | exact Or.inr rfl))
 (pss_cons (ps_if (PW.pt (pw_or (pt_not (pt_val (pe_callB call_isi (by rfl) m_isinstance (by decide +kernel) (pa_cons (pe_ix ix_list (pv 1) (pv 2) (fun _ _ => rfl)) (pa_cons (pe_bltn (v := .ty "list") (u := .type "list") rfl m_list (by decide +kernel) rfl) pa_nil))))) (pw_or1 (pt_cmpR op_ne (pe_callB call_len_seq (by rfl) m_len PySem.boot_len (pa_cons (pe_ix ix_list (pv 1) (pv 2) (fun _ _ => rfl)) pa_nil)) (pe_callB call_len_seq (by rfl) m_len PySem.boot_len (pa_cons (pe_ix ix_list (pv 0) pe_int (fun _ _ => rfl)) pa_nil)) (nomark _)))))
 (pss_one (ps_ret pe_bl)) pss_nil)
 (pss_one (ps_for PassesOwn.never rfl (pi_range1 rfl m_range (pa_cons (pe_callB call_len_seq (by rfl) m_len PySem.boot_len (pa_cons (pe_ix ix_list (pv 1) (pv 2) (fun _ _ => rfl)) pa_nil)) pa_nil)) (pg_name (i := 3) sc_is_good.nd rfl (by first | exact Or.inl rfl | exact Or.inr rfl))
 (pss_cons (ps_if (PW.pt (pw_or (pt_not (pt_val (pe_callB call_isi (by rfl) m_isinstance (by decide +kernel) (pa_cons (pe_ix ix_list (pe_ix ix_list (pv 1) (pv 2) (fun _ _ => rfl)) (pv 3) (fun _ _ => rfl)) (pa_cons (pe_bltn (v := .ty "int") (u := .type "int") rfl m_int (by decide +kernel) rfl) pa_nil))))) (pw_or1 (pt_val (pe_callB call_isi (by rfl) m_isinstance (by decide +kernel) (pa_cons (pe_ix ix_list (pe_ix ix_list (pv 1) (pv 2) (fun _ _ => rfl)) (pv 3) (fun _ _ => rfl)) (pa_cons (pe_bltn (v := .ty "bool") (u := .type "bool") rfl m_bool (by decide +kernel) rfl) pa_nil)))))))
 (pss_one (ps_ret pe_bl)) pss_nil)
 (pss_cons (ps_if (PW.pt (pw_or (pt_cmpR op_lt (pe_ix ix_list (pe_ix ix_list (pv 1) (pv 2) (fun _ _ => rfl)) (pv 3) (fun _ _ => rfl)) pe_int (nomark _)) (pw_or (pt_cmpR op_gt (pe_ix ix_list (pe_ix ix_list (pv 1) (pv 2) (fun _ _ => rfl)) (pv 3) (fun _ _ => rfl)) (pe_callB call_len_seq (by rfl) m_len PySem.boot_len (pa_cons (pe_ix ix_list (pv 0) pe_int (fun _ _ => rfl)) pa_nil)) (nomark _)) (pw_or1 (pt_not (pt_val (pe_call G_meets (hr.mono (by decide)) rfl m_meets k_meets b_meets .nil pass0 (pa_cons (pv 0) (pa_cons (pv 2) (pa_cons (pv 3) (pa_cons (pe_ix ix_list (pe_ix ix_list (pv 1) (pv 2) (fun _ _ => rfl)) (pv 3) (fun _ _ => rfl)) pa_nil)))))))))))
 (pss_one (ps_ret pe_bl)) pss_nil)
 (pss_one (ps_if (PW.pt (pw_or (PW.pt (pw_and (pt_cmpR op_gt (pv 2) pe_int (nomark _)) (pw_and1 (pt_cmpR op_gt (pe_ix ix_list (pe_ix ix_list (pv 1) (pv 2) (fun _ _ => rfl)) (pv 3) (fun _ _ => rfl)) (pe_ix ix_list (pe_ix ix_list (pv 1) (pe_op op_sub (pv 2) pe_int) (fun _ _ => rfl)) (pv 3) (fun _ _ => rfl)) (nomark _))))) (pw_or1 (PW.pt (pw_and (pt_cmpR op_gt (pv 3) pe_int (nomark _)) (pw_and1 (pt_cmpR op_lt (pe_ix ix_list (pe_ix ix_list (pv 1) (pv 2) (fun _ _ => rfl)) (pv 3) (fun _ _ => rfl)) (pe_ix ix_list (pe_ix ix_list (pv 1) (pv 2) (fun _ _ => rfl)) (pe_op op_sub (pv 3) pe_int) (fun _ _ => rfl)) (nomark _))))))))
 (pss_one (ps_ret pe_bl)) pss_nil))))))))
 (pss_one (ps_ret pe_bl)))), ?_⟩
    obtain ⟨q1, q2, q3, q4, q5, hall⟩ := Ln.ok_shape he
    have hvH := hv.ex hG
    have hdH := dpx hd hG
    have hTl : T.length = p.es.length := (tblN_ok hT).1
    obtain ⟨a1, a2, a3, a4, y1, y2, y3, y4, rw4⟩ := hvH.parts
    have dv : ∀ {σ : L2.St} {G' : Hp}, Ex H G' → σ[1]? = some (some x) → EF (tVar 1) σ G' (DV K (dTb T)) := fun e h => EF.dv (ex_var h) (dpx hdH e)
    refine st_if0 (G := H) (.refl _) (et_or (p := (· = false)) (q := (· = false)) (et_not (et_B (EF.bl (ed_isL (ds := T.map dNr) (dv (.refl _) rfl)) rfl))) (fun _ => ET.imp (et_neI (ed_lenTb (dv (.refl _) rfl)) (ex_lenR (rw4 (.refl _) rfl).2.2.1 y3)) fun b hb => by rw [hb, hTl, decide_eq_true rfl]; rfl) (fun h => nomatch h) fun _ b hb => hb) fun H1 e1 => ?_
    dsimp only [tNext]
    refine st_forR1 (G := H1) (n := (T.length : Int)) (.refl _) (ea_x (ed_lenTb (dv e1 rfl)) ea_nil) (by omega) (by omega) (fun i σ' H' => ∃ v2 v3 : Option V, σ' = [some v, some x, v2, v3] ∧ Ex H H') (fun H' e => ⟨_, _, rfl, e1.trans e⟩) (fun i σ' H' hi hw => ?_) (fun σ' H' hw => ?_)
    · obtain ⟨v2, v3, rfl, eH⟩ := hw
      obtain ⟨r, hr⟩ : ∃ r, T[i]? = some r := ⟨_, List.getElem?_eq_getElem (by omega)⟩
      have hrl := tab_wid hT hr
      dsimp only
      have dr : ∀ {σ : L2.St} {G' : Hp}, Ex H G' → σ[1]? = some (some x) → σ[2]? = some (some (.int (i : Int))) → EF (tOp (rIxL K) (tVar 1) (tVar 2)) σ G' (DV K (dNr r)) := fun e h h2 => ed_ixR (dv e h) (ex_var h2) rfl hr
      refine st_if0 (G := H') (.refl _) (et_or (p := (· = false)) (q := (· = false)) (et_not (et_B (EF.bl (ed_isL (ds := (natI r).map PyData.int) (dr eH rfl rfl)) rfl))) (fun _ => ET.imp (et_neI (ed_lenNr (dr eH rfl rfl)) (ex_lenR (rw4 eH rfl).2.2.2 (eH _ _ y4))) fun b hb => by rw [hb, hrl, decide_eq_true rfl]; rfl) (fun h => nomatch h) fun _ b hb => hb) fun H2 e2 => ?_
      dsimp only [tNext]
      refine st_forR1 (G := H2) (n := (r.length : Int)) (.refl _) (ea_x (ed_lenNr (dr (eH.trans e2) rfl rfl)) ea_nil) (by omega) (by omega) (fun j σ' H' => ∃ v3 : Option V, σ' = [some v, some x, some (.int (i : Int)), v3] ∧ Ex H H') (fun H' e => ⟨_, rfl, eH.trans (e2.trans e)⟩) (fun j σ' H3 hj hw => ?_) (fun σ' H3 hw => ?_)
      · obtain ⟨v3, rfl, eJ⟩ := hw
        obtain ⟨y, hy⟩ : ∃ y, r[j]? = some y := ⟨_, List.getElem?_eq_getElem (by omega)⟩
        have ok := ent_ok hT hr hy
        dsimp only
        have de : ∀ {σ : L2.St} {G' : Hp}, Ex H G' → σ[1]? = some (some x) → σ[2]? = some (some (.int (i : Int))) → σ[3]? = some (some (.int (j : Int))) → EF (tOp (rIxL K) (tOp (rIxL K) (tVar 1) (tVar 2)) (tVar 3)) σ G' (XV (.int (y : Int))) := fun e h h2 h3 => ed_ixE (dr e h h2) (ex_var h3) rfl hy
        refine st_if0 (G := H3) (.refl _) (et_or (p := (· = false)) (q := (· = false)) (et_not (et_B (EF.bl (ex_isi (d := .int (y : Int)) (k := .i) (c := "int") (r := true) (de eJ rfl rfl rfl) ex_c (.int _) rfl (by decide +kernel)) rfl))) (fun _ => et_B (EF.bl (ex_isi (d := .int (y : Int)) (k := .i) (c := "bool") (r := false) (de eJ rfl rfl rfl) ex_c (.int _) rfl (by decide +kernel)) rfl)) (fun h => nomatch h) fun _ b hb => hb) fun H4 e4 => ?_
        have eJ4 := eJ.trans e4
        dsimp only [tNext]
        refine st_if0 (G := H4) (.refl _) (et_or (p := (· = false)) (q := (· = false)) (et_test (EF.bl (ex_bI (f := fun i j => decide (i < j)) (de eJ4 rfl rfl rfl) (ex_c (v := .int 0))) (decide_eq_false (by omega)))) (fun _ => et_or (p := (· = false)) (q := (· = false)) (et_test (EF.bl (ex_bI (f := fun i j => decide (i > j)) (de eJ4 rfl rfl rfl) (ex_lenR (rw4 eJ4 rfl).2.1 (eJ4 _ _ y2))) (decide_eq_false (by have := ok.le; omega)))) (fun _ => et_not (et_B (EF.bl (ef_call (ea_x (ex_var (v := v) rfl) (ea_x (ex_var (v := .int (i : Int)) rfl) (ea_x (ex_var (v := .int (j : Int)) rfl) (ea_x (de eJ4 rfl rfl rfl) ea_nil)))) fun vs G' e ev => by
            rw [ev]
            exact sa_meetsL (hvH.ex (eJ4.trans e)) (by omega) (by omega) (by have := ok.le; omega)) (by rw [ok.mt]; rfl)))) (fun h => nomatch h) fun _ b hb => hb) (fun h => nomatch h) fun _ b hb => hb) fun H5 e5 => ?_
        have eJ5 := eJ4.trans e5
        dsimp only [tNext]
        refine st_if0 (G := H5) (.refl _) (et_or (p := (· = false)) (q := (· = false)) (et_and (p := (· = decide (0 < i))) (q := (· = false)) (et_test (EF.bl (ex_bI (f := fun i j => decide (i > j)) (ex_var (v := .int (i : Int)) rfl) (ex_c (v := .int 0))) (decide_eq_decide.mpr (by omega)))) (fun hb => ?_) (fun _ b hb => hb) fun _ => rfl) (fun _ => et_and (p := (· = decide (0 < j))) (q := (· = false)) (et_test (EF.bl (ex_bI (f := fun i j => decide (i > j)) (ex_var (v := .int (j : Int)) rfl) (ex_c (v := .int 0))) (decide_eq_decide.mpr (by omega)))) (fun hb => ?_) (fun _ b hb => hb) fun _ => rfl) (fun h => nomatch h) fun _ b hb => hb) fun H6 e6 => ⟨_, rfl, eJ5.trans e6⟩
        · have hi0 := of_decide_eq_true hb.symm
          obtain ⟨u, hu⟩ : ∃ u, T[i - 1]? = some u := ⟨_, List.getElem?_eq_getElem (by omega)⟩
          have hul := tab_wid hT hu
          obtain ⟨z, hz⟩ : ∃ z, u[j]? = some z := ⟨_, List.getElem?_eq_getElem (by omega)⟩
          have hle := ok.up u u hi0 hu z hz
          exact et_test (EF.bl (ex_bI (f := fun i j => decide (i > j)) (de eJ5 rfl rfl rfl) (ed_ixE (ed_ixR (dv eJ5 rfl) (ex_sub (ex_var (v := .int (i : Int)) rfl) (ex_c (v := .int 1))) (by omega) hu) (ex_var (v := .int (j : Int)) rfl) rfl hz)) (decide_eq_false (by omega)))
        · have hj0 := of_decide_eq_true hb.symm
          obtain ⟨z, hz⟩ : ∃ z, r[j - 1]? = some z := ⟨_, List.getElem?_eq_getElem (by omega)⟩
          have hle := ok.lf r z hj0 hr hz
          exact et_test (EF.bl (ex_bI (f := fun i j => decide (i < j)) (de eJ5 rfl rfl rfl) (ed_ixE (dr eJ5 rfl rfl) (ex_sub (ex_var (v := .int (j : Int)) rfl) (ex_c (v := .int 1))) (by omega) hz)) (decide_eq_false (by omega)))
      · obtain ⟨v3, rfl, eJ⟩ := hw
        exact ⟨_, _, rfl, eJ⟩
    · obtain ⟨v2, v3, rfl, eH⟩ := hw
      dsimp only
      refine st_ret (G := H') (P := XV (.bl true)) (.refl _) ex_c fun v G' H2 g pv => ?_
      exact k v G H2 (Gr.same hG (eH.trans g.hp)) pv
end
end Kx
set_option Elab.async false
set_option linter.all false
set_option maxRecDepth 100000
set_option maxHeartbeats 8000000
namespace Kx
open PySem L2 Lw
open Evl (Ex)
theorem sc_BadWay_init : FnScope ["self", "at"] ["self", "at"] (defScope s_BadWay_init) := ⟨rfl, rfl, rfl, by decide +kernel, rfl, by decide +kernel, by decide +kernel⟩
theorem sc_BadLength_init : FnScope ["self", "length"] ["self", "length"] (defScope s_BadLength_init) := ⟨rfl, rfl, rfl, by decide +kernel, rfl, by decide +kernel, by decide +kernel⟩
section
variable {P : Program} {w : World} {K : PySem.W.Frag} {mg : Str → Option Value} {base : Heap} {C CN CW : Addr} {f : Addr} {fd : FuncData}
theorem ok_bw (T : OexC K C) (hno : PySem.W.findIn K (.ref C) "at" = some none) (F : Fun K "__init__" "BadWay.__init__" s_BadWay_init f fd) : FnOk P w K mg base CX0 1 f fd ["self", "at"] (spIni1 C "at") := by
  refine F.ok sc_BadWay_init (fun vs H Q E h => ?_) (fun cdv A outer s H vs Q E hr h => ?_)
  · obtain ⟨a, y, rfl, _⟩ := h
    rfl
  · obtain ⟨a, y, rfl, ha, k⟩ := h
    refine ⟨_, pss_one (ps_ost (pv 0) (pv 1)), ?_⟩
    exact ⟨_, rfl, _, rfl, a, C, rfl, T, hno, .inl ⟨ha, fun d hd hn => k d hd hn⟩⟩
theorem ok_bl (T : OexC K C) (hno : PySem.W.findIn K (.ref C) "length" = some none) (F : Fun K "__init__" "BadLength.__init__" s_BadLength_init f fd) : FnOk P w K mg base CX0 1 f fd ["self", "length"] (spIni1 C "length") := by
  refine F.ok sc_BadLength_init (fun vs H Q E h => ?_) (fun cdv A outer s H vs Q E hr h => ?_)
  · obtain ⟨a, y, rfl, _⟩ := h
    rfl
  · obtain ⟨a, y, rfl, ha, k⟩ := h
    refine ⟨_, pss_one (ps_ost (pv 0) (pv 1)), ?_⟩
    exact ⟨_, rfl, _, rfl, a, C, rfl, T, hno, .inl ⟨ha, fun d hd hn => k d hd hn⟩⟩
end
end Kx
set_option Elab.async false
set_option linter.all false
set_option maxRecDepth 100000
set_option maxHeartbeats 8000000
/-! trains and their releases -/
namespace Kx
open PySem L2 Lw
open Evl (Ex)
theorem sc_Train_init : FnScope ["self", "way", "length", "step"] ["self", "way", "length"] (defScope s_Train_init) := ⟨rfl, rfl, rfl, by decide +kernel, rfl, by decide +kernel, by decide +kernel⟩
theorem sc_Train_blocks : FnScope ["self"] ["self"] (defScope s_Train_blocks) := ⟨rfl, rfl, rfl, by decide +kernel, rfl, by decide +kernel, by decide +kernel⟩
section
variable {P : Program} {w : World} {K : PySem.W.Frag} {mg : Str → Option Value} {base : Heap} {C CT CN CB CW CL : Addr} {f : Addr} {fd : FuncData}
theorem ok_tinit {fB fL : Addr} {fdB fdL : FuncData} (TT : TrCl K CT) (B : Blt mg) (Z_BadWay : Err P w K mg base "BadWay" CB fB fdB ["self", "at"] (spIni1 CB "at")) (Z_BadLength : Err P w K mg base "BadLength" CL fL fdL ["self", "length"] (spIni1 CL "length")) (F : Fun K "__init__" "Train.__init__" s_Train_init f fd) : FnOk P w K mg base (L2.CX P w) 3 f fd ["self", "way", "length"] (spTInit K CT CB CL) := by
  have m_len := B.len
  have m_list := B.list
  have m_range := B.range
  refine F.okX sc_Train_init (fun vs H Q E h => ?_) (fun cdv A outer s H vs Q E hr h => ?_)
  · obtain ⟨G, x, dx, a, way, len, rfl, _⟩ := h
    rfl
  · obtain ⟨G, x, dx, a, way, len, rfl, hG, gx, hx, hs, hw, kB, kL, k⟩ := h
    refine ⟨_, (pss_cons (ps_if (pt_cmpR op_eq (pe_callB call_len_seq (by rfl) m_len PySem.boot_len (pa_cons (pv 1) pa_nil)) pe_int (nomark _))
 (pss_one (ps_raise rfl (takes_of rfl rfl rfl rfl) (pmk_oex Z_BadWay.cls Z_BadWay.ini Z_BadWay.tI Z_BadWay.fn (hr.mono (by decide)) Z_BadWay.bnd .nil pass0 (by rfl) Z_BadWay.gl (pa_cons pe_int pa_nil)))) pss_nil)
 (pss_cons (ps_if (pt_cmpR op_lt (pv 2) pe_int (nomark _))
 (pss_one (ps_raise rfl (takes_of rfl rfl rfl rfl) (pmk_oex Z_BadLength.cls Z_BadLength.ini Z_BadLength.tI Z_BadLength.fn (hr.mono (by decide)) Z_BadLength.bnd .nil pass0 (by rfl) Z_BadLength.gl (pa_cons (pv 2) pa_nil)))) pss_nil)
 (pss_cons (ps_fld (pv 0) (pe_callTy call_list_of (by rfl) m_list (by decide +kernel) (pa_cons (pv 1) pa_nil)) rfl)
 (pss_cons (ps_fld (pv 0) pe_dnewK rfl)
 (pss_cons (ps_for (passes_of rfl) rfl (pi_range1 rfl m_range (pa_cons (pe_callB call_len_seq (by rfl) m_len PySem.boot_len (pa_cons (pv 1) pa_nil)) pa_nil)) (pg_name (i := 3) sc_Train_init.nd rfl (by first | exact Or.inl rfl | exact Or.inr rfl))
 (pss_one (ps_expr (pe_dsetd (pe_fld (pv 0) rfl) (pe_ix ix_list (pv 1) (pv 3) (fun _ _ => rfl)) (pv 3) ⟨by rfl, by rfl, by rfl, by rfl⟩))))
 (pss_cons (ps_fld (pv 0) (pv 2) rfl)
 (pss_cons (ps_fld (pv 0) (pe_callB call_len_seq (by rfl) m_len PySem.boot_len (pa_cons (pv 1) pa_nil)) rfl)
 (pss_one (ps_fld (pv 0) (pe_op op_mul pe_int (pe_callB call_len_seq (by rfl) m_len PySem.boot_len (pa_cons (pv 1) pa_nil))) rfl))))))))), ?_⟩
    have ln : ∀ {σ : L2.St} {G' : Hp}, Ex G G' → σ[1]? = some (some (.ref a)) → EF (tCB (Evl.rLenS K) (tCons (tVar 1) tNil)) σ G' (XV (.int (way.length : Int))) := fun e h => (ex_lenL (ex_var h) (Evl.ex_l e hs)).imp fun v _ _ p => by rw [show v = _ from p, List.length_map]; rfl
    refine st_if (p := (· = decide ((way.length : Int) = 0))) hG (et_eqI (ln (.refl G) rfl) ex_c) (fun h H1 e1 => ?_) (fun h H1 e1 => ?_)
    · have h := of_decide_eq_true h.symm
      exact mk_oneH (hG.trans e1) ex_c ((kB (List.eq_nil_of_length_eq_zero (by omega))).up e1)
    have h0 := of_decide_eq_false h.symm
    have hne : way ≠ [] := fun z => h0 (by rw [z]; rfl)
    dsimp only [tNext]
    refine st_if (p := (· = decide (len < 1))) (hG.trans e1) (et_ltI (ex_var rfl) ex_c) (fun h H2 e2 => ?_) (fun h H2 e2 => ?_)
    · refine mk_oneH (hG.trans (e1.trans e2)) (ex_var (i := 2) (v := .int len) rfl) ?_
      exact ((kL hne (of_decide_eq_true h.symm)).up (e1.trans e2))
    have h1 : 1 ≤ len := by have := of_decide_eq_false h.symm; omega
    have eH := e1.trans e2
    have eGs : Ex G (outH H x) := ex_out hG gx
    have ox : outH H x x = none := out_self
    have eS : Ex (outH H x) H2 := out_ex.trans eH
    have x2 := eH _ _ hx
    dsimp only [tNext]
    refine st_fld x2 (ed_list (EF.dv (ex_var (v := .ref a) rfl) (dv_row (Evl.ex_l (hG.trans eH) hs)))) (ex_var rfl) TT.cl TT.way (by simp) fun y G3 H3 f3 g3 p3 => ?_
    obtain ⟨l, xl, rfl, l0, l1, ld⟩ := p3
    have exl := dpa_ints_eq ld
    subst exl
    have lx : l ≠ x := fun z => by rw [z, x2] at l0; cases l0
    have lS : outH H x l = none := none_back eS l0
    have eS4 : Ex (outH H x) (upd H3 x (.ins CT dx (putF "_way" (.ref l) []))) := ex_off (eS.trans (f3.trans g3)) ox
    have x4 : (upd H3 x (.ins CT dx (putF "_way" (.ref l) []))) x = some (.ins CT dx (putF "_way" (.ref l) [])) := upd_same
    have l4 : (upd H3 x (.ins CT dx (putF "_way" (.ref l) []))) l = some (.lst (way.map V.int)) := by rw [upd_ne lx]; exact g3 _ _ l1
    generalize upd H3 x (.ins CT dx (putF "_way" (.ref l) [])) = H4 at eS4 x4 l4 ⊢
    dsimp only
    refine st_fld x4 (ef_dnew (G := H4)) (ex_var rfl) TT.cl TT.at_ (by have := putF_len "_way" (.ref l) []; simp at this; omega) fun y G5 H5 f5 g5 p5 => ?_
    obtain ⟨d, rfl, d0, d1⟩ := p5
    have dx' : d ≠ x := fun z => by rw [z, x4] at d0; cases d0
    have dl : d ≠ l := fun z => by rw [z, l4] at d0; cases d0
    have dS : outH H x d = none := none_back eS4 d0
    obtain ⟨fs2, hf2⟩ : ∃ fs2, fs2 = putF "_step_at" (.ref d) (putF "_way" (.ref l) []) := ⟨_, rfl⟩
    rw [← hf2]
    have eS6 : Ex (outH H x) (upd H5 x (.ins CT dx fs2)) := ex_off (eS4.trans (f5.trans g5)) ox
    have x6 : (upd H5 x (.ins CT dx fs2)) x = some (.ins CT dx fs2) := upd_same
    have l6 : (upd H5 x (.ins CT dx fs2)) l = some (.lst (way.map V.int)) := by rw [upd_ne lx]; exact g5 _ _ (f5 _ _ l4)
    have d6 : (upd H5 x (.ins CT dx fs2)) d = some (.dK (stepN way 0)) := by rw [upd_ne dx']; exact g5 _ _ d1
    generalize upd H5 x (.ins CT dx fs2) = H6 at eS6 x6 l6 d6 ⊢
    have la : fs2.lookup ("_step_at" : Str) = some (.ref d) := by rw [hf2, lookup_putF, if_pos rfl]
    have fl2 : fs2.length ≤ 2 := by
      rw [hf2]
      have a1 := putF_len "_way" (.ref l) []
      have a2 := putF_len "_step_at" (.ref d) (putF "_way" (.ref l) [])
      simp at a1
      omega
    dsimp only
    refine st_forR1 (n := (way.length : Int)) (eGs.trans eS6) ((ea_one (ln (.refl G) rfl)).imp fun vs G' _ ⟨x, ev, hx⟩ => by rw [ev, show x = _ from hx]) (by omega) (by omega) (fun i σ' H' => Ex (outH H x) H' ∧ H' x = some (.ins CT dx fs2) ∧ H' l = some (.lst (way.map V.int)) ∧ H' d = some (.dK (stepN way i)) ∧ ∃ v, σ' = [some (.ref x), some (.ref a), some (.int len), v]) (fun H' e => ⟨eS6.trans e, e _ _ x6, e _ _ l6, e _ _ d6, _, rfl⟩) (fun i σ' H' hi hw' => ?_) (fun σ' H' hw' => ?_)
    · obtain ⟨e, hx', hl', hd', v, rfl⟩ := hw'
      have hi' : i < way.length := by omega
      refine st_setd (d := d) (kvs := stepN way i) (k := way.getD i 0) (z := .int (i : Int)) (ex_fld (ex_var rfl) hx' TT.cl TT.at_ la) hd' (ex_ixL (i := i) (ex_var (v := .ref a) rfl) (ex_var (v := .int (i : Int)) rfl) rfl (Evl.ex_l (eGs.trans e) hs) (by
        rw [List.getElem?_map, List.getElem?_eq_getElem hi', List.getD_eq_getElem?_getD, List.getElem?_eq_getElem hi']
        rfl)) (ex_var rfl) (by have := stepN_len way i; omega) fun H2 e2 => ⟨ex_off (e.trans e2) dS, by rw [upd_ne (Ne.symm dx')]; exact e2 _ _ hx', by rw [upd_ne (Ne.symm dl)]; exact e2 _ _ hl', upd_same, _, rfl⟩
    obtain ⟨e7, x7, l7, d7, v7, rfl⟩ := hw'
    rw [Int.toNat_natCast] at d7
    dsimp only
    refine st_fld (P := XV (.int len)) x7 (ex_var rfl) (ex_var rfl) TT.cl TT.length (by omega) fun y G8 H8 f8 g8 p8 => ?_
    cases (show y = .int len from p8)
    have e8 : Ex (outH H x) (upd H8 x (.ins CT dx (putF "length" (.int len) fs2))) := ex_off (e7.trans (f8.trans g8)) ox
    have x8 : (upd H8 x (.ins CT dx (putF "length" (.int len) fs2))) x = some (.ins CT dx (putF "length" (.int len) fs2)) := upd_same
    have l8 : (upd H8 x (.ins CT dx (putF "length" (.int len) fs2))) l = some (.lst (way.map V.int)) := by rw [upd_ne lx]; exact g8 _ _ (f8 _ _ l7)
    have d8 : (upd H8 x (.ins CT dx (putF "length" (.int len) fs2))) d = some (.dK (stepN way way.length)) := by rw [upd_ne dx']; exact g8 _ _ (f8 _ _ d7)
    generalize upd H8 x (.ins CT dx (putF "length" (.int len) fs2)) = H9 at e8 x8 l8 d8 ⊢
    have fl3 := putF_len "length" (.int len) fs2
    dsimp only
    refine st_fld (P := XV (.int (way.length : Int))) x8 (ln (eGs.trans e8) rfl) (ex_var rfl) TT.cl TT.steps (by omega) fun y Ga Ha fa ga pa => ?_
    cases (show y = .int (way.length : Int) from pa)
    have fl4 := putF_len "steps" (.int (way.length : Int)) (putF "length" (.int len) fs2)
    have ea : Ex (outH H x) (upd Ha x (.ins CT dx (putF "steps" (.int (way.length : Int)) (putF "length" (.int len) fs2)))) := ex_off (e8.trans (fa.trans ga)) ox
    have xa : (upd Ha x (.ins CT dx (putF "steps" (.int (way.length : Int)) (putF "length" (.int len) fs2)))) x = some (.ins CT dx (putF "steps" (.int (way.length : Int)) (putF "length" (.int len) fs2))) := upd_same
    have la' : (upd Ha x (.ins CT dx (putF "steps" (.int (way.length : Int)) (putF "length" (.int len) fs2)))) l = some (.lst (way.map V.int)) := by rw [upd_ne lx]; exact ga _ _ (fa _ _ l8)
    have da : (upd Ha x (.ins CT dx (putF "steps" (.int (way.length : Int)) (putF "length" (.int len) fs2)))) d = some (.dK (stepN way way.length)) := by rw [upd_ne dx']; exact ga _ _ (fa _ _ d8)
    generalize upd Ha x (.ins CT dx (putF "steps" (.int (way.length : Int)) (putF "length" (.int len) fs2))) = Hb at ea xa la' da ⊢
    dsimp only
    refine st_fld (P := XV (.int (2 * (way.length : Int)))) xa (ex_mul ex_c (ln (eGs.trans ea) rfl) (.inl (by decide))) (ex_var rfl) TT.cl TT.last (by omega) fun y Gc Hc fc gc pc => ?_
    cases (show y = .int (2 * (way.length : Int)) from pc)
    rw [hf2]
    obtain ⟨ff, hff⟩ : ∃ ff, ff = putF "last" (.int (2 * (way.length : Int))) (putF "steps" (.int (way.length : Int)) (putF "length" (.int len) (putF "_step_at" (.ref d) (putF "_way" (.ref l) [])))) := ⟨_, rfl⟩
    rw [← hff]
    have ec : Ex (outH H x) (upd Hc x (.ins CT dx ff)) := ex_off (ea.trans (fc.trans gc)) ox
    have xc : (upd Hc x (.ins CT dx ff)) x = some (.ins CT dx ff) := upd_same
    have lc : (upd Hc x (.ins CT dx ff)) l = some (.lst (way.map V.int)) := by rw [upd_ne lx]; exact gc _ _ (fc _ _ la')
    have dc : (upd Hc x (.ins CT dx ff)) d = some (.dK (stepN way way.length)) := by rw [upd_ne dx']; exact gc _ _ (fc _ _ da)
    have gF := (((Gr.same eGs ec).know eGs lS lc).know eGs dS dc).know eGs ox xc
    have t5 : TFl ff l d len (way.length : Int) := by rw [hff]; exact tfl5
    refine k hne h1 _ _ gF ⟨dx, ff, l, d, upd_same, t5, ?_, ?_, none_back eGs lS⟩
    · rw [upd_ne lx, upd_ne (Ne.symm dl)]; exact upd_same
    · rw [upd_ne dx']; exact upd_same
theorem ok_tblocks (TT : TrCl K CT) (B : Blt mg) (F : Fun K "blocks" "Train.blocks" s_Train_blocks f fd) : FnOk P w K mg base CX0 1 f fd ["self"] (spBlocksT K CT) := by
  have m_list := B.list
  refine F.ok sc_Train_blocks (fun vs H Q E h => ?_) (fun cdv A outer s H vs Q E hr h => ?_)
  · obtain ⟨G, p, way, len, _, rfl, _⟩ := h
    rfl
  · obtain ⟨G, p, way, len, hG, rfl, ⟨dx, fs, l, d, hp, hf, hl, hd⟩, k⟩ := h
    refine ⟨_, (pss_one (ps_ret (pe_callTy call_list_of (by rfl) m_list (by decide +kernel) (pa_cons (pe_fld (pv 0) rfl) pa_nil)))), ?_⟩
    exact st_ret hG (ed_list (EF.dv (ex_fld (ex_var rfl) hp TT.cl TT.way hf.way) (dv_row hl))) fun v G' H' g ⟨q, xs, ev, q0, q1, q2⟩ => k v G' H' g ⟨q, xs, ev, q0, q1, q2⟩
end
end Kx
set_option Elab.async false
set_option linter.all false
set_option maxRecDepth 100000
set_option maxHeartbeats 16000000
/-! a single line: checked, made -/
namespace Kx
open PySem L2 Lw
open Evl (Ex)
theorem sc__check_line : FnScope ["yards", "sections", "east", "west", "length"] ["yards", "sections", "east", "west"] (defScope s__check_line) := ⟨rfl, rfl, rfl, by decide +kernel, rfl, by decide +kernel, by decide +kernel⟩
theorem sc_Line_init : FnScope ["self", "yards", "sections", "east", "west", "lengths", "joints", "section", "yard", "block"] ["self", "yards", "sections", "east", "west"] (defScope s_Line_init) := ⟨rfl, rfl, rfl, by decide +kernel, rfl, by decide +kernel, by decide +kernel⟩
section
variable {P : Program} {w : World} {K : PySem.W.Frag} {mg : Str → Option Value} {base : Heap} {C CT CLn A_BadLine A_BadLength : Addr} {f : Addr} {fd : FuncData}
def spCkLn (K : PySem.W.Frag) (CB CL : Addr) : Sp := fun vs H Q E => ∃ (a1 a2 a3 a4 : Addr) (p : Ln), vs = [.ref a1, .ref a2, .ref a3, .ref a4] ∧ SqL K H a1 (p.ys.map V.int) ∧ SqL K H a2 (p.ss.map V.int) ∧ SqL K H a3 (p.es.map V.int) ∧ SqL K H a4 (p.ws.map V.int) ∧ p.all.length ≤ 900 ∧ (p.err = none → ∀ H', Ex H H' → Q .non H') ∧ (p.err = some none → ∀ H', Ex H H' → E (.ref CB) none H') ∧ (∀ z, p.err = some (some z) → RseH CL [("length", .int z)] H E)
theorem ok_ckLn {fL : Addr} {fdL : FuncData} (B : Blt mg) (m_max : mg "max" = none) {t_SECTION_LIMIT : PySem.Tok} (m_SECTION_LIMIT : mg "SECTION_LIMIT" = some (.int 6 t_SECTION_LIMIT)) {t_TRAIN_LIMIT : PySem.Tok} (m_TRAIN_LIMIT : mg "TRAIN_LIMIT" = some (.int 4 t_TRAIN_LIMIT)) (Z_BadLine : Err0 K mg "BadLine" A_BadLine) (Z_BadLength : Err P w K mg base "BadLength" A_BadLength fL fdL ["self", "length"] (spIni1 A_BadLength "length")) (F : Fun K "_check_line" "_check_line" s__check_line f fd) : FnOk P w K mg base (L2.CX P w) 3 f fd ["yards", "sections", "east", "west"] (spCkLn K A_BadLine A_BadLength) := by
  have m_len := B.len
  refine F.okX sc__check_line (fun vs H Q E h => ?_) (fun cdv A outer s H vs Q E hr h => ?_)
  · obtain ⟨a1, a2, a3, a4, p, rfl, _⟩ := h
    rfl
  · obtain ⟨a1, a2, a3, a4, p, rfl, s1, s2, s3, s4, hl, k0, kB, kL⟩ := h
    refine ⟨_, (pss_cons (ps_if (PW.pt (pw_or (pt_not (pt_chain op_le op_le pe_int (pe_callB call_len_seq (by rfl) m_len PySem.boot_len (pa_cons (pv 1) pa_nil)) (pe_glob (v := .int 6) (by rfl) m_SECTION_LIMIT ⟨_, rfl⟩))) (pw_or1 (pt_cmpR op_ne (pe_callB call_len_seq (by rfl) m_len PySem.boot_len (pa_cons (pv 0) pa_nil)) (pe_op op_add (pe_callB call_len_seq (by rfl) m_len PySem.boot_len (pa_cons (pv 1) pa_nil)) pe_int) (nomark _)))))
 (pss_one (ps_raise rfl (takes_of rfl rfl rfl rfl) (pmk_own0 PySem.F.excBase_ValueError Z_BadLine.ex Z_BadLine.gl Z_BadLine.kp (raises_own Z_BadLine.sub Z_BadLine.ty) (by rfl)))) pss_nil)
 (pss_cons (ps_if (pt_cmpR op_gt (pe_callB (call_max2 rfl) (by rfl) m_max (by decide +kernel) (pa_cons (pe_callB call_len_seq (by rfl) m_len PySem.boot_len (pa_cons (pv 2) pa_nil)) (pa_cons (pe_callB call_len_seq (by rfl) m_len PySem.boot_len (pa_cons (pv 3) pa_nil)) pa_nil))) (pe_glob (v := .int 4) (by rfl) m_TRAIN_LIMIT ⟨_, rfl⟩) (nomark _))
 (pss_one (ps_raise rfl (takes_of rfl rfl rfl rfl) (pmk_own0 PySem.F.excBase_ValueError Z_BadLine.ex Z_BadLine.gl Z_BadLine.kp (raises_own Z_BadLine.sub Z_BadLine.ty) (by rfl)))) pss_nil)
 (pss_one (ps_for (passes_of rfl) rfl (pi_list (pe_lst (StX.pa_star (pv 0) (StX.pa_star (pv 1) (StX.pa_star (pv 2) (StX.pa_star (pv 3) pa_nil)))))) (pg_name (i := 4) sc__check_line.nd rfl (by first | exact Or.inl rfl | exact Or.inr rfl))
 (pss_one (ps_if (pt_cmpR op_lt (pv 4) pe_int (nomark _))
 (pss_one (ps_raise rfl (takes_of rfl rfl rfl rfl) (pmk_oex Z_BadLength.cls Z_BadLength.ini Z_BadLength.tI Z_BadLength.fn (hr.mono (by decide)) Z_BadLength.bnd .nil pass0 (by rfl) Z_BadLength.gl (pa_cons (pv 4) pa_nil)))) pss_nil)))))), ?_⟩
    have ln : ∀ {σ : L2.St} {i : Nat} {a : Addr} {l : List Int}, SqL K H a (l.map V.int) → σ[i]? = some (some (.ref a)) → EF (tCB (Evl.rLenS K) (tCons (tVar i) tNil)) σ H (XV (.int (l.length : Int))) := fun hs h => (ex_lenL (ex_var h) hs).imp fun v _ _ p => by rw [show v = _ from p, List.length_map]; rfl
    have tsh : p.shape = decide (1 ≤ p.ss.length ∧ p.ss.length ≤ 6 ∧ p.ys.length = p.ss.length + 1) := rfl
    have tfw : p.few = decide (p.es.length ≤ 4 ∧ p.ws.length ≤ 4) := rfl
    refine st_if (G := H) (p := (· = !p.shape)) (Ex.refl H) (et_or (p := (· = !(decide ((1 : Int) ≤ (p.ss.length : Int)) && decide ((p.ss.length : Int) ≤ 6)))) (q := (· = !decide ((p.ys.length : Int) = (p.ss.length : Int) + 1))) (s := (· = !p.shape)) (et_not (et_test ((eb_chain (f := fun i j => decide (i ≤ j)) (g := fun i j => decide (i ≤ j)) (ex_c (v := .int 1)) (ln (i := 1) s2 rfl) (ex_c (v := .int 6))).imp fun v _ _ ⟨b, e, hb⟩ => ⟨b, e, by show (!b) = _; rw [hb]⟩))) (fun _ => et_neI (ln (i := 0) s1 rfl) (ex_add (ln (i := 1) s2 rfl) (ex_c (v := .int 1)))) (fun h => ?_) (fun h c hc => ?_)) (fun h H1 e1 => ?_) (fun h H1 e1 => ?_)
    · show true = !p.shape
      rw [tsh]
      have h' : (decide ((1 : Int) ≤ (p.ss.length : Int)) && decide ((p.ss.length : Int) ≤ 6)) = false := by
        cases hh : (decide ((1 : Int) ≤ (p.ss.length : Int)) && decide ((p.ss.length : Int) ≤ 6)) with
        | false => rfl
        | true => rw [hh] at h; cases h
      rw [decide_eq_false fun z => by
        rw [decide_eq_true (by omega), decide_eq_true (by omega)] at h'
        cases h']
      rfl
    · show c = !p.shape
      rw [hc, tsh]
      have h' : (decide ((1 : Int) ≤ (p.ss.length : Int)) && decide ((p.ss.length : Int) ≤ 6)) = true := by
        cases hh : (decide ((1 : Int) ≤ (p.ss.length : Int)) && decide ((p.ss.length : Int) ≤ 6)) with
        | true => rfl
        | false => rw [hh] at h; cases h
      rw [Bool.and_eq_true, decide_eq_true_eq, decide_eq_true_eq] at h'
      congr 1
      exact decide_eq_decide.mpr ⟨fun z => ⟨by omega, by omega, by omega⟩, fun z => by omega⟩
    · refine kB ?_ H1 e1
      unfold Ln.err
      cases hs : p.shape with
      | false => rw [if_pos rfl]
      | true => rw [hs] at h; cases h
    have hs : p.shape = true := by
      cases hs : p.shape with
      | true => rfl
      | false => rw [hs] at h; cases h
    dsimp only [tNext]
    refine st_if (G := H) (p := (· = !p.few)) e1 ((et_gtI (ex_max (ln (i := 2) s3 rfl) (ln (i := 3) s4 rfl) rfl) (ex_c (v := .int 4))).imp fun b hb => ?_) (fun h2 H2 e2 => ?_) (fun h2 H2 e2 => ?_)
    · rw [hb, tfw]
      by_cases hf : p.es.length ≤ 4 ∧ p.ws.length ≤ 4
      · rw [decide_eq_true hf, decide_eq_false (by split <;> omega)]; rfl
      · rw [decide_eq_false hf, decide_eq_true (by split <;> omega)]; rfl
    · refine kB ?_ H2 (e1.trans e2)
      unfold Ln.err
      rw [hs, if_neg (by simp)]
      cases hf : p.few with
      | false => rw [if_pos rfl]
      | true => rw [hf] at h2; cases h2
    have hf : p.few = true := by
      cases hf : p.few with
      | true => rfl
      | false => rw [hf] at h2; cases h2
    have ee : p.err = match p.all.find? (fun z => decide (z < 1)) with
        | some z => some (some z)
        | none => none := by
      unfold Ln.err
      rw [hs, hf, if_neg (by simp), if_neg (by simp)]
      all_goals (cases p.all.find? (fun z => decide (z < 1)) <;> rfl)
    have e12 := e1.trans e2
    dsimp only [tNext]
    refine st_forD (G := H) (xs := p.all.map V.int) e12 (ef_lst (R := fun vs _ => vs = p.all.map V.int) ((ea_starL (ex_var rfl) s1 (ea_starL (ex_var rfl) s2 (ea_starL (ex_var rfl) s3 (ea_starL (ex_var rfl) s4 ea_nil)))).imp fun vs _ _ ev => by rw [show vs = _ from ev]; unfold Ln.all; simp) (fun vs _ ev => by rw [ev, List.length_map]; omega) fun q vs G' _ _ _ ev => ⟨q, rfl, Evl.sq_of (by rw [upd_same, ev])⟩) (fun i σ' H' => Ex H H' ∧ (∀ j z, j < i → p.all[j]? = some z → 1 ≤ z) ∧ ∃ v4, σ' = [some (.ref a1), some (.ref a2), some (.ref a3), some (.ref a4), v4]) (fun H' e => ⟨e12.trans e, fun j z h => by omega, _, rfl⟩) (fun i y σ' H' HH hi hw eHH => ?_) (fun σ' H' hw => ?_)
    · obtain ⟨eH, hA, v4, rfl⟩ := hw
      rw [List.getElem?_map] at hi
      obtain ⟨z, hz, rfl⟩ := Option.map_eq_some_iff.mp hi
      dsimp only [gName]
      refine st_if (G := H) (p := (· = decide (z < 1))) eH (et_ltI (ex_var rfl) (ex_c (v := .int 1))) (fun h3 H3 e3 => ?_) (fun h3 H3 e3 => ?_)
      · have hz1 := of_decide_eq_true h3.symm
        refine mk_oneH (eH.trans e3) (ex_var rfl) ((kL z ?_).up (eH.trans e3))
        rw [ee]
        have : p.all.find? (fun z => decide (z < 1)) = some z := by
          rw [List.find?_eq_some_iff_getElem]
          obtain ⟨hi1, hi2⟩ := List.getElem?_eq_some_iff.mp hz
          exact ⟨decide_eq_true hz1, i, hi1, hi2, fun j hj => by
            have := hA j _ hj (List.getElem?_eq_getElem (by omega))
            simp; omega⟩
        rw [this]
      · have hz1 := of_decide_eq_false h3.symm
        refine ⟨⟨eH.trans e3, fun j w hj hw' => ?_, _, rfl⟩, eHH.trans e3⟩
        by_cases hji : j < i
        · exact hA j w hji hw'
        · have : j = i := by omega
          subst this
          rw [hz] at hw'
          injection hw' with hw'
          omega
    · obtain ⟨eH, hA, v4, rfl⟩ := hw
      rw [List.length_map] at hA
      refine k0 ?_ H' eH
      rw [ee]
      have : p.all.find? (fun z => decide (z < 1)) = none := List.find?_eq_none.mpr fun z m => by
        obtain ⟨j, hj⟩ := List.getElem?_of_mem m
        have := hA j z (List.getElem?_eq_some_iff.mp hj).1 hj
        simp; omega
      rw [this]
theorem sq_out {H : Hp} {x dx a : Addr} {CL : Addr} {fs : List (Str × V)} {xs : List V} (h : SqL K H a xs) (hx : H x = some (.ins CL dx fs)) : SqL K (outH H x) a xs := by
  rcases h with (h | ⟨o, h⟩) | h
  · exact .inl (.inl (by rw [out_ne (fun z => by rw [z, hx] at h; cases h)]; exact h))
  · exact .inl (.inr ⟨o, by rw [out_ne (fun z => by rw [z, hx] at h; cases h)]; exact h⟩)
  · exact .inr h
def spLnI (K : PySem.W.Frag) (C CL CB CE : Addr) : Sp := fun vs H Q E => ∃ (G : Hp) (x dx a1 a2 a3 a4 : Addr) (p : Ln), vs = [.ref x, .ref a1, .ref a2, .ref a3, .ref a4] ∧ Ex G H ∧ G x = none ∧ H x = some (.ins CL dx []) ∧ SqL K H a1 (p.ys.map V.int) ∧ SqL K H a2 (p.ss.map V.int) ∧ SqL K H a3 (p.es.map V.int) ∧ SqL K H a4 (p.ws.map V.int) ∧ p.all.length ≤ 900 ∧ (p.err = none → ∀ G' H', Gr G G' (outH H x) H' → LinC K C CL G' x p → Q .non H') ∧ (p.err = some none → ∀ H', Ex H H' → E (.ref CB) none H') ∧ (∀ z, p.err = some (some z) → RseH CE [("length", .int z)] H E)
theorem ok_lnI {gg : List Value → List Value → List Value} (TL : LinCl K CLn) (B : Blt mg) (m_zip : mg "zip" = none) (F : Fun K "__init__" "Line.__init__" s_Line_init f fd) (Cc : CalX P w K mg base "_check_line" 3 ["yards", "sections", "east", "west"] (spCkLn K A_BadLine A_BadLength)) (Ci : ∃ fI fdI, Mk K C fI ∧ FnOk P w K mg base CX0 5 fI fdI ["self", "lengths", "joints", "yards"] (spInitM K C) ∧ KBn K fdI ["self", "lengths", "joints", "yards"] 3 ["yards"] gg (fun vs zs => vs ++ zs) ∧ mg "Layout" = some (.ref C)) : FnOk P w K mg base (L2.CX P w) 9 f fd ["self", "yards", "sections", "east", "west"] (spLnI K C CLn A_BadLine A_BadLength) := by
  obtain ⟨f1, fd1, G__check_line, m__check_line, k__check_line, b__check_line⟩ := Cc
  obtain ⟨fI, fdI, M_Layout, G_init, b_init, m_Layout⟩ := Ci
  have m_len := B.len
  have m_list := B.list
  have m_range := B.range
  refine F.okX sc_Line_init (fun vs H Q E h => ?_) (fun cdv A outer s H vs Q E hr h => ?_)
  · obtain ⟨G, x, dx, a1, a2, a3, a4, p, rfl, _⟩ := h
    rfl
  · obtain ⟨G, x, dx, a1, a2, a3, a4, p, rfl, hG, gx, hx, s1, s2, s3, s4, hl, k0, kB, kL⟩ := h
    refine ⟨_, (pss_cons (ps_expr (pe_callSD G__check_line (hr.mono (by decide)) rfl m__check_line k__check_line b__check_line .nil (fun σ => passAt (takes_of rfl rfl rfl rfl) σ) (pa_cons (pv 1) (pa_cons (pv 2) (pa_cons (pv 3) (pa_cons (pv 4) pa_nil))))))
 (pss_cons (ps_fld (pv 0) (pe_callB call_len_seq (by rfl) m_len PySem.boot_len (pa_cons (pv 2) pa_nil)) rfl)
 (pss_cons (ps_fld (pv 0) (pe_callB call_len_seq (by rfl) m_len PySem.boot_len (pa_cons (pv 3) pa_nil)) rfl)
 (pss_cons (ps_fld (pv 0) (pe_callB call_len_seq (by rfl) m_len PySem.boot_len (pa_cons (pv 4) pa_nil)) rfl)
 (pss_cons (ps_fld (pv 0) (pe_callTy call_list_of (by rfl) m_list (by decide +kernel) (pa_cons (pv 1) pa_nil)) rfl)
 (pss_cons (ps_fld (pv 0) (pe_callTy call_list_of (by rfl) m_list (by decide +kernel) (pa_cons (pv 3) pa_nil)) rfl)
 (pss_cons (ps_fld (pv 0) (pe_callTy call_list_of (by rfl) m_list (by decide +kernel) (pa_cons (pv 4) pa_nil)) rfl)
 (pss_cons (ps_set (i := 5) sc_Line_init.nd rfl (by first | exact Or.inl rfl | exact Or.inr rfl) (pe_lst (pa_cons (pe_ix ix_list (pv 1) pe_int (fun _ _ => rfl)) pa_nil)))
 (pss_cons (ps_for (passes_of rfl) rfl (pi_zip (by rfl) m_zip (pa_cons (pv 2) (pa_cons (pe_slice sl_list (pv 1) (po_some pe_int) po_none) pa_nil))) (pg_tup rfl (pgs_cons (pg_name (i := 7) sc_Line_init.nd rfl (by first | exact Or.inl rfl | exact Or.inr rfl)) (pgs_cons (pg_name (i := 8) sc_Line_init.nd rfl (by first | exact Or.inl rfl | exact Or.inr rfl)) pgs_nil)))
 (pss_one (ps_set (i := 5) sc_Line_init.nd rfl (by first | exact Or.inl rfl | exact Or.inr rfl) (pe_op op_cat (pv 5) (pe_lst (pa_cons (pv 7) (pa_cons (pv 8) pa_nil)))))))
 (pss_cons (ps_setLc (i := 6) (own := [("block", 9)]) (g := (gName 9)) (tt := tYes) rfl sc_Line_init.nd rfl rfl (sw_true rfl rfl rfl (by decide +kernel)) (pi_range1 rfl m_range (pa_cons (pe_op op_sub (pe_callB call_len_seq (by rfl) m_len PySem.boot_len (pa_cons (pv 5) pa_nil)) pe_int) pa_nil)) (blkOk_by (N := ["self", "yards", "sections", "east", "west", "lengths", "joints", "section", "yard", "block"]) (sc := defScope s_Line_init) (by decide +kernel)) (fun _ _ _ _ _ => pg_name (i := 9) sc_Line_init.nd rfl (Or.inl rfl)) (fun _ _ _ _ _ => pts_nil) (fun _ _ _ _ _ => (pe_tup (pa_cons (pv 9) (pa_cons (pe_op op_add (pv 9) pe_int) pa_nil)))))
 (pss_one (ps_fld (pv 0) (pe_makeK M_Layout G_init (hr.mono (by decide)) rfl m_Layout b_init pass0 (pa_cons (pv 5) (pa_cons (pv 6) pa_nil)) (pk_cons (pe_listRg3 (by rfl) (by rfl) m_list (by rfl) m_range pe_int (pe_callB call_len_seq (by rfl) m_len PySem.boot_len (pa_cons (pv 5) pa_nil)) pe_int) pk_nil)) rfl)))))))))))), ?_⟩
    refine ⟨.ref a1, rfl, .ref a2, rfl, .ref a3, rfl, .ref a4, rfl, a1, a2, a3, a4, p, rfl, s1, s2, s3, s4, hl, fun he H1 e1 => ?_, fun he => kB he, fun z he => kL z he⟩
    have hx1 := e1 _ _ hx
    obtain ⟨q1, q2, q3, q4, q5, hall⟩ := Ln.ok_shape he
    have t1 := Evl.ex_l e1 s1
    have t2 := Evl.ex_l e1 s2
    have t3 := Evl.ex_l e1 s3
    have t4 := Evl.ex_l e1 s4
    have E01 : Ex (outH H x) (outH H1 x) := ex_out (out_ex.trans e1) out_self
    have ln : ∀ {S : Hp} {σ : L2.St} {i : Nat} {a : Addr} {l : List Int}, SqL K S a (l.map V.int) → σ[i]? = some (some (.ref a)) → EF (tCB (Evl.rLenS K) (tCons (tVar i) tNil)) σ S (XV (.int (l.length : Int))) := fun hs h => (ex_lenL (ex_var h) hs).imp fun v _ _ p => by rw [show v = _ from p, List.length_map]; rfl
    dsimp only
    refine st_fldW (n := 0) hx1 (ln (i := 2) (sq_out t2 hx1) rfl) (ex_var rfl) TL.cl TL.sections (Nat.le_refl _) (by omega) fun y2 K2 H2 k2 c2 p2 hx2 l2 => ?_
    cases (show y2 = _ from p2)
    have E12 := k2.trans c2
    have E02 := E01.trans E12
    dsimp only
    refine st_fldW (n := 1) hx2 (ln (i := 3) (Evl.ex_l E12 (sq_out t3 hx1)) rfl) (ex_var rfl) TL.cl TL.eastbound l2 (by omega) fun y3 K3 H3 k3 c3 p3 hx3 l3 => ?_
    cases (show y3 = _ from p3)
    have E13 := E12.trans (k3.trans c3)
    dsimp only
    refine st_fldW (n := 2) hx3 (ln (i := 4) (Evl.ex_l E13 (sq_out t4 hx1)) rfl) (ex_var rfl) TL.cl TL.westbound l3 (by omega) fun y4 K4 H4 k4 c4 p4 hx4 l4 => ?_
    cases (show y4 = _ from p4)
    have E14 := E13.trans (k4.trans c4)
    dsimp only
    refine st_fldW (n := 3) hx4 (ex_listV (ex_var (i := 1) rfl) (Evl.ex_l E14 (sq_out t1 hx1))) (ex_var rfl) TL.cl TL.rooms l4 (by omega) fun y5 K5 H5 k5 c5 p5 hx5 l5 => ?_
    obtain ⟨r, rfl, r0, r1⟩ := p5
    have E15 := E14.trans (k5.trans c5)
    dsimp only
    refine st_fldW (n := 4) hx5 (ex_listV (ex_var (i := 3) rfl) (Evl.ex_l E15 (sq_out t3 hx1))) (ex_var rfl) TL.cl TL.east l5 (by omega) fun y6 K6 H6 k6 c6 p6 hx6 l6 => ?_
    obtain ⟨ea, rfl, ea0, ea1⟩ := p6
    have E56 := k6.trans c6
    have E16 := E15.trans E56
    dsimp only
    refine st_fldW (n := 5) hx6 (ex_listV (ex_var (i := 4) rfl) (Evl.ex_l E16 (sq_out t4 hx1))) (ex_var rfl) TL.cl TL.west l6 (by omega) fun y7 K7 H7 k7 c7 p7 hx7 l7 => ?_
    obtain ⟨we, rfl, we0, we1⟩ := p7
    have E67 := k7.trans c7
    have E17 := E16.trans E67
    have r7 : outH H7 x r = some (.lst (p.ys.map V.int)) := (E56.trans E67) _ _ (c5 _ _ r1)
    have ea7 : outH H7 x ea = some (.lst (p.es.map V.int)) := E67 _ _ (c6 _ _ ea1)
    have we7 : outH H7 x we = some (.lst (p.ws.map V.int)) := c7 _ _ we1
    have t17 := Evl.ex_l (E17.trans out_ex) (sq_out t1 hx1)
    have t27 := Evl.ex_l (E17.trans out_ex) (sq_out t2 hx1)
    obtain ⟨y0, hy0⟩ : ∃ y, p.ys[0]? = some y := ⟨_, List.getElem?_eq_getElem (by omega)⟩
    have el0 : p.lensN 0 = [y0] := by
      unfold Ln.lensN
      cases hy : p.ys with
      | nil => rw [hy] at hy0; cases hy0
      | cons a l => rw [hy] at hy0; injection hy0 with hy0; simp [hy0]
    dsimp only
    refine st_asg (G := H7) (P := fun v G' => ∃ q : Addr, v = .ref q ∧ G' q = some (.lst ((p.lensN 0).map V.int))) (Ex.refl _) (ef_lst (R := fun vs _ => vs = [.int y0]) (ea_x (ex_ixL (i := 0) (ex_var (v := .ref a1) rfl) (ex_c (v := .int 0)) rfl t17 (by rw [List.getElem?_map, hy0]; rfl)) ea_nil) (fun vs _ ev => by rw [ev]; simp) fun q vs G' _ _ _ ev => ⟨q, rfl, by rw [upd_same, ev, el0]; rfl⟩) fun v8 G8 H8 g8 p8 => ?_
    obtain ⟨la0, rfl, la1⟩ := p8
    have hla := g8.ok _ _ la1
    have hx8 := g8.hp _ _ hx7
    have zl : p.ss.length = min (p.ss.map V.int).length ((p.ys.map V.int).drop 1).length := by rw [List.length_map, List.length_drop, List.length_map]; omega
    dsimp only
    refine st_forZ (G := H8) zl (Ex.refl _) ((ea_two (Pa := XV (.ref a2)) (Pb := fun v G' => ∃ b : Addr, v = .ref b ∧ SqL K G' b ((p.ys.map V.int).drop 1)) mo_XV (fun v G1 G2 e ⟨b, h1, h2⟩ => ⟨b, h1, Evl.ex_l e h2⟩) (ex_var rfl) (EF.imp (ex_fromL (a := a1) (xs := p.ys.map V.int) (k := 1) (ex_var rfl) (Evl.ex_l g8.hp t17) ex_c) fun v G' e ⟨b, h1, _, h3⟩ => ⟨b, h1, Evl.sq_of h3⟩)).imp fun vs G' e ⟨y, z, ev, hy, b, hz, hb⟩ => ⟨a2, b, by rw [ev, show y = _ from hy, hz], Evl.ex_l (g8.hp.trans e) t27, hb⟩) fun G9 H9 g9 => ?_
    refine ⟨fun i σ' H' => ∃ (la : Addr) (v7 v8 : Option V), Ex G9 H' ∧ Ex H8 H' ∧ H' la = some (.lst ((p.lensN i).map V.int)) ∧ σ' = [some (.ref x), some (.ref a1), some (.ref a2), some (.ref a3), some (.ref a4), some (.ref la), none, v7, v8, none], ⟨la0, none, none, g9.ok, g9.hp, g9.hp _ _ hla, rfl⟩, fun i σ' H' w => by obtain ⟨_, _, _, w, _⟩ := w; exact w, fun i s y T σ' H' hi hs hy hw hT => ?_, fun σ' H' hw => ?_⟩
    · obtain ⟨la, v7, v8, e9, e89, hl', rfl⟩ := hw
      rw [List.getElem?_map] at hs
      obtain ⟨s', hs', rfl⟩ := Option.map_eq_some_iff.mp hs
      rw [← List.map_drop, List.getElem?_map] at hy
      obtain ⟨y', hy', rfl⟩ := Option.map_eq_some_iff.mp hy
      have eT : Ex H' (upd H' T (.tup [.int s', .int y'])) := ex_in hT
      refine g_two (Evl.st_of upd_same) ?_
      dsimp only
      refine st_asg (G := upd H' T (.tup [.int s', .int y'])) (P := NwI K (upd H' T (.tup [.int s', .int y'])) (· = p.lensN i ++ [s', y'])) (Ex.refl _) (ei_catN (EF.imp (ex_var (v := .ref la) rfl) fun v G' e pv => ⟨la, _, pv, e _ _ (eT _ _ hl'), dpa_ints _⟩) (el_lst (K := K) (R := fun vs _ => vs = [.int s', .int y']) (ds := [s', y'].map PyData.int) (ea_x (ex_var rfl) (ea_x (ex_var rfl) ea_nil)) (by simp) fun vs G' _ ev => by rw [ev]; exact .cons (.int _) (.cons (.int _) .nil)) (by
        rw [Ln.lensN_len (by omega) (by omega) q3]
        simp; omega)) fun v10 G10 H10 g10 p10 => ?_
      obtain ⟨la', ns, rfl, _, n1, rfl⟩ := p10
      exact ⟨la', _, _, e9.trans (eT.trans g10.hp), e89.trans (eT.trans g10.hp), by rw [Ln.lensN_succ hs' hy']; exact g10.ok _ _ n1, rfl⟩
    · obtain ⟨la, v7, v8, e9, e89, hl', rfl⟩ := hw
      have ell : p.lensN p.ss.length = p.lens := rfl
      have llen : p.lens.length = 2 * p.ss.length + 1 := Ln.lensN_len (by omega) (Nat.le_refl _) q3
      rw [ell] at hl'
      have hxz := e89 _ _ hx8
      dsimp only
      have sla : SqL K (outH H' x) la (p.lens.map V.int) := sq_out (Evl.sq_of hl') hxz
      refine st_asg (G := outH H' x) (P := LS K ((List.range (2 * p.ss.length)).map fun b : Nat => dP ((b : Int), (b : Int) + 1))) out_ex (el_mapR (n := 2 * p.ss.length) (g := fun b : Nat => dP ((b : Int), (b : Int) + 1)) (ea_x ((ex_sub (ex_lenL (ex_var (v := .ref la) rfl) sla) (ex_c (v := .int 1))).imp fun v _ _ p => by rw [show v = _ from p, List.length_map, llen]; congr 1; omega) ea_nil) (by omega) (fun _ => rfl) fun i G' e hi => ef_pairI (ex_var rfl) (ex_add (ex_var rfl) (ex_c (v := .int 1)))) fun v11 G11 H11 g11 p11 => ?_
      have ej : ((List.range (2 * p.ss.length)).map fun b : Nat => dP ((b : Int), (b : Int) + 1)) = (lineJ (2 * p.ss.length)).map dP := by unfold lineJ; rw [List.map_map]; rfl
      rw [ej] at p11
      have dj := p11.dp
      obtain ⟨ja, jxs, rfl, _, _⟩ := p11
      have hx11 := g11.hp _ _ hxz
      have k11 : Ex G11 (outH H11 x) := ex_out g11.ok (g11.2.2.2 x (ne_none_of hxz) out_self)
      have sla11 : SqL K (outH H11 x) la (p.lens.map V.int) := sq_out (Evl.sq_of (g11.hp _ _ hl')) hx11
      have dj11 := dpx dj k11
      dsimp only
      refine st_fldW (n := 6) hx11 (P := fun v G' => ∃ (l : Addr) (G1 : Hp), v = .ref l ∧ Ex G1 G' ∧ LayL K C G1 l p.lens (ev2 (2 * p.ss.length + 1)) (lineJ (2 * p.ss.length)) ∧ ∀ a, outH H11 x a ≠ none → G1 a = none) (EF.imp (ef_makeM (G0 := fun _ => none) (lens := p.lens) (js := lineJ (2 * p.ss.length)) (parks := ev2 (2 * p.ss.length + 1)) (fun _ _ h => nomatch h) ((ea_two (Pa := XV (.ref la)) (Pb := XV (.ref ja)) mo_XV mo_XV (ex_var rfl) (ex_var rfl)).imp fun vs G' e ⟨y, z, ev, hy, hz⟩ => ⟨la, ja, by rw [ev, show y = _ from hy, show z = _ from hz], .lst (Evl.ex_l e sla11) (dpa_ints _), dpx dj11 e⟩) ((ea_one (ef_lrg3 (n := 2 * p.ss.length + 1) ex_c ((ex_lenL (ex_var (v := .ref la) rfl) sla11).imp fun v _ _ pv => by rw [show v = _ from pv, List.length_map, llen]; rfl) ex_c (by omega))).imp fun vs G' e ⟨z, ev, q, hz, _, h1⟩ => ⟨q, by rw [ev, hz], dp_mkL h1 (dpa_ints _)⟩) (by omega) (Ln.lens_pos he) (fun b m => by
        unfold ev2 at m
        obtain ⟨j, hj, rfl⟩ := List.mem_map.mp m
        have := List.mem_range.mp hj
        rw [llen]
        omega) (lineJ_ok _ _ _ (by rw [llen]; omega)) (by rw [lineJ_len]; omega)) fun v G' _ ⟨l, G1, h1, _, h3, h4, h5⟩ => ⟨l, G1, h1, h3, h4, fun a ha => h5 a ha rfl⟩) (ex_var rfl) TL.cl TL.layout l7 (by omega) fun y12 K12 H12 k12 c12 p12 hx12 l12 => ?_
      obtain ⟨l, GL, rfl, hGL, hLay, hnew⟩ := p12
      have F711 : Ex (outH H7 x) (outH H11 x) := ex_out (out_ex.trans (g8.hp.trans (e89.trans g11.hp))) out_self
      have F07 : Ex (outH H x) (outH H7 x) := E01.trans E17
      have F011 := F07.trans F711
      have F712 := F711.trans (k12.trans c12)
      have F012 : Ex (outH H x) H12 := (F07.trans F712).trans out_ex
      have nw : ∀ {a : Addr} {o : HO}, outH H x a = none → outH H7 x a = some o → newK G (outH H x) H12 a = some o := fun h h7 => by
        rw [newK_new h]
        exact out_ex _ _ (F712 _ _ h7)
      refine k0 he (newK G (outH H x) H12) H12 (gr_newK (ex_out hG gx) F012) ⟨dx, _, l, r, ea, we, by rw [newK_new out_self]; exact hx12, lnfl7, hLay.ex fun a o ha => ?_, nw (none_back (E01.trans E14) r0) r7, nw (none_back (E01.trans E15) ea0) ea7, nw (none_back (E01.trans E16) we0) we7⟩
      have hn11 : outH H11 x a = none := by
        cases h : outH H11 x a with
        | none => rfl
        | some u => rw [hnew a (by rw [h]; exact fun z => nomatch z)] at ha; cases ha
      rw [newK_new (none_back F011 hn11)]
      exact out_ex _ _ (c12 _ _ (hGL _ _ ha))
end
end Kx
set_option Elab.async false
set_option linter.all false
set_option maxRecDepth 100000
set_option maxHeartbeats 16000000
/-! a single line asked -/
namespace Kx
open PySem L2 Lw
open Evl (Ex)
theorem sc_Line_trains : FnScope ["self", "blocks", "eastward", "length"] ["self"] (defScope s_Line_trains) := ⟨rfl, rfl, rfl, by decide +kernel, rfl, by decide +kernel, by decide +kernel⟩
theorem sc_Line_can_meet : FnScope ["self", "east", "west", "yard"] ["self", "east", "west", "yard"] (defScope s_Line_can_meet) := ⟨rfl, rfl, rfl, by decide +kernel, rfl, by decide +kernel, by decide +kernel⟩
section
variable {P : Program} {w : World} {K : PySem.W.Frag} {mg : Str → Option Value} {base : Heap} {C CT CLn A_BadWay A_BadLength : Addr} {f : Addr} {fd : FuncData}
theorem ok_trsL {gT : List Value → List Value → List Value} (T : Cl K C) (TL : LinCl K CLn) (B : Blt mg) (F : Fun K "trains" "Line.trains" s_Line_trains f fd) (Ci : ∃ fI fdI, Mk K CT fI ∧ FnOk P w K mg base (L2.CX P w) 3 fI fdI ["self", "way", "length"] (spTInit K CT A_BadWay A_BadLength) ∧ KBn K fdI ["self", "way", "length"] 2 ["length"] gT (fun vs zs => vs ++ zs) ∧ mg "Train" = some (.ref CT)) : FnOk P w K mg base CX0 5 f fd ["self"] (spTrsL K C CT CLn) := by
  obtain ⟨fI, fdI, M_Train, G_tinit, b_tinit, m_Train⟩ := Ci
  have m_list := B.list
  have m_range := B.range
  refine F.ok sc_Line_trains (fun vs H Q E h => ?_) (fun cdv A outer s H vs Q E hr h => ?_)
  · obtain ⟨G, x, p, _, rfl, _⟩ := h
    rfl
  · obtain ⟨G, x, p, hG, rfl, hP, he, k⟩ := h
    refine ⟨_, (pss_cons (ps_set (i := 1) sc_Line_trains.nd rfl (by first | exact Or.inl rfl | exact Or.inr rfl) (pe_listRg (by rfl) (by rfl) m_list (prg_1 (by rfl) m_range (pe_fld (pe_fld (pv 0) rfl) rfl))))
 (pss_cons (ps_setLc (i := 2) (own := [("length", 3)]) (g := (gName 3)) (tt := tYes) rfl sc_Line_trains.nd rfl rfl (sw_true rfl rfl rfl (by decide +kernel)) (pi_list (pe_fld (pv 0) rfl)) (blkOk_by (N := ["self", "blocks", "eastward", "length"]) (sc := defScope s_Line_trains) (by decide +kernel)) (fun _ _ _ _ _ => pg_name (i := 3) sc_Line_trains.nd rfl (Or.inl rfl)) (fun _ _ _ _ _ => pts_nil) (fun _ _ _ _ _ => (pe_makeK M_Train G_tinit (hr.mono (by decide)) rfl m_Train b_tinit passL (pa_cons (pv 1) pa_nil) (pk_cons (pv 3) pk_nil))))
 (pss_one (ps_ret (pe_op op_cat (pv 2) (pe_lc (own := [("length", 3)]) (g := (gName 3)) (tt := tYes) (te := (tMakeK CT 1 (["length"] : List Str).length (spTInit K CT A_BadWay A_BadLength) (fun vs zs => vs ++ zs) E0 (tCons (tRevL K (tVar 1)) tNil) (tCons (tVar 3) tNil))) rfl sc_Line_trains.nd (pi_list (pe_fld (pv 0) rfl)) (blkOk_by (N := ["self", "blocks", "eastward", "length"]) (sc := defScope s_Line_trains) (by decide +kernel)) (fun _ _ _ _ _ => pg_name (i := 3) sc_Line_trains.nd rfl (Or.inl rfl)) (fun _ _ _ _ _ => pts_nil) (fun _ _ _ _ _ => (pe_makeK M_Train G_tinit (hr.mono (by decide)) rfl m_Train b_tinit passL (pa_cons (pe_revL (pv 1)) pa_nil) (pk_cons (pv 3) pk_nil))))))))), ?_⟩
    obtain ⟨q1, q2, q3, q4, q5, hall⟩ := Ln.ok_shape he
    have llen : p.lens.length = 2 * p.ss.length + 1 := Ln.lensN_len (by omega) (Nat.le_refl _) q3
    obtain ⟨l, r, ea, we, hL, hr', hea, hwe, fl⟩ := hP.parts TL
    have hE : ∀ z ∈ p.es, 1 ≤ z := fun z m => hall z (by unfold Ln.all; simp [m])
    have hW : ∀ z ∈ p.ws, 1 ≤ z := fun z m => hall z (by unfold Ln.all; simp [m])
    have rl : (rgI (2 * p.ss.length + 1)).length = 2 * p.ss.length + 1 := by unfold rgI; rw [List.length_map, List.length_range]
    refine st_asg (P := LS K ((rgI (2 * p.ss.length + 1)).map PyData.int)) hG (el_rg (n := 2 * p.ss.length + 1) ((ex_lsize T hL.1 (fl (.refl G) (ex_var rfl)).1).imp fun v _ _ pv => by rw [show v = _ from pv, llen]; rfl) (by omega)) fun v1 G1 H1 g1 p1 => ?_
    obtain ⟨b, bxs, rfl, b1, b2⟩ := p1
    rw [dpa_ints_eq b2] at b1
    have sb : SqL K G1 b ((rgI (2 * p.ss.length + 1)).map V.int) := Evl.sq_of b1
    dsimp only
    refine st_asg (P := TrL K CT G1 (p.es.map fun z => ⟨rgI (2 * p.ss.length + 1), z⟩)) g1.ok (el_trn (a := ea) (ns := p.es) (way := rgI (2 * p.ss.length + 1)) (fl g1.up (ex_var rfl)).2.2.1 (Evl.sq_of (g1.up _ _ hea)) (by omega) (fun _ => rfl) fun z G' e hz => (ef_trainK (way := rgI (2 * p.ss.length + 1)) (len := z) (ea_x (ex_var (v := .ref b) rfl) ea_nil |>.imp fun vs G2 e2 ev => ⟨b, ev, Evl.ex_l (e.trans e2) sb⟩) (fun G2 e2 => ea_x (ex_var rfl) ea_nil) (by omega) (fun h => by rw [h] at rl; simp at rl) (hE z hz)).imp fun v G2 _ ⟨y, ev, hy⟩ => ⟨y, ev, hy.at_⟩) fun v2 G2 H2 g2 p2 => ?_
    have g02 := g1.trans g2
    have sb2 := Evl.ex_l g2.up sb
    dsimp only
    refine st_ret (P := TrL K CT G2 p.trains) g2.ok (lt_cat (Ga := G1) (Gb := G2) (EF.imp (ex_var rfl) fun v G' e pv => by rw [show v = _ from pv]; exact mo_TrL _ _ _ e p2) (el_trn (a := we) (ns := p.ws) (way := (rgI (2 * p.ss.length + 1)).reverse) (fl g02.up (ex_var rfl)).2.2.2 (Evl.sq_of (g02.up _ _ hwe)) (by omega) (fun _ => rfl) fun z G' e hz => (ef_trainK (way := (rgI (2 * p.ss.length + 1)).reverse) (len := z) ((ea_one (ef_revL (a := b) (ex_var rfl) (Evl.ex_l e sb2))).imp fun vs G2 e2 ⟨y, ev, q, hy, _, hq⟩ => ⟨q, by rw [ev, hy], Evl.sq_of (by rw [hq, List.map_reverse])⟩) (fun G2 e2 => ea_x (ex_var rfl) ea_nil) (by rw [List.length_reverse]; omega) (fun h => by have := congrArg List.length h; rw [List.length_reverse, rl] at this; simp at this) (hW z hz)).imp fun v G2 _ ⟨y, ev, hy⟩ => ⟨y, ev, hy.at_⟩) (by rw [List.length_map, List.length_map]; omega)) fun v G' H' g pv => k v G' H' (g02.trans g) (pv.low g02.up)
theorem ok_mtL (TL : LinCl K CLn) (B : Blt mg) (F : Fun K "can_meet" "Line.can_meet" s_Line_can_meet f fd) : FnOk P w K mg base CX0 1 f fd ["self", "east", "west", "yard"] (spMtL K C CLn) := by
  have m_min := B.min
  refine F.ok sc_Line_can_meet (fun vs H Q E h => ?_) (fun cdv A outer s H vs Q E hr h => ?_)
  · obtain ⟨G, x, p, i, j, m, _, rfl, _⟩ := h
    rfl
  · obtain ⟨G, x, p, i, j, m, hG, rfl, hP, hi, hj, hm, k⟩ := h
    refine ⟨_, (pss_cons (ps_if (pt_cmpR op_in_seq (pv 3) (pe_tup (pa_cons pe_int (pa_cons (pe_fld (pv 0) rfl) pa_nil))) (by rfl))
 (pss_one (ps_ret pe_bl)) pss_nil)
 (pss_one (ps_ret (pe_cmpR op_le (pe_callB (call_min2 rfl) (by rfl) m_min (by decide +kernel) (pa_cons (pe_ix ix_list (pe_fld (pv 0) rfl) (pv 1) (fun _ _ => rfl)) (pa_cons (pe_ix ix_list (pe_fld (pv 0) rfl) (pv 2) (fun _ _ => rfl)) pa_nil))) (pe_ix ix_list (pe_fld (pv 0) rfl) (pv 3) (fun _ _ => rfl)) (nomark _))))), ?_⟩
    obtain ⟨l, r, ea, we, hL, hr', hea, hwe, fl⟩ := hP.parts TL
    refine st_if (p := (· = decide (m = 0 ∨ m = p.ss.length))) hG (et_test (EF.bl (ex_inP2 (z := (m : Int)) (ex_var rfl) ex_c (ex_lnS TL hP (ex_var rfl))) (decide_eq_decide.mpr (by omega)))) (fun h H1 e1 => ?_) (fun h H1 e1 => ?_)
    · have hb := of_decide_eq_true h.symm
      refine st_ret (P := XV (.bl true)) (hG.trans e1) ex_c fun v G' H' g pv => k v G' H' ((Gr.same hG e1).trans g) ?_
      rw [show v = _ from pv]
      unfold Ln.meet
      rw [decide_eq_true (by omega)]
      rfl
    · have hb := of_decide_eq_false h.symm
      obtain ⟨zi, hzi⟩ : ∃ z, p.es[i]? = some z := ⟨_, List.getElem?_eq_getElem hi⟩
      obtain ⟨zj, hzj⟩ : ∃ z, p.ws[j]? = some z := ⟨_, List.getElem?_eq_getElem hj⟩
      obtain ⟨zm, hzm⟩ : ∃ z, p.ys[m]? = some z := ⟨_, List.getElem?_eq_getElem hm⟩
      have emeet : p.meet i j m = decide (min zi zj ≤ zm) := by
        unfold Ln.meet
        rw [List.getD_eq_getElem?_getD, List.getD_eq_getElem?_getD, List.getD_eq_getElem?_getD, hzi, hzj, hzm]
        refine decide_eq_decide.mpr ⟨fun z => ?_, fun z => .inr (.inr z)⟩
        rcases z with z | z | z
        · exact absurd (.inl z) hb
        · exact absurd (.inr z) hb
        · exact z
      dsimp only [tNext]
      refine st_ret (P := XV (.bl (p.meet i j m))) (hG.trans e1) (EF.imp (ec_int (f := fun i j => decide (i ≤ j)) (p := (· = min zi zj)) (q := (· = zm)) (s := (· = decide (min zi zj ≤ zm))) (ei_min (p := (· = zi)) (q := (· = zj)) (EF.iv (ex_ixL (i := i) (fl (.refl G) (ex_var rfl)).2.2.1 (ex_var rfl) rfl (Evl.sq_of hea) (by rw [List.getElem?_map, hzi]; rfl))) (EF.iv (ex_ixL (i := j) (fl (.refl G) (ex_var rfl)).2.2.2 (ex_var rfl) rfl (Evl.sq_of hwe) (by rw [List.getElem?_map, hzj]; rfl))) fun a b ha hb => by rw [ha, hb]; split <;> omega) (EF.iv (ex_ixL (i := m) (fl (.refl G) (ex_var rfl)).2.1 (ex_var rfl) rfl (Evl.sq_of hr') (by rw [List.getElem?_map, hzm]; rfl))) fun a b ha hb => by rw [ha, hb]) fun v G' _ ⟨b, ev, hb⟩ => by rw [ev, hb, emeet]; rfl) fun v G' H' g pv => k v G' H' ((Gr.same hG e1).trans g) pv
end
end Kx
set_option Elab.async false
set_option linter.all false
set_option maxRecDepth 100000
set_option maxHeartbeats 16000000
/-! rows of a table -/
namespace Kx
open PySem L2 Lw
open Evl (Ex)
theorem sc__top_row : FnScope ["line"] ["line"] (defScope s__top_row) := ⟨rfl, rfl, rfl, by decide +kernel, rfl, by decide +kernel, by decide +kernel⟩
theorem sc__may_follow : FnScope ["above", "row", "upper", "lower"] ["above", "row"] (defScope s__may_follow) := ⟨rfl, rfl, rfl, by decide +kernel, rfl, by decide +kernel, by decide +kernel⟩
theorem sc__rows : FnScope ["line", "east", "rows", "west", "yards", "yard", "row"] ["line", "east"] (defScope s__rows) := ⟨rfl, rfl, rfl, by decide +kernel, rfl, by decide +kernel, by decide +kernel⟩
theorem ex_all {K : PySem.W.Frag} {σ : L2.St} {G : Hp} {ta : TE} {bs : List Bool} (h : EF ta σ G (DV K (.list (bs.map PyData.bool)))) : EF (tCB (rAll K) (tCons ta tNil)) σ G (XV (.bl (bs.all id))) := fun H e Q k => h H e _ fun v G1 H1 g1 d => by
  obtain ⟨a, xs, rfl, h1, h2⟩ := dp_lst d
  rw [dpa_bools_eq h2] at h1
  exact ⟨a, bs, rfl, Evl.ex_l g1.ok h1, k _ G1 H1 g1 rfl⟩
section
variable {P : Program} {w : World} {K : PySem.W.Frag} {mg : Str → Option Value} {base : Heap} {C CT CLn : Addr} {f : Addr} {fd : FuncData}
theorem ok_topR (TL : LinCl K CLn) (F : Fun K "_top_row" "_top_row" s__top_row f fd) : FnOk P w K mg base CX0 1 f fd ["line"] (spTopR K C CLn) := by
  refine F.ok sc__top_row (fun vs H Q E h => ?_) (fun cdv A outer s H vs Q E hr h => ?_)
  · obtain ⟨G, x, p, _, rfl, _⟩ := h
    rfl
  · obtain ⟨G, x, p, hG, rfl, hP, he, k⟩ := h
    refine ⟨_, (pss_one (ps_ret (pe_op op_repTA (pe_tup (pa_cons (pe_fld (pv 0) rfl) pa_nil)) (pe_fld (pv 0) rfl)))), ?_⟩
    obtain ⟨q1, q2, q3, q4, q5, hall⟩ := Ln.ok_shape he
    refine st_ret (P := RowV p.topM) hG ((ef_repT (K := K) (ex_lnS TL hP (ex_var (v := .ref x) rfl)) (ex_lnW TL hP (ex_var (v := .ref x) rfl)) (by omega)).imp fun v G' _ ⟨q, ev, hq⟩ => ⟨q, ev, by rw [hq]; unfold Ln.topM; rw [List.map_replicate]; rfl⟩) fun v G' H' g pv => k v G' H' g pv
theorem ok_mayF (B : Blt mg) (m_all : mg "all" = none) (m_zip : mg "zip" = none) (F : Fun K "_may_follow" "_may_follow" s__may_follow f fd) : FnOk P w K mg base CX0 1 f fd ["above", "row"] (spMayF K) := by
  refine F.ok sc__may_follow (fun vs H Q E h => ?_) (fun cdv A outer s H vs Q E hr h => ?_)
  · obtain ⟨G, a, b, u, l, _, rfl, _⟩ := h
    rfl
  · obtain ⟨G, a, b, u, l, hG, rfl, ha, hb, hl, k⟩ := h
    refine ⟨_, (pss_one (ps_ret (pe_callB (cr_all rfl) (by rfl) m_all (by decide +kernel) (pa_cons (pe_lc (own := [("upper", 2), ("lower", 3)]) (g := (gTup K 2 (gCons (gName 2) (gCons (gName 3) gNil)))) (tt := tYes) rfl sc__may_follow.nd (RZ.pi_zipA (by rfl) m_zip (pa_cons (pv 0) (pa_cons (pv 1) pa_nil))) (blkOk_by (N := ["above", "row", "upper", "lower"]) (sc := defScope s__may_follow) (by decide +kernel)) (fun _ _ _ _ _ => (pg_tup rfl (pgs_cons (pg_name (i := 2) sc__may_follow.nd rfl (Or.inl rfl)) (pgs_cons (pg_name (i := 3) sc__may_follow.nd rfl (Or.inl rfl)) pgs_nil)))) (fun _ _ _ _ _ => pts_nil) (fun _ _ _ _ _ => (pe_cmpR op_le (pv 3) (pv 2) (nomark _)))) pa_nil)))), ?_⟩
    refine st_ret (P := XV (.bl (mayN u l))) hG ((ex_all (bs := (List.range (min u.length l.length)).map fun m => decide (l.getD m 0 ≤ u.getD m 0)) ((el_mapZT (xs := u.map nV) (ys := l.map nV) (n := min u.length l.length) (g := fun m => PyData.bool (decide (l.getD m 0 ≤ u.getD m 0))) (by rw [List.length_map, List.length_map]) ((ea_x (ex_var (v := .ref a) rfl) (ea_x (ex_var (v := .ref b) rfl) ea_nil)).imp fun vs G' e ev => ⟨a, b, ev, Evl.st_of (e _ _ ha), Evl.st_of (e _ _ hb)⟩) (by omega) (fun _ _ => rfl) fun m x y G' e hm hx hy => ?_).ls_dv.imp fun v _ _ pv => by rw [List.map_map]; exact pv)).imp fun v _ _ pv => by rw [show v = _ from pv, mayN_eq]; rfl) fun v G' H' g pv => k v G' H' g pv
    have h1 : m < u.length := by omega
    have h2 : m < l.length := by omega
    rw [List.getElem?_map, List.getElem?_eq_getElem h1] at hx
    rw [List.getElem?_map, List.getElem?_eq_getElem h2] at hy
    cases hx
    cases hy
    refine (ex_bI (f := fun i j => decide (i ≤ j)) (ex_var (v := .int (l[m] : Int)) rfl) (ex_var (v := .int (u[m] : Int)) rfl)).imp fun v _ _ pv => ?_
    rw [show v = _ from pv]
    have : decide ((l[m] : Int) ≤ (u[m] : Int)) = decide (l.getD m 0 ≤ u.getD m 0) := by
      rw [List.getD_eq_getElem?_getD, List.getD_eq_getElem?_getD, List.getElem?_eq_getElem h1, List.getElem?_eq_getElem h2]
      exact decide_eq_decide.mpr (by show _ ↔ l[m] ≤ u[m]; omega)
    rw [this]
    exact .bl _
theorem ok_rowsC (TL : LinCl K CLn) (B : Blt mg) (m_max : mg "max" = none) (F : Fun K "_rows" "_rows" s__rows f fd) (Cm : CalM P w K mg base CLn "can_meet" 1 ["self", "east", "west", "yard"] (spMtL K C CLn)) : FnOk P w K mg base CX0 2 f fd ["line", "east"] (spRowsC K C CLn) := by
  obtain ⟨f2, fd2, G_can_meet, M_can_meet, b_can_meet⟩ := Cm
  have cLn := TL.cl
  have m_range := B.range
  refine F.ok sc__rows (fun vs H Q E h => ?_) (fun cdv A outer s H vs Q E hr h => ?_)
  · obtain ⟨G, x, p, e, _, rfl, _⟩ := h
    rfl
  · obtain ⟨G, x, p, ei, hG, rfl, hP, he, hi, k⟩ := h
    refine ⟨_, (pss_cons (ps_set (i := 2) sc__rows.nd rfl (by first | exact Or.inl rfl | exact Or.inr rfl) (pe_lst (pa_cons (pe_tup pa_nil) pa_nil)))
 (pss_cons (ps_for PassesOwn.never rfl (pi_range1 rfl m_range (pa_cons (pe_fld (pv 0) rfl) pa_nil)) (pg_name (i := 3) sc__rows.nd rfl (by first | exact Or.inl rfl | exact Or.inr rfl))
 (pss_cons (ps_set (i := 4) sc__rows.nd rfl (by first | exact Or.inl rfl | exact Or.inr rfl) (pe_lc (own := [("yard", 5)]) (g := (gName 5)) (tt := (tB (tMeth CLn "can_meet" (spMtL K C CLn) [] E0 (tVar 0) (tCons (tVar 1) (tCons (tVar 3) (tCons (tVar 5) tNil)))))) rfl sc__rows.nd (pi_range1 rfl m_range (pa_cons (pe_op op_add (pe_fld (pv 0) rfl) pe_int) pa_nil)) (blkOk_by (N := ["line", "east", "rows", "west", "yards", "yard", "row"]) (sc := defScope s__rows) (by decide +kernel)) (fun _ _ _ _ _ => pg_name (i := 5) sc__rows.nd rfl (Or.inl rfl)) (fun _ _ _ _ _ => pts_one (pt_val (pe_meth (pv 0) cLn M_can_meet G_can_meet (hr.mono (by decide)) b_can_meet .nil pass0 (pa_cons (pv 1) (pa_cons (pv 3) (pa_cons (pv 5) pa_nil)))))) (fun _ _ _ _ _ => (pv 5))))
 (pss_one (ps_setLc2 (i := 2) (own := [("row", 6), ("yard", 5)]) (vs1 := [5]) (g := (gName 6)) (g1 := gName 5) (tt := tYes) (tt1 := (tTest (tOp (rI0 fun i j => .bl (decide (i ≥ j))) (tVar 5) (tCKw (rMaxT K) (tCons (tVar 6) tNil) (tCons (tC (.int 0)) tNil))))) (wi1 := (iList K (tVar 4))) (te := (tTup (StX.tStar K (tVar 6) (tCons (tVar 5) tNil)))) rfl sc__rows.nd rfl rfl (sw_true rfl rfl rfl (by decide +kernel)) (pi_list (pv 2)) (blkOk_by (N := ["line", "east", "rows", "west", "yards", "yard", "row"]) (sc := defScope s__rows) (by decide +kernel)) (by decide) (fun _ _ _ _ _ => pg_name (i := 6) sc__rows.nd rfl (Or.inl rfl)) (fun _ _ _ _ _ => pts_nil) (fun _ _ _ _ _ => (pi_list (pv 4))) (fun _ _ _ _ _ => pg_name (i := 5) sc__rows.nd rfl (Or.inl rfl)) (fun _ _ _ _ _ => pts_one (pt_cmpR op_ge (pv 5) (pe_callBK (cr_maxT rfl (hu1 hr)) (by rfl) m_max (by decide +kernel) (pa_cons (pv 6) pa_nil) (pk_cons pe_int pk_nil)) (nomark _))) (fun _ _ _ _ _ => (pe_tup (StX.pa_star (pv 6) (pa_cons (pv 5) pa_nil))))))))
 (pss_one (ps_ret (pv 2))))), ?_⟩
    obtain ⟨q1, q2, q3, q4, q5, hall⟩ := Ln.ok_shape he
    refine st_asg (P := RowsV [[]]) hG (ef_lst (ea_one (ef_tup (P := RowV []) (R := fun vs _ => vs = []) ea_nil (fun vs _ ev => by rw [ev]; decide) fun q vs G' _ _ _ ev => ⟨q, rfl, by rw [upd_same, ev]; rfl⟩)) (fun vs G' ⟨y, ev, _⟩ => by rw [ev]; simp) fun q vs G' e _ q1 ⟨y, ev, r, ey, hr⟩ => ⟨q, [.ref r], rfl, by rw [upd_same, ev, ey], TupL.nil.snoc (ex_in q1 _ _ hr)⟩) fun v2 G2 H2 g2 p2 => ?_
    dsimp only
    refine st_forR1 (G := G2) (n := (p.ws.length : Int)) g2.ok (ea_x (ex_lnW TL (hP.ex g2.up) (ex_var (v := .ref x) rfl)) ea_nil) (by omega) (by omega) (fun m σ' H' => ∃ G' v3 v5 v2' v6 v7, Gr G2 G' H2 H' ∧ RowsV (rowsN (p.yds ei) m) v2' G' ∧ σ' = [some (.ref x), some (.int (ei : Int)), some v2', v3, v5, v6, v7]) (fun H' e => ⟨G2, _, _, v2, _, _, .same g2.ok e, p2, rfl⟩) (fun m σ' H' hm hw => ?_) (fun σ' H' hw => ?_)
    · obtain ⟨G', v3, v5, v2', v6, v7, g', ⟨a, xs, rfl, ha, hT⟩, rfl⟩ := hw
      have hm' : m < p.ws.length := by omega
      have hPn := hP.ex (g2.up.trans g'.up)
      dsimp only
      refine st_asg (P := fun v G' => ∃ r : Addr, v = .ref r ∧ G' r = some (.lst ((p.yds ei m).map nV))) g'.ok ((el_filRN (n := p.ss.length + 1) (p := p.meet ei m) ((ea_x (ex_add (ex_lnS TL hPn (ex_var (v := .ref x) rfl)) (ex_c (v := .int 1))) ea_nil).imp fun vs _ _ ev => by rw [ev]; rfl) (by omega) (fun _ => rfl) (fun _ => rfl) fun i G3 e3 hi3 => et_B (EF.bl (ef_meth (ex_var (v := .ref x) rfl) ((hPn.ex e3).meth ⟨by decide, by decide, by decide, by decide, by decide, by decide, by decide⟩) (ea_x (ex_var (v := .int (ei : Int)) rfl) (ea_x (ex_var (v := .int (m : Int)) rfl) (ea_x (ex_var (v := .int (i : Int)) rfl) ea_nil))) fun vs G4 e4 ev => by rw [ev]; exact sa_mtL ((hPn.ex e3).ex e4) hi hm' (by omega)) rfl)).imp fun v _ _ ⟨r, h1, _, h2⟩ => ⟨r, h1, h2⟩) fun v4 G4 H4 g4 p4 => ?_
      obtain ⟨b, rfl, hb⟩ := p4
      have hT4 := hT.ex g4.up
      have ha4 := g4.up _ _ ha
      have hrl : (rowsN (p.yds ei) m).length ≤ 2401 := rowsM_len q2 (by omega)
      have hyl : (p.yds ei m).length ≤ 7 := Nat.le_trans yds_len (by omega)
      dsimp only
      refine st_asg (P := RowsV (rowsN (p.yds ei) (m + 1))) g4.ok (ef_lc2E (K := K) (j := 6) (j1 := 5) (vs := [6, 5]) (vs1 := [5]) xs (fun _ => (p.yds ei m).map nV) (fun i kk acc G' => TupL G' acc (((rowsN (p.yds ei) m).take i).flatMap (nxR (p.yds ei m)) ++ partR (rowsN (p.yds ei) m) (p.yds ei m) i kk)) (EF.imp (ex_var (v := .ref a) rfl) fun v G' e pv => ⟨a, pv, Evl.sq_of (e _ _ ha4)⟩) (fun _ => rfl) (fun _ _ => rfl) (fun G' e => ?_) (fun i acc G' hi hI => ?_) (fun i z G' e hz => (EF.imp (ex_var (v := .ref b) rfl) fun v G'' e' pv => ⟨b, pv, Evl.sq_of (e' _ _ (e _ _ hb))⟩)) (fun i kk acc G' G'' e hI => hI.ex e) (fun i kk z y acc G' e hz hy hI => ?_) (fun i kk acc G' hI => ?_) fun q acc G' _ q1 e hI => ⟨q, acc, rfl, upd_same, ?_⟩) fun v6' G6 H6 g6 p6 => ⟨G6, _, _, v6', _, _, g'.trans (g4.trans g6), p6, rfl⟩
      · rw [partR_0]
        exact TupL.nil
      · rw [List.length_map] at hI
        rw [← partR_all (by rw [← hT.1]; exact hi)]
        exact hI
      · have hir : i < (rowsN (p.yds ei) m).length := by rw [← hT.1]; exact (List.getElem?_eq_some_iff.mp hz).1
        obtain ⟨r, hr⟩ : ∃ r, (rowsN (p.yds ei) m)[i]? = some r := ⟨_, List.getElem?_eq_getElem hir⟩
        obtain ⟨q, rfl, hq⟩ := hT4.2 i z r hz hr
        rw [List.getElem?_map] at hy
        obtain ⟨yn, hyn, rfl⟩ := Option.map_eq_some_iff.mp hy
        have hq' := e _ _ hq
        rw [partR_s hr hyn]
        refine ec_if (p := (· = decide (mxN r ≤ yn))) (et_test (EF.bl (ex_bI (f := fun i j => decide (i ≥ j)) (ex_var (v := .int (yn : Int)) rfl) (ex_maxT (ex_var (v := .ref q) rfl) hq' (ex_c (v := .int 0)))) (decide_eq_decide.mpr (by omega)))) (fun hb1 => ?_) (fun hb1 => ?_)
        · have hle := of_decide_eq_true hb1.symm
          rw [if_pos hle]
          refine ef_tup (ea_starT (ex_var (v := .ref q) rfl) hq' (ea_x (ex_var (v := .int (yn : Int)) rfl) ea_nil)) (fun vs G5 ⟨ws, ev, e2⟩ => ?_) fun qn vs G5 e5 _ q5 ⟨ws, ev, e2⟩ => ?_
          · rw [ev, e2, List.length_append, List.length_map, rowsN_wid (List.mem_of_getElem? hr)]
            simp
            omega
          · rw [← List.append_assoc]
            refine (hI.ex (e5.trans (ex_in q5))).snoc ?_
            rw [upd_same, ev, e2, List.map_append]
            rfl
        · have hle := of_decide_eq_false hb1.symm
          rw [if_neg hle, List.append_nil]
          exact hI
      · rw [hI.1, List.length_append]
        have h1 := flatMap_len (nxR (p.yds ei m)) 7 ((rowsN (p.yds ei) m).take i) fun r _ => Nat.le_trans nxR_len hyl
        have h2 : ((rowsN (p.yds ei) m).take i).length ≤ 2401 := by rw [List.length_take]; omega
        have h3 := Nat.le_trans (partR_len (rows := rowsN (p.yds ei) m) (yd := p.yds ei m) (i := i) (k := kk)) hyl
        have h4 := Nat.mul_le_mul_right 7 h2
        omega
      · rw [hT.1, List.take_length, partR_0, List.append_nil] at hI
        exact hI.ex (ex_in q1)
    · obtain ⟨G', v3, v5, v2', v6, v7, g', hR, rfl⟩ := hw
      rw [Int.toNat_natCast] at hR
      exact st_ret (P := RowsV (p.rowsM ei)) g'.ok (EF.imp (ex_var (v := v2') rfl) fun v G6 e pv => by rw [show v = _ from pv]; obtain ⟨a, xs, h1, h2, h3⟩ := hR; exact ⟨a, xs, h1, e _ _ h2, h3.ex e⟩) fun v G6 H6 g pv => k v G6 H6 (g2.trans (g'.trans g)) pv
end
end Kx
set_option Elab.async false
set_option linter.all false
set_option maxRecDepth 100000
set_option maxHeartbeats 16000000
/-! tables counted -/
namespace Kx
open PySem L2 Lw
open Evl (Ex)
theorem sc_count_tables : FnScope ["line", "counts", "east", "found", "row", "above"] ["line"] (defScope s_count_tables) := ⟨rfl, rfl, rfl, by decide +kernel, rfl, by decide +kernel, by decide +kernel⟩
section
variable {P : Program} {w : World} {K : PySem.W.Frag} {mg : Str → Option Value} {base : Heap} {C CT CLn : Addr} {f : Addr} {fd : FuncData}
theorem ok_count (TL : LinCl K CLn) (B : Blt mg) (m_sum : mg "sum" = none) (F : Fun K "count_tables" "count_tables" s_count_tables f fd) (Ct : Cal P w K mg base "_top_row" 1 ["line"] (spTopR K C CLn)) (Cf : Cal P w K mg base "_may_follow" 1 ["above", "row"] (spMayF K)) (Cr : Cal P w K mg base "_rows" 2 ["line", "east"] (spRowsC K C CLn)) : FnOk P w K mg base CX0 3 f fd ["line"] (spCount K C CLn) := by
  obtain ⟨f1, fd1, G__top_row, m__top_row, k__top_row, b__top_row⟩ := Ct
  obtain ⟨f2, fd2, G__may_follow, m__may_follow, k__may_follow, b__may_follow⟩ := Cf
  obtain ⟨f3, fd3, G__rows, m__rows, k__rows, b__rows⟩ := Cr
  have m_range := B.range
  have m_list := B.list
  refine F.ok sc_count_tables (fun vs H Q E h => ?_) (fun cdv A outer s H vs Q E hr h => ?_)
  · obtain ⟨G, x, p, _, rfl, _⟩ := h
    rfl
  · obtain ⟨G, x, p, hG, rfl, hP, he, k⟩ := h
    refine ⟨_, (pss_cons (ps_set (i := 1) sc_count_tables.nd rfl (by first | exact Or.inl rfl | exact Or.inr rfl) (pe_dispT (hu1 hr) (pe_call G__top_row (hr.mono (by decide)) rfl m__top_row k__top_row b__top_row .nil pass0 (pa_cons (pv 0) pa_nil)) pe_int))
 (pss_cons (ps_for PassesOwn.never rfl (pi_range1 rfl m_range (pa_cons (pe_fld (pv 0) rfl) pa_nil)) (pg_name (i := 2) sc_count_tables.nd rfl (by first | exact Or.inl rfl | exact Or.inr rfl))
 (pss_cons (ps_set (i := 3) sc_count_tables.nd rfl (by first | exact Or.inl rfl | exact Or.inr rfl) pe_dnewT)
 (pss_cons (ps_for PassesOwn.never rfl (pi_list (pe_call G__rows (hr.mono (by decide)) rfl m__rows k__rows b__rows .nil pass0 (pa_cons (pv 0) (pa_cons (pv 2) pa_nil)))) (pg_name (i := 4) sc_count_tables.nd rfl (by first | exact Or.inl rfl | exact Or.inr rfl))
 (pss_one (ps_asg (pe_callB (cr_sum rfl) (by rfl) m_sum (by decide +kernel) (pa_cons (pe_lock (pe_lc (own := [("above", 5)]) (g := (gName 5)) (tt := (tB (tCall (spMayF K) [] E0 (tCons (tVar 5) (tCons (tVar 4) tNil))))) (te := (tDGet (tVar 1) (tVar 5))) rfl sc_count_tables.nd (pi_keys (pv 1)) (blkOk_by (N := ["line", "counts", "east", "found", "row", "above"]) (sc := defScope s_count_tables) (by decide +kernel)) (fun _ _ _ _ _ => pg_name (i := 5) sc_count_tables.nd rfl (Or.inl rfl)) (fun _ _ _ _ _ => pts_one (pt_val (pe_call G__may_follow (hr.mono (by decide)) rfl m__may_follow k__may_follow b__may_follow .nil pass0 (pa_cons (pv 5) (pa_cons (pv 4) pa_nil))))) (fun _ _ _ _ _ => (pe_dget (hu1 hr) (pv 1) (pv 5) (fun _ _ => rfl))))) pa_nil)) (pg_sub (pv 3) (pv 4) (set_dict (hu1 hr))))))
 (pss_one (ps_set (i := 1) sc_count_tables.nd rfl (by first | exact Or.inl rfl | exact Or.inr rfl) (pv 3))))))
 (pss_one (ps_ret (pe_callB (cr_sum rfl) (by rfl) m_sum (by decide +kernel) (pa_cons (pe_listVT rfl (by rfl) m_list (pv 1)) pa_nil)))))), ?_⟩
    obtain ⟨q1, q2, q3, q4, q5, hall⟩ := Ln.ok_shape he
    have hPH := hP.ex hG
    refine st_asg (G := H) (P := fun v G' => ∃ q : Addr, v = .ref q ∧ H q = none ∧ G' q = some (.dT (kvN (p.cntM 0)))) (Ex.refl _) (ef_fnewN (r := p.topM) (z := 1) (ef_call (ea_x (ex_var (v := .ref x) rfl) ea_nil) fun vs G' e ev => by rw [ev]; exact sa_topR (hPH.ex e) he) fun G' e => ex_c) fun v1 G1 H1 g1 p1 => ?_
    obtain ⟨d0, rfl, _, hd0⟩ := p1
    dsimp only
    refine st_forR1 (G := H1) (n := (p.es.length : Int)) (Ex.refl _) (ea_x (ex_lnE TL (hPH.ex g1.hp) (ex_var (v := .ref x) rfl)) ea_nil) (by omega) (by omega) (fun i σ' H' => ∃ (d : Addr) (v2 v3 v4 v5 : Option V), σ' = [some (.ref x), some (.ref d), v2, v3, v4, v5] ∧ Ex H H' ∧ H' d = some (.dT (kvN (p.cntM i)))) (fun H' e => ⟨d0, _, _, _, _, rfl, g1.hp.trans e, e _ _ (g1.ok _ _ hd0)⟩) (fun i σ' H' hi hw => ?_) (fun σ' H' hw => ?_)
    · obtain ⟨d, v2, v3, v4, v5, rfl, eH, hd⟩ := hw
      have hi' : i < p.es.length := by omega
      dsimp only
      refine st_asg (G := H') (P := fun v G' => ∃ q : Addr, v = .ref q ∧ H' q = none ∧ G' q = some (.dT (kvN []))) (Ex.refl _) ef_dnewT fun v3' G3 H3 g3 p3 => ?_
      obtain ⟨fa, rfl, fn, hf⟩ := p3
      have hf3 := g3.ok _ _ hf
      have hdf : d ≠ fa := fun z => by rw [z, fn] at hd; cases hd
      dsimp only
      refine st_forRw (G := H3) (rows := p.rowsM i) (Ex.refl _) (ef_call (ea_x (ex_var (v := .ref x) rfl) (ea_x (ex_var (v := .int (i : Int)) rfl) ea_nil)) fun vs G' e ev => by rw [ev]; exact sa_rowsC (hPH.ex (eH.trans (g3.hp.trans e))) he hi') (fun a xs j σ' H'' => ∃ v4 v5 : Option V, σ' = [some (.ref x), some (.ref d), some (.int (i : Int)), some (.ref fa), v4, v5] ∧ Ex H' H'' ∧ H'' fa = some (.dT (kvN (stepC (p.cntM i) ((p.rowsM i).take j)))) ∧ H'' a = some (.lst xs) ∧ TupL H'' xs (p.rowsM i)) (fun a xs G4 H4 g4 ha hT => ⟨_, _, rfl, g3.hp.trans g4.hp, g4.hp _ _ hf3, g4.ok _ _ ha, hT.ex g4.ok⟩) (fun a xs j σ' H'' hw => ?_) (fun a xs j z r σ' H'' hz hr hw => ?_) fun a xs σ' H'' hw => ?_
      · obtain ⟨_, _, _, _, _, h1, _⟩ := hw
        exact h1
      · obtain ⟨w4, w5, rfl, eH', hfa, ha, hT⟩ := hw
        obtain ⟨q, rfl, hq⟩ := hT.2 j z r hz hr
        have hd' := eH' _ _ hd
        have hjr : j < (p.rowsM i).length := (List.getElem?_eq_some_iff.mp hr).1
        have hwid : ∀ s ∈ p.rowsM i, s.length = p.ws.length := fun s m => rowsN_wid m
        have htk : (p.rowsM i).take (j + 1) = (p.rowsM i).take j ++ [r] := by rw [List.take_succ, hr, Option.toList_some]
        dsimp only
        refine st_fputN (d := fa) (r := r) (z := sumN (p.cntM i) r) (q := q) hfa ?_ ?_ (ex_sumK (d := d) (L := p.cntM i) hd' (fun G' => ex_var rfl) (Nat.le_trans (cntM_len q2 (by omega) i) (by omega)) (cntL_keys (fun _ => rowsM_nodup) i) (fun _ => rfl) (fun _ => rfl) (fun _ => rfl) fun od qa u G' e hu hqa => et_B (EF.bl (ef_call (ea_x (ex_var (v := .ref qa) rfl) (ea_x (ex_var (v := .ref q) rfl) ea_nil)) fun vs G5 e5 ev => by rw [ev]; exact sa_mayF (e5 _ _ hqa) (e5 _ _ (e _ _ (by rw [upd_ne (fun z => by rw [z, hd'] at hq; cases hq)]; exact hq))) (by rw [hwid r (List.mem_of_getElem? hr)]; omega)) rfl)) rfl rfl hq fun H5 e5 => ⟨_, _, rfl, ?_, ?_, ?_, ?_⟩
        · intro hm
          unfold stepC at hm
          rw [List.map_map] at hm
          obtain ⟨s, hs, es⟩ := List.mem_map.mp hm
          have es : s = r := es
          subst es
          have nd := rowsM_nodup (p := p) (e := i)
          obtain ⟨m, hm1, hm2⟩ := List.mem_iff_getElem.mp hs
          rw [List.length_take] at hm1
          rw [List.getElem_take] at hm2
          have hr2 := (List.getElem?_eq_some_iff.mp hr).2
          exact List.pairwise_iff_getElem.mp nd m j (by omega) hjr (by omega) (hm2.trans hr2.symm)
        · unfold stepC
          rw [List.length_map, List.length_take]
          have := rowsM_len (p := p) (e := i) (w := p.ws.length) q2 (by omega)
          unfold Ln.rowsM
          omega
        · exact ex_off (eH'.trans e5) fn
        · rw [upd_same, htk]
          unfold stepC
          rw [List.map_append]
          rfl
        · rw [upd_ne (fun z => by rw [z, hfa] at ha; cases ha)]
          exact e5 _ _ ha
        · refine ⟨hT.1, fun m y s a1 a2 => ?_⟩
          obtain ⟨b, eb, hb⟩ := hT.2 m y s a1 a2
          exact ⟨b, eb, by rw [upd_ne (fun z => by rw [z, hfa] at hb; cases hb)]; exact e5 _ _ hb⟩
      · obtain ⟨w4, w5, rfl, eH', hfa, ha, hT⟩ := hw
        rw [List.take_length] at hfa
        dsimp only
        refine st_asg (G := H'') (P := XV (.ref fa)) (Ex.refl _) (ex_var rfl) fun v6 G6 H6 g6 p6 => ?_
        cases (show v6 = _ from p6)
        exact ⟨fa, _, _, _, _, rfl, eH.trans (eH'.trans g6.hp), g6.hp _ _ hfa⟩
    · obtain ⟨d, v2, v3, v4, v5, rfl, eH, hd⟩ := hw
      rw [Int.toNat_natCast] at hd
      refine st_ret (G := H') (P := XV (.int (p.count : Int))) (Ex.refl _) ((ex_sumL (ef_valsL (L := p.cntM p.es.length) hd (ex_var rfl))).imp fun v _ _ pv => ?_) fun v G6 H6 g pv => k v G H6 (.same hG (eH.trans g.hp)) pv
      rw [show v = _ from pv]
      show V.int _ = V.int _
      unfold Ln.count
      rw [← sum_cast, List.map_map]
      rfl
end
end Kx
set_option Elab.async false
set_option linter.all false
set_option maxRecDepth 100000
set_option maxHeartbeats 16000000
/-! all tables -/
namespace Kx
open PySem L2 Lw
open Evl (Ex)
theorem sc_TooMany_init : FnScope ["self", "number", "limit"] ["self", "number", "limit"] (defScope s_TooMany_init) := ⟨rfl, rfl, rfl, by decide +kernel, rfl, by decide +kernel, by decide +kernel⟩
theorem sc_all_tables : FnScope ["line", "number", "tables", "east", "rows", "table", "row"] ["line"] (defScope s_all_tables) := ⟨rfl, rfl, rfl, by decide +kernel, rfl, by decide +kernel, by decide +kernel⟩
section
variable {P : Program} {w : World} {K : PySem.W.Frag} {mg : Str → Option Value} {base : Heap} {C CT CP CLn A_TooMany : Addr} {f : Addr} {fd : FuncData}
theorem ok_tmy (T : OexC K C) (hn1 : PySem.W.findIn K (.ref C) "number" = some none) (hn2 : PySem.W.findIn K (.ref C) "limit" = some none) (F : Fun K "__init__" "TooMany.__init__" s_TooMany_init f fd) : FnOk P w K mg base CX0 1 f fd ["self", "number", "limit"] (spIni2 C "number" "limit") := by
  refine F.ok sc_TooMany_init (fun vs H Q E h => ?_) (fun cdv A outer s H vs Q E hr h => ?_)
  · obtain ⟨a, y1, y2, rfl, _⟩ := h
    rfl
  · obtain ⟨a, y1, y2, rfl, ha, k⟩ := h
    refine ⟨_, pss_cons (ps_ost (pv 0) (pv 1)) (pss_one (ps_ost (pv 0) (pv 2))), ?_⟩
    refine ⟨_, rfl, _, rfl, a, C, rfl, T, hn1, .inl ⟨ha, fun d hd hn => ?_⟩⟩
    refine ⟨_, rfl, _, rfl, a, C, rfl, T, hn2, .inr ⟨d, [("number", y1)], upd_same, by rw [upd_ne hn]; exact upd_same, by simp, ?_⟩⟩
    have e : upd (upd (upd H d (exd d [("number", y1)])) a (exo a C (some d))) d (exd d [("limit", y2), ("number", y1)]) = upd (upd H d (exd d [("limit", y2), ("number", y1)])) a (exo a C (some d)) := by
      funext b
      by_cases hb : b = d
      · subst hb
        rw [upd_same, upd_ne hn, upd_same]
      · rw [upd_ne hb]
        by_cases hc : b = a
        · subst hc; rw [upd_same, upd_same]
        · rw [upd_ne hc, upd_ne hb, upd_ne hc, upd_ne hb]
    show Q .non (upd (upd (upd H d (exd d [("number", y1)])) a (exo a C (some d))) d (exd d [("limit", y2), ("number", y1)]))
    rw [e]
    exact k d hd hn
theorem ok_allT {fT : Addr} {fdT : FuncData} {t_TABLE_LIMIT : PySem.Tok} (TL : LinCl K CLn) (B : Blt mg) (m_TABLE_LIMIT : mg "TABLE_LIMIT" = some (.int 200 t_TABLE_LIMIT)) (Z_TooMany : Err P w K mg base "TooMany" A_TooMany fT fdT ["self", "number", "limit"] (spIni2 A_TooMany "number" "limit")) (F : Fun K "all_tables" "all_tables" s_all_tables f fd) (Cc : Cal P w K mg base "count_tables" 3 ["line"] (spCount K C CLn)) (Ct : Cal P w K mg base "_top_row" 1 ["line"] (spTopR K C CLn)) (Cf : Cal P w K mg base "_may_follow" 1 ["above", "row"] (spMayF K)) (Cr : Cal P w K mg base "_rows" 2 ["line", "east"] (spRowsC K C CLn)) : FnOk P w K mg base (L2.CX P w) 5 f fd ["line"] (spAllT K C CLn A_TooMany) := by
  obtain ⟨f1, fd1, G__top_row, m__top_row, k__top_row, b__top_row⟩ := Ct
  obtain ⟨f2, fd2, G__may_follow, m__may_follow, k__may_follow, b__may_follow⟩ := Cf
  obtain ⟨f3, fd3, G__rows, m__rows, k__rows, b__rows⟩ := Cr
  obtain ⟨f4, fd4, G_count_tables, m_count_tables, k_count_tables, b_count_tables⟩ := Cc
  have m_range := B.range
  have m_list := B.list
  refine F.okX sc_all_tables (fun vs H Q E h => ?_) (fun cdv A outer s0 H vs Q E hr h => ?_)
  · obtain ⟨G, x, p, _, rfl, _⟩ := h
    rfl
  · obtain ⟨G, x, p, hG, rfl, hP, he, k1, k2⟩ := h
    refine ⟨_, (pss_cons (ps_set (i := 1) sc_all_tables.nd rfl (by first | exact Or.inl rfl | exact Or.inr rfl) (pe_call G_count_tables (hr.mono (by decide)) rfl m_count_tables k_count_tables b_count_tables .nil pass0 (pa_cons (pv 0) pa_nil)))
 (pss_cons (ps_if (pt_cmpR op_gt (pv 1) (pe_glob (v := .int 200) (by rfl) m_TABLE_LIMIT ⟨_, rfl⟩) (nomark _))
 (pss_one (ps_raise rfl (takes_of rfl rfl rfl rfl) (pmk_oex Z_TooMany.cls Z_TooMany.ini Z_TooMany.tI Z_TooMany.fn (hr.mono (by decide)) Z_TooMany.bnd .nil pass0 (by rfl) Z_TooMany.gl (pa_cons (pv 1) (pa_cons (pe_glob (v := .int 200) (by rfl) m_TABLE_LIMIT ⟨_, rfl⟩) pa_nil))))) pss_nil)
 (pss_cons (ps_set (i := 2) sc_all_tables.nd rfl (by first | exact Or.inl rfl | exact Or.inr rfl) (pe_lst (pa_cons (pe_lst (pa_cons (pe_call G__top_row (hr.mono (by decide)) rfl m__top_row k__top_row b__top_row .nil pass0 (pa_cons (pv 0) pa_nil)) pa_nil)) pa_nil)))
 (pss_cons (ps_for (passes_of rfl) rfl (pi_range1 rfl m_range (pa_cons (pe_fld (pv 0) rfl) pa_nil)) (pg_name (i := 3) sc_all_tables.nd rfl (by first | exact Or.inl rfl | exact Or.inr rfl))
 (pss_cons (ps_set (i := 4) sc_all_tables.nd rfl (by first | exact Or.inl rfl | exact Or.inr rfl) (pe_call G__rows (hr.mono (by decide)) rfl m__rows k__rows b__rows .nil pass0 (pa_cons (pv 0) (pa_cons (pv 3) pa_nil))))
 (pss_one (ps_setLc2 (i := 2) (own := [("table", 5), ("row", 6)]) (vs1 := [6]) (g := (gName 5)) (g1 := gName 6) (tt := tYes) (tt1 := (tB (tCall (spMayF K) [] E0 (tCons (tOp (rIxL K) (tVar 5) (tUn (rU fun i => .int (-i)) (tC (.int 1)))) (tCons (tVar 6) tNil))))) (wi1 := (iList K (tVar 4))) (te := (tLst (StX.tStar K (tVar 5) (tCons (tVar 6) tNil)))) rfl sc_all_tables.nd rfl rfl (sw_true rfl rfl rfl (by decide +kernel)) (pi_list (pv 2)) (blkOk_by (N := ["line", "number", "tables", "east", "rows", "table", "row"]) (sc := defScope s_all_tables) (by decide +kernel)) (by decide) (fun _ _ _ _ _ => pg_name (i := 5) sc_all_tables.nd rfl (Or.inl rfl)) (fun _ _ _ _ _ => pts_nil) (fun _ _ _ _ _ => (pi_list (pv 4))) (fun _ _ _ _ _ => pg_name (i := 6) sc_all_tables.nd rfl (Or.inl rfl)) (fun _ _ _ _ _ => pts_one (pt_val (pe_call G__may_follow (hr.mono (by decide)) rfl m__may_follow k__may_follow b__may_follow .nil pass0 (pa_cons (pe_ix ix_list (pv 5) (pe_un un_neg pe_int) (fun _ _ => rfl)) (pa_cons (pv 6) pa_nil))))) (fun _ _ _ _ _ => (pe_lst (StX.pa_star (pv 5) (pa_cons (pv 6) pa_nil))))))))
 (pss_one (ps_ret (pe_lc (own := [("table", 5)]) (g := (gName 5)) (tt := tYes) (te := (tLc (iList K (tSl (rSlL K) (tVar 5) (tPart (tC (.int 1))) tNoPart)) (gName 6) tYes (tCB (Evl.rListS K) (tCons (tVar 6) tNil)) [6])) rfl sc_all_tables.nd (pi_list (pv 2)) (blkOk_by (N := ["line", "number", "tables", "east", "rows", "table", "row"]) (sc := defScope s_all_tables) (by decide +kernel)) (fun _ _ _ _ _ => pg_name (i := 5) sc_all_tables.nd rfl (Or.inl rfl)) (fun _ _ _ _ _ => pts_nil) (fun _ _ _ _ _ => (pe_lc (own := [("row", 6)]) (g := (gName 6)) (tt := tYes) (te := (tCB (Evl.rListS K) (tCons (tVar 6) tNil))) rfl sc_all_tables.nd (pi_list (pe_slice sl_list (pv 5) (po_some pe_int) po_none)) (blkOk_by (N := ["line", "number", "tables", "east", "rows", "table", "row"]) (sc := { kind := .function, names := [(".0", .local), ("table", .local)], isGenerator := false, isCoroutine := false }) (by decide +kernel)) (fun _ _ _ _ _ => pg_name (i := 6) sc_all_tables.nd rfl (Or.inl rfl)) (fun _ _ _ _ _ => pts_nil) (fun _ _ _ _ _ => (pe_callTy call_list_of (by rfl) m_list (by decide +kernel) (pa_cons (pv 6) pa_nil)))))))))))), ?_⟩
    obtain ⟨q1, q2, q3, q4, q5, hall⟩ := Ln.ok_shape he
    refine st_asg (P := XV (.int (p.count : Int))) hG (ef_call (ea_x (ex_var (v := .ref x) rfl) ea_nil) fun vs G' e ev => by rw [ev]; exact sa_count (hP.ex e) he) fun v1 G1 H1 g1 p1 => ?_
    cases (show v1 = _ from p1)
    have hP1 := hP.ex g1.up
    dsimp only
    refine st_if (G := G1) (p := (· = decide ((p.count : Int) > 200))) g1.ok (et_test (EF.bl (ex_bI (f := fun i j => decide (i > j)) (ex_var (v := .int (p.count : Int)) rfl) (ex_c (v := .int 200))) rfl)) (fun hb H2 e2 => ?_) (fun hb H2 e2 => ?_)
    · have hb := of_decide_eq_true hb.symm
      exact mk_two (g1.ok.trans e2) (ex_var (v := .int (p.count : Int)) rfl) (ex_c (v := .int 200)) ((k1 (by omega)).up (g1.hp.trans e2))
    · have hb := of_decide_eq_false hb.symm
      have hc : p.count ≤ 200 := by omega
      dsimp only [tNext]
      refine st_asg (G := G1) (P := TabsV p.topM [[]]) (g1.ok.trans e2) (ef_lst (ea_one (ef_lst (P := fun v G' => ∃ (t : Addr) (ws : List V), v = .ref t ∧ G' t = some (.lst ws) ∧ TupL G' ws [p.topM]) (ea_one (ef_call (P := RowV p.topM) (ea_x (ex_var (v := .ref x) rfl) ea_nil) fun vs G' e ev => by rw [ev]; exact sa_topR (hP1.ex e) he)) (fun vs G' ⟨y, ev, _⟩ => by rw [ev]; simp) fun q vs G' _ _ q1 ⟨y, ev, r, ey, hr⟩ => ⟨q, [.ref r], rfl, by rw [upd_same, ev, ey], TupL.nil.snoc (ex_in q1 _ _ hr)⟩)) (fun vs G' ⟨y, ev, _⟩ => by rw [ev]; simp) fun q vs G' _ _ q1 ⟨y, ev, t, ws, ey, ht, hU⟩ => ⟨q, [.ref t], rfl, by rw [upd_same, ev, ey], TabL.nil.snoc (ex_in q1 _ _ ht) (hU.ex (ex_in q1))⟩) fun v2 G3 H3 g3 p3 => ?_
      have hP3 := hP1.ex g3.up
      dsimp only
      refine st_forR1 (G := G3) (n := (p.es.length : Int)) g3.ok (ea_x (ex_lnE TL hP3 (ex_var (v := .ref x) rfl)) ea_nil) (by omega) (by omega) (fun m σ' H' => ∃ G' v2' v3 v4 v5 v6, Gr G3 G' H3 H' ∧ TabsV p.topM (tblN p.topM p.rowsM m) v2' G' ∧ σ' = [some (.ref x), some (.int (p.count : Int)), some v2', v3, v4, v5, v6]) (fun H' e => ⟨G3, v2, _, _, _, _, .same g3.ok e, p3, rfl⟩) (fun m σ' H' hm hw => ?_) (fun σ' H' hw => ?_)
      · obtain ⟨G', v2', v3, v4, v5, v6, g', ⟨a, xs, rfl, ha, hT⟩, rfl⟩ := hw
        have hm' : m < p.es.length := by omega
        have hPn := hP3.ex g'.up
        dsimp only
        refine st_asg (P := RowsV (p.rowsM m)) g'.ok (ef_call (ea_x (ex_var (v := .ref x) rfl) (ea_x (ex_var (v := .int (m : Int)) rfl) ea_nil)) fun vs G4 e ev => by rw [ev]; exact sa_rowsC (hPn.ex e) he hm') fun v4' G4 H4 g4 p4 => ?_
        obtain ⟨b, ws0, rfl, hb4, hR⟩ := p4
        have hfew := tblN_few (p := p) (p.es.length - m) m (by omega)
        have hrl := rowsM_len (p := p) (e := m) (w := p.ws.length) q2 (by omega)
        have hmul : (tblN p.topM p.rowsM m).length * (p.rowsM m).length ≤ 200 * 2401 := Nat.mul_le_mul (by omega) hrl
        dsimp only
        refine st_asg (P := TabsV p.topM (tblN p.topM p.rowsM (m + 1))) g4.ok (el_nxT (K := K) (Ts := tblN p.topM p.rowsM m) (rows := p.rowsM m) (a := a) (b := b) (ex_var (v := .ref a) rfl) (g4.up _ _ ha) (hT.ex g4.up) hb4 hR (by have : (p.rowsM m).length ≤ 2401 := hrl; omega) (fun r hr => by rw [rowsN_wid hr]; omega) (fun T hT' => by rw [(tblN_ok hT').1]; omega) (fun x G5 e => ex_var rfl) (fun _ => rfl) (fun _ _ => rfl) (fun _ _ => rfl) (fun _ _ => rfl)) fun v6' G6 H6 g6 p6 => ⟨G6, v6', _, _, _, _, g'.trans (g4.trans g6), p6, rfl⟩
      · obtain ⟨G', v2', v3, v4, v5, v6, g', ⟨a, xs, rfl, ha, hT⟩, rfl⟩ := hw
        rw [Int.toNat_natCast] at hT
        have hlen := tables_len (p := p)
        have g02 := g1.trans (Gr.same g1.ok e2)
        have gall := g02.trans (g3.trans g')
        refine st_ret (P := fun v G6 => ∃ (pa : Addr) (ps : List Addr) (rss : List (List Addr)), v = .ref pa ∧ G' pa = none ∧ G6 pa = some (.lst (ps.map V.ref)) ∧ TbI G' G6 ps rss p.tables ∧ pa ∉ ps ++ rss.flatten) g'.ok (el_tabs (K := K) (Ts := p.tables) (a := a) (ex_var (v := .ref a) rfl) ha hT (by omega) (fun T hT' => by rw [(tblN_ok hT').1]; omega) (fun _ => rfl) (fun _ => rfl) (fun _ _ => rfl) (fun _ _ => rfl)) fun v G6 H6 g ⟨pa, ps, rss, ev, hn, hpa, hB, hni⟩ => k2 hc v G6 H6 (gall.trans g) ⟨pa, ps, rss, ev, none_back gall.up hn, hpa, ⟨hB.l1, hB.l2, hB.nd, fun c m => ⟨none_back gall.up (hB.nw c m).1, (hB.nw c m).2⟩, hB.at_⟩, hni⟩
end
end Kx
set_option Elab.async false
set_option linter.all false
set_option maxRecDepth 100000
set_option maxHeartbeats 16000000
/-! a line refused -/
namespace Kx
open PySem L2 Lw
open Evl (Ex)
structure ErrK (K : PySem.W.Frag) (mg : Str → Option Value) (x : Str) (C : Addr) : Prop where
  xf : XfC K C
  xc : ExcC K C
  gl : mg x = some (.ref C)
  te : PySem.W.exmOne K (.ref C) (.ref C) = some true
section
variable {K : PySem.W.Frag} {σ : L2.St} {G : Hp} {ta : TE}
theorem isxR {a C d E : Addr} {fs : List (Str × V)} {b : Bool} (h : EF ta σ G (XV (.ref a))) (hd : G d = some (.xd fs)) (hk : PySem.W.kitOne K (.ref C) (.ref E) = some b) : EF (tCB (rIsX K C a (.ref C) (some d)) (tCons ta (tCons (tC (.ref E)) tNil))) σ G (XV (.bl b)) := ef_isX h hd ex_c (fun u h => h) hk
theorem isxT {a C d : Addr} {fs : List (Str × V)} {b : Bool} {s : String} (h : EF ta σ G (XV (.ref a))) (hd : G d = some (.xd fs)) (hk : PySem.W.kitOne K (.ref C) (.type s) = some b) : EF (tCB (rIsX K C a (.ref C) (some d)) (tCons ta (tCons (tC (.ty s)) tNil))) σ G (XV (.bl b)) := ef_isX h hd ex_c (fun u h => h) hk
end
section
variable {K : PySem.W.Frag} {C CL CB CE : Addr} {G H : Hp} {σ : L2.St} {p : Ln} {a1 a2 a3 a4 : Addr}
theorem ln_core {Er : XK} {Q' : VK} {x dx : Addr} (e : Ex G H) (hx : H x = none) (hd : H dx = none) (s1 : SqL K H a1 (p.ys.map V.int)) (s2 : SqL K H a2 (p.ss.map V.int)) (s3 : SqL K H a3 (p.es.map V.int)) (s4 : SqL K H a4 (p.ws.map V.int)) (hl : p.all.length ≤ 900) (kB : p.err = some none → ∀ H', Ex H H' → Er (.ref CB) none H') (kL : ∀ z, p.err = some (some z) → RseH CE [("length", .int z)] H Er) (k : p.err = none → ∀ G' H', Gr G G' H H' → LinC K C CL G' x p → Q' .non H') : spLnI K C CL CB CE [.ref x, .ref a1, .ref a2, .ref a3, .ref a4] (newO H CL x dx) Q' Er := by
  have en : Ex H (outH (newO H CL x dx) x) := ex_newO hx hd
  have e2 : Ex H (newO H CL x dx) := en.trans out_ex
  exact ⟨G, x, dx, a1, a2, a3, a4, p, rfl, e.trans e2, none_back e hx, upd_same, Evl.ex_l e2 s1, Evl.ex_l e2 s2, Evl.ex_l e2 s3, Evl.ex_l e2 s4, hl, fun h G' H' g t => k h G' H' (g.low en) t, fun h H' e' => kB h H' (e2.trans e'), fun z h => (kL z h).up e2⟩
theorem nw_lineM {t : TA} {Q : VK} (hG : Ex G H) (h : EA t σ H fun vs G' => ∃ a1 a2 a3 a4 : Addr, vs = [.ref a1, .ref a2, .ref a3, .ref a4] ∧ SqL K G' a1 (p.ys.map V.int) ∧ SqL K G' a2 (p.ss.map V.int) ∧ SqL K G' a3 (p.es.map V.int) ∧ SqL K G' a4 (p.ws.map V.int)) (hl : p.all.length ≤ 900) (he : p.err = none) (k : ∀ x G' H', Gr G G' H H' → LinC K C CL G' x p → Q (.ref x) H') : tMake CL (spLnI K C CL CB CE) [] E0 t σ H Q :=
  h H (Ex.refl H) _ fun zs G1 H1 g1 ⟨a1, a2, a3, a4, ev, s1, s2, s3, s4⟩ => by
    subst ev
    intro x dx hx hd hn
    exact ln_core (hG.trans g1.hp) hx hd (Evl.ex_l g1.ok s1) (Evl.ex_l g1.ok s2) (Evl.ex_l g1.ok s3) (Evl.ex_l g1.ok s4) hl (fun h => by rw [he] at h; cases h) (fun z h => by rw [he] at h; cases h) fun h G' H' g t => ⟨rfl, k x G' H' ((Gr.same hG g1.hp).trans g) t⟩
end
end Kx
set_option Elab.async false
set_option linter.all false
set_option maxRecDepth 100000
set_option maxHeartbeats 16000000
/-! what is told of all tables -/
namespace Kx
open PySem L2 Lw
open Evl (Ex)
theorem sc_told : FnScope ["_law_single", "_law_named", "e"] ["_law_single", "_law_named"] (defScope s_told) := ⟨rfl, rfl, rfl, by decide +kernel, rfl, by decide +kernel, by decide +kernel⟩
def ToldA (K : PySem.W.Frag) (G : Hp) (p : Ln) : VP := fun v G' => (200 < p.count ∧ Dp K G' v (.tuple [.str "raised", .int (p.count : Int), .int 200])) ∨ (p.count ≤ 200 ∧ ∃ (t pa : Addr) (ps : List Addr) (rss : List (List Addr)), v = .ref t ∧ G' t = some (.tup [.str "told", .ref pa]) ∧ G' pa = some (.lst (ps.map V.ref)) ∧ TbI G G' ps rss p.tables ∧ pa ∉ ps ++ rss.flatten)
def spTldA (K : PySem.W.Frag) (C CLn : Addr) : Sp := fun vs H Q _ => ∃ (G : Hp) (x : Addr) (b : Bool) (p : Ln), Ex G H ∧ vs = [.ref x, .bl b] ∧ LinC K C CLn G x p ∧ p.err = none ∧ Ret G H (ToldA K G p) Q
theorem sa_tldA {K : PySem.W.Frag} {C CLn : Addr} {G : Hp} {x : Addr} {b : Bool} {p : Ln} (h : LinC K C CLn G x p) (he : p.err = none) : SA (spTldA K C CLn) [.ref x, .bl b] G (ToldA K G p) := fun H e Q _ q => ⟨G, x, b, p, e, rfl, h, he, q⟩
section
variable {P : Program} {w : World} {K : PySem.W.Frag} {mg : Str → Option Value} {base : Heap} {C CLn A_TooMany A_BadTable A_RailError : Addr} {f : Addr} {fd : FuncData}
theorem ok_tldA (B : Blt mg) (m_ValueError : mg "ValueError" = none) (m_RailError : mg "RailError" = some (.ref A_RailError)) (m_BadTable : mg "BadTable" = some (.ref A_BadTable)) (Z_TooMany : ErrK K mg "TooMany" A_TooMany) (no_TooMany_number : PySem.W.findIn K (.ref A_TooMany) "number" = some none) (no_TooMany_limit : PySem.W.findIn K (.ref A_TooMany) "limit" = some none)
    (nR : PySem.W.kitOne K (.ref A_TooMany) (.ref A_RailError) = some true) (nV : PySem.W.kitOne K (.ref A_TooMany) (.type "ValueError") = some true) (nT : PySem.W.kitOne K (.ref A_TooMany) (.ref A_BadTable) = some false)
    (F : Fun K "_law_told" "_law_told" s_told f fd) (Cf : CalKX P w K mg base "all_tables" 5 0 1 [0] ["line"] ["line"] (spAllT K C CLn A_TooMany)) : FnOk P w K mg base CX0 6 f fd ["_law_single", "_law_named"] (spTldA K C CLn) := by
  obtain ⟨f1, fd1, G_all_tables, m_all_tables, k_all_tables, b_all_tables, bk_all_tables⟩ := Cf
  have m_isinstance := B.isinstance
  refine F.ok sc_told (fun vs H Q E h => ?_) (fun cdv A outer s H vs Q E hr h => ?_)
  · obtain ⟨G, x, b, p, _, rfl, _⟩ := h
    rfl
  · obtain ⟨G, x, b, p, hG, rfl, hP, he, k⟩ := h
    refine ⟨_, (pss_one (ps_tryN (W0 := fun _ _ _ _ => False) rfl rfl sc_told.nd takes0
 (fun W pn xe tk po => (pss_cons (ps_if (pt_val (pv 1))
 (pss_one (ps_ret (pe_tup (pa_cons pe_str (pa_cons (pe_callKX0 G_all_tables (hr.mono (by decide)) rfl m_all_tables k_all_tables bk_all_tables (fun σ => passAt tk σ) (pk_cons (pv 0) pk_nil)) pa_nil))))) pss_nil)
 (pss_one (ps_ret (pe_tup (pa_cons pe_str (pa_cons (pe_callSD G_all_tables (hr.mono (by decide)) rfl m_all_tables k_all_tables b_all_tables .nil (fun σ => passAt tk σ) (pa_cons (pv 0) pa_nil)) pa_nil)))))))
 (.cons (i := 2) (ts := fun a cls d => (tSeq (tIfS (tOr (tNot (tB (tCB (rIsX K A_TooMany a cls d) (tCons (tVar 2) (tCons (tC (.ref A_RailError)) tNil))))) (tOr (tNot (tB (tCB (rIsX K A_TooMany a cls d) (tCons (tVar 2) (tCons (tC (.ty "ValueError")) tNil))))) (tB (tCB (rIsX K A_TooMany a cls d) (tCons (tVar 2) (tCons (tC (.ref A_BadTable)) tNil)))))) (tRet (tTup (tCons (tC (.str "other")) tNil))) tNext) (tRet (tTup (tCons (tC (.str "raised")) (tCons (tXf a cls d A_TooMany "number" (tVar 2)) (tCons (tXf a cls d A_TooMany "limit" (tVar 2)) tNil))))))) rfl rfl ⟨by rfl, by decide, Or.inl Z_TooMany.gl⟩ .nil (fun a oe cls d pn hz hf => (pss_cons (ps_if (PW.pt (pw_or (pt_not (pt_val (pe_callB (call_isX Z_TooMany.xc hz hf) (by rfl) m_isinstance (by decide +kernel) (pa_cons (pv 2) (pa_cons (pe_glob (v := .ref A_RailError) (by rfl) m_RailError rfl) pa_nil))))) (pw_or (pt_not (pt_val (pe_callB (call_isX Z_TooMany.xc hz hf) (by rfl) m_isinstance (by decide +kernel) (pa_cons (pv 2) (pa_cons (pe_bltn (v := .ty "ValueError") (u := .type "ValueError") rfl m_ValueError (by decide +kernel) rfl) pa_nil))))) (pw_or1 (pt_val (pe_callB (call_isX Z_TooMany.xc hz hf) (by rfl) m_isinstance (by decide +kernel) (pa_cons (pv 2) (pa_cons (pe_glob (v := .ref A_BadTable) (by rfl) m_BadTable rfl) pa_nil))))))))
 (pss_one (ps_ret (pe_tup (pa_cons pe_str pa_nil)))) pss_nil)
 (pss_one (ps_ret (pe_tup (pa_cons pe_str (pa_cons (pe_xf Z_TooMany.xf no_TooMany_number hz hf (pv 2)) (pa_cons (pe_xf Z_TooMany.xf no_TooMany_limit hz hf (pv 2)) pa_nil))))))))))), ?_⟩
    have fin : ∀ {G1 H1 : Hp} {q pa : Addr} {ps : List Addr} {rss : List (List Addr)}, p.count ≤ 200 → Gr G G1 H H1 → G1 pa = some (.lst (ps.map V.ref)) → TbI G G1 ps rss p.tables → pa ∉ ps ++ rss.flatten → H1 q = none → Q (.ref q) (upd H1 q (.tup [.str "told", .ref pa])) := fun {G1 H1 q pa ps rss} hc g h1 hB hn hq => k _ (upd G1 q (.tup [.str "told", .ref pa])) _ (g.trans (Gr.new g.ok hq)) (.inr ⟨hc, q, pa, ps, rss, rfl, upd_same, ex_in (none_back g.ok hq) _ _ h1, hB.ex (ex_in (none_back g.ok hq)), hn⟩)
    have bad : ∀ {G1 H1 : Hp} {d a : Addr} {σ : L2.St} {D : Ends}, 200 < p.count → Gr G G1 H H1 → G1 d = some (.xd [("limit", .int 200), ("number", .int (p.count : Int))]) → D.rt = Q → σ[2]? = some (some (.ref a)) → (tSeq (tIfS (tOr (tNot (tB (tCB (rIsX K A_TooMany a (.ref A_TooMany) (some d)) (tCons (tVar 2) (tCons (tC (.ref A_RailError)) tNil))))) (tOr (tNot (tB (tCB (rIsX K A_TooMany a (.ref A_TooMany) (some d)) (tCons (tVar 2) (tCons (tC (.ty "ValueError")) tNil))))) (tB (tCB (rIsX K A_TooMany a (.ref A_TooMany) (some d)) (tCons (tVar 2) (tCons (tC (.ref A_BadTable)) tNil)))))) (tRet (tTup (tCons (tC (.str "other")) tNil))) tNext) (tRet (tTup (tCons (tC (.str "raised")) (tCons (tXf a (.ref A_TooMany) (some d) A_TooMany "number" (tVar 2)) (tCons (tXf a (.ref A_TooMany) (some d) A_TooMany "limit" (tVar 2)) tNil)))))) D σ H1 := fun {G1 H1 d a σ D} hb g hd hD hv => by
      refine st_if0 g.ok (et_or (p := (· = false)) (q := (· = false)) (et_not (et_B (EF.bl (isxR (ex_var hv) hd nR) rfl))) (fun _ => et_or (p := (· = false)) (q := (· = false)) (et_not (et_B (EF.bl (isxT (ex_var hv) hd nV) rfl))) (fun _ => et_B (EF.bl (isxR (ex_var hv) hd nT) rfl)) (fun h => nomatch h) fun _ b hb => hb) (fun h => nomatch h) fun _ b hb => hb) fun H3 e3 => ?_
      dsimp only [tNext]
      refine st_ret (P := DV K (.tuple [.str "raised", .int (p.count : Int), .int 200])) (g.ok.trans e3) (ef_tup (R := fun vs _ => vs = [.str "raised", .int (p.count : Int), .int 200]) (ea_x ex_c (ea_x (ef_xf (ex_var hv) hd rfl) (ea_x (ef_xf (ex_var hv) hd rfl) ea_nil))) (fun vs _ ev => by rw [ev]; simp) fun q vs G' _ _ _ ev => ?_) fun v G' H' g' pv => by
        show D.rt v H'
        rw [hD]
        exact k v G' H' ((g.then e3).trans g') (.inl ⟨hb, pv⟩)
      rw [ev]
      exact dp_mkT upd_same (.cons (.str _) (.cons (.int _) (.cons (.int _) .nil)))
    have tld : ∀ {H1 : Hp}, Ex H H1 → ∀ Q' : VK, (∀ v G' H', Gr G G' H1 H' → (p.count ≤ 200 ∧ ∃ (pa : Addr) (ps : List Addr) (rss : List (List Addr)), v = .ref pa ∧ G' pa = some (.lst (ps.map V.ref)) ∧ TbI G G' ps rss p.tables ∧ pa ∉ ps ++ rss.flatten) → Q' v H') → (p.count ≤ 200 → Ret G H1 (fun v G' => ∃ (pa : Addr) (ps : List Addr) (rss : List (List Addr)), v = .ref pa ∧ G pa = none ∧ G' pa = some (.lst (ps.map V.ref)) ∧ TbI G G' ps rss p.tables ∧ pa ∉ ps ++ rss.flatten) Q') := fun e Q' q hc v G' H' g ⟨pa, ps, rss, ev, _, h1, hB, hn⟩ => q v G' H' g ⟨hc, pa, ps, rss, ev, h1, hB, hn⟩
    refine st_if (p := (· = b)) hG (et_B (EF.bl (ex_var (v := .bl b) rfl) rfl)) (fun hc H1 e1 => ?_) (fun hc H1 e1 => ?_)
    · refine st_told (G := G) (fun Q' q => ⟨.ref x, rfl, G, x, p, hG.trans e1, rfl, hP, he, fun hs => ?_, tld e1 Q' q⟩) fun q v G' H' g ⟨hc, pa, ps, rss, ev, h1, hB, hn⟩ hq => by
        subst ev
        exact fin hc ((Gr.same hG e1).trans g) h1 hB hn hq
      refine Rse.rh (G := G) (rse_cla0 Z_TooMany.te fun G' H' d a' g hd ha => ?_) (hG.trans e1)
      exact bad hs ((Gr.same hG e1).trans (g.trans (Gr.new (o := .xd [("limit", .int 200), ("number", .int (p.count : Int))]) g.ok hd))) upd_same rfl rfl
    · dsimp only [tNext]
      refine st_told (G := G) (fun Q' q => ⟨.ref x, rfl, G, x, p, hG.trans e1, rfl, hP, he, fun hs => ?_, tld e1 Q' q⟩) fun q v G' H' g ⟨hc, pa, ps, rss, ev, h1, hB, hn⟩ hq => by
        subst ev
        exact fin hc ((Gr.same hG e1).trans g) h1 hB hn hq
      refine Rse.rh (G := G) (rse_cla0 Z_TooMany.te fun G' H' d a' g hd ha => ?_) (hG.trans e1)
      exact bad hs ((Gr.same hG e1).trans (g.trans (Gr.new (o := .xd [("limit", .int 200), ("number", .int (p.count : Int))]) g.ok hd))) upd_same rfl rfl
end
end Kx
set_option Elab.async false
set_option linter.all false
set_option maxRecDepth 100000
set_option maxHeartbeats 4000000
/-! tables that are changed -/
namespace Lw
open PySem PySem.Spec L2
open Evl (Ex)
variable {K : PySem.W.Frag} {σ : L2.St} {G0 G G' H H' : Hp} {ta tb te tl : TE} {ps : List Addr} {rss : List (List Addr)} {Ts : List (List (List Nat))}
theorem TbI.off (h : TbI G0 G ps rss Ts) (k : ∀ a, a ∈ ps ++ rss.flatten → ∀ o, G a = some o → G' a = some o) : TbI G0 G' ps rss Ts := by
  refine ⟨h.l1, h.l2, h.nd, fun a m => ⟨(h.nw a m).1, fun z => ?_⟩, fun i t rs T a b c => ?_⟩
  · cases hg : G a with
    | none => exact (h.nw a m).2 hg
    | some o => rw [k a m o hg] at z; cases z
  · obtain ⟨x, y, z⟩ := h.at_ i t rs T a b c
    exact ⟨k _ (List.mem_append_left _ (List.mem_of_getElem? a)) _ x, y, fun j r row u w => k _ (List.mem_append_right _ (List.mem_flatten.mpr ⟨rs, List.mem_of_getElem? b, List.mem_of_getElem? u⟩)) _ (z j r row u w)⟩
theorem TbI.dpa (h : TbI G0 G ps rss Ts) : DpAll K G (ps.map V.ref) (Ts.map dTb) := by
  refine dpa_pt (by rw [h.l1, List.length_map]) fun i t d a b => ?_
  rw [List.getElem?_map] at b
  obtain ⟨T, hT, rfl⟩ := Option.map_eq_some_iff.mp b
  obtain ⟨rs, hrs⟩ : ∃ rs, rss[i]? = some rs := ⟨_, List.getElem?_eq_getElem (by rw [h.l2]; exact (List.getElem?_eq_some_iff.mp hT).1)⟩
  obtain ⟨x, y, z⟩ := h.at_ i t rs T a hrs hT
  refine dp_mkL x (dpa_pt (by rw [y, List.length_map]) fun k r d u w => ?_)
  rw [List.getElem?_map] at w
  obtain ⟨row, hrow, rfl⟩ := Option.map_eq_some_iff.mp w
  have := z k r row u hrow
  rw [← natI_V] at this
  exact dp_mkL this (dpa_ints _)
theorem TbI.dp {pa : Addr} (h : TbI G0 G ps rss Ts) (hp : G pa = some (.lst (ps.map V.ref))) : Dp K G (.ref pa) (.list (Ts.map dTb)) := dp_mkL hp h.dpa
structure TbC (G0 G : Hp) (t : Addr) (rs : List Addr) (T : List (List Nat)) (ps : List Addr) (rss : List (List Addr)) (Ts : List (List (List Nat))) : Prop where
  tl : TbI G0 G ps rss Ts
  ht : G t = some (.lst (rs.map V.ref))
  len : rs.length = T.length
  row : ∀ (k : Nat) (r : Addr) (row : List Nat), rs[k]? = some r → T[k]? = some row → G r = some (.lst (row.map nV))
  nt : t ∉ rs
  nd : rs.Nodup
  o0 : G0 t = none
  o1 : ∀ r ∈ rs, G0 r = none
  of : ∀ a, a ∈ ps ++ rss.flatten → a ≠ t ∧ a ∉ rs
theorem TbI.cons {t : Addr} {rs : List Addr} {T : List (List Nat)} (h : TbI G0 G (t :: ps) (rs :: rss) (T :: Ts)) : TbC G0 G t rs T ps rss Ts := by
  obtain ⟨x, y, z⟩ := h.at_ 0 t rs T rfl rfl rfl
  have nd := h.nd
  rw [List.flatten_cons, List.cons_append, List.nodup_cons] at nd
  obtain ⟨n1, n2⟩ := nd
  rw [List.nodup_append] at n2
  obtain ⟨n3, n4, n5⟩ := n2
  rw [List.nodup_append] at n4
  obtain ⟨n6, n7, n8⟩ := n4
  have mt : ∀ {r : Addr}, r ∈ rs → r ∈ (t :: ps) ++ (rs :: rss).flatten := fun m => List.mem_append_right _ (List.mem_flatten.mpr ⟨rs, List.mem_cons_self .., m⟩)
  refine ⟨⟨by have := h.l1; simpa using this, by have := h.l2; simpa using this, List.nodup_append.mpr ⟨n3, n7, fun a ha b hb => n5 a ha b (List.mem_append_right _ hb)⟩, fun a m => h.nw a ?_, fun i t' rs' T' a b c => h.at_ (i + 1) t' rs' T' a b c⟩, x, y, z, fun m => n1 (List.mem_append_right _ (List.mem_append_left _ m)), n6, (h.nw t (List.mem_append_left _ (List.mem_cons_self ..))).1, fun r m => (h.nw r (mt m)).1, fun a m => ?_⟩
  · rcases List.mem_append.mp m with m | m
    · exact List.mem_append_left _ (List.mem_cons_of_mem _ m)
    · exact List.mem_append_right _ (by rw [List.flatten_cons]; exact List.mem_append_right _ m)
  · rcases List.mem_append.mp m with m | m
    · exact ⟨fun z => n1 (by rw [← z]; exact List.mem_append_left _ m), fun z => n5 a m a (List.mem_append_left _ z) rfl⟩
    · exact ⟨fun z => n1 (by rw [← z]; exact List.mem_append_right _ (List.mem_append_right _ m)), fun z => n8 a z a m rfl⟩
def spCopyT (K : PySem.W.Frag) : Sp := fun vs H Q _ => ∃ (G : Hp) (t : Addr) (rs : List Addr) (T : List (List Nat)), Ex G H ∧ vs = [.ref t] ∧ G t = some (.lst (rs.map V.ref)) ∧ rs.length = T.length ∧ T.length ≤ 100 ∧ (∀ (k : Nat) (r : Addr) (row : List Nat), rs[k]? = some r → T[k]? = some row → G r = some (.lst (row.map nV))) ∧ Ret G H (fun v G' => ∃ (pa : Addr) (rs2 : List Addr), v = .ref pa ∧ PtSt G G' pa rs2 (T.map natI)) Q
theorem sa_copyT {t : Addr} {rs : List Addr} {T : List (List Nat)} (h : G t = some (.lst (rs.map V.ref))) (hl : rs.length = T.length) (hz : T.length ≤ 100) (hr : ∀ (k : Nat) (r : Addr) (row : List Nat), rs[k]? = some r → T[k]? = some row → G r = some (.lst (row.map nV))) : SA (spCopyT K) [.ref t] G (fun v G' => ∃ (pa : Addr) (rs2 : List Addr), v = .ref pa ∧ PtSt G G' pa rs2 (T.map natI)) := fun H e Q _ q => ⟨G, t, rs, T, e, rfl, h, hl, hz, hr, q⟩
/-- [copy(rows) for rows in tables] -/
theorem el_tabsC {a : Addr} {j : Nat} (h : EF tl σ G (XV (.ref a))) (ha : G a = some (.lst (ps.map V.ref))) (hT : TbI G0 G ps rss Ts) (hz : Ts.length ≤ 40000) (hl : ∀ T ∈ Ts, T.length ≤ 100)
    (hw : ∀ x, wipe ((wipe σ [j]).set j (some x)) [j] = wipe σ [j]) (h5 : ∀ x, ((wipe σ [j]).set j (some x))[j]? = some (some x)) :
    EF (tLc (iList K tl) (gName j) tYes (tCall (spCopyT K) [] E0 (tCons (tVar j) tNil)) [j]) σ G (fun v G' => ∃ (pa : Addr) (ps : List Addr) (rss : List (List Addr)), v = .ref pa ∧ G pa = none ∧ G' pa = some (.lst (ps.map V.ref)) ∧ TbI G G' ps rss Ts ∧ pa ∉ ps ++ rss.flatten) := by
  refine ef_lcL (xs := ps.map V.ref) (fun i acc G' => ∃ (ps : List Addr) (rss : List (List Addr)), acc = ps.map V.ref ∧ Ex G G' ∧ TbI G G' ps rss (Ts.take i)) (h.imp fun v G' e pv => ⟨a, pv, Evl.sq_of (e _ _ ha)⟩) (by rw [List.length_map, hT.l1]; exact hz) hw (fun G' e => ⟨[], [], rfl, e, TbI.nil⟩) (fun i x acc G' e hi hI => ?_) fun q acc G' g0 g1 eg _ hI => ?_
  · obtain ⟨ps2, rss2, rfl, _, hB⟩ := hI
    rw [List.getElem?_map] at hi
    obtain ⟨t, ht, rfl⟩ := Option.map_eq_some_iff.mp hi
    have hil := (List.getElem?_eq_some_iff.mp ht).1
    obtain ⟨T, hTi⟩ : ∃ T, Ts[i]? = some T := ⟨_, List.getElem?_eq_getElem (by rw [← hT.l1]; exact hil)⟩
    obtain ⟨rs, hrs⟩ : ∃ rs, rss[i]? = some rs := ⟨_, List.getElem?_eq_getElem (by rw [hT.l2, ← hT.l1]; exact hil)⟩
    obtain ⟨x, y, z⟩ := hT.at_ i t rs T ht hrs hTi
    refine ec_all ((ef_call (P := fun v G3 => ∃ (pa : Addr) (rs2 : List Addr), v = .ref pa ∧ PtSt G' G3 pa rs2 (T.map natI)) (ea_x (ex_var (v := .ref t) (h5 _)) ea_nil) fun vs G2 e2 ev => by
      rw [ev]
      exact fun H eH Q E q => sa_copyT (K := K) (T := T) (rs := rs) (e2 _ _ (e _ _ x)) y (hl T (List.mem_of_getElem? hTi)) (fun k r row u w => e2 _ _ (e _ _ (z k r row u w))) H eH Q E fun v G3 H3 g ⟨pa, rs2, ev, hP⟩ => q v G3 H3 g ⟨pa, rs2, ev, hP.lowH e2⟩).imp fun v G2 e2 ⟨tt, rs2, ev, hP⟩ => ⟨ps2 ++ [tt], rss2 ++ [rs2], by rw [ev, List.map_append]; rfl, e.trans e2, ?_⟩)
    rw [show Ts.take (i + 1) = Ts.take i ++ [T] by rw [List.take_succ, hTi, Option.toList_some]]
    exact hB.app e2 e hP.pn hP.pl ⟨hP.len, hP.nd, hP.rn, hP.at_⟩ hP.ni
  · obtain ⟨ps2, rss2, rfl, eG, hB⟩ := hI
    rw [List.length_map, hT.l1, List.take_length] at hB
    exact ⟨q, ps2, rss2, rfl, g0, upd_same, hB.ex (ex_in g1), fun m => (hB.nw q m).2 g1⟩
end Lw
set_option Elab.async false
set_option linter.all false
set_option maxRecDepth 100000
set_option maxHeartbeats 16000000
/-! the other tables stay -/
namespace Kx
open PySem L2 Lw
open Evl (Ex)
theorem sc_copy : FnScope ["_law_rows", "_law_row"] ["_law_rows"] (defScope s_copy) := ⟨rfl, rfl, rfl, by decide +kernel, rfl, by decide +kernel, by decide +kernel⟩
theorem sc_stays : FnScope ["_law_tables", "_law_kept", "_law_rows", "_law_row"] ["_law_tables"] (defScope s_stays) := ⟨rfl, rfl, rfl, by decide +kernel, rfl, by decide +kernel, by decide +kernel⟩
def spStayT (K : PySem.W.Frag) : Sp := fun vs H Q _ => ∃ (H0 : Hp) (pa : Addr) (ps : List Addr) (rss : List (List Addr)) (Ts : List (List (List Nat))), Ex H0 H ∧ vs = [.ref pa] ∧ H pa = some (.lst (ps.map V.ref)) ∧ TbI H0 H ps rss Ts ∧ pa ∉ ps ++ rss.flatten ∧ 0 < Ts.length ∧ Ts.length ≤ 200 ∧ (∀ T ∈ Ts, T.length ≤ 100 ∧ ∀ r ∈ T, r.length ≤ 100) ∧ ∀ H', Ex H0 H' → Q (.bl true) H'
theorem okb_T {Ts : List (List (List Nat))} (h : Ts.length ≤ 1000) (h2 : ∀ T ∈ Ts, T.length ≤ 1000 ∧ ∀ r ∈ T, r.length ≤ 1000) : Okb 3 (.list (Ts.map dTb)) := ⟨by rw [List.length_map]; exact h, fun d m => by
  obtain ⟨T, hT, rfl⟩ := List.mem_map.mp m
  refine ⟨by rw [List.length_map]; exact (h2 T hT).1, fun d m => ?_⟩
  obtain ⟨r, hr, rfl⟩ := List.mem_map.mp m
  exact okb_I (by unfold natI; rw [List.length_map]; exact (h2 T hT).2 r hr)⟩
section
variable {P : Program} {w : World} {K : PySem.W.Frag} {mg : Str → Option Value} {base : Heap} {f : Addr} {fd : FuncData}
theorem ok_copyT (B : Blt mg) (F : Fun K "_law_copy" "_law_copy" s_copy f fd) : FnOk P w K mg base CX0 1 f fd ["_law_rows"] (spCopyT K) := by
  have m_list := B.list
  refine F.ok sc_copy (fun vs H Q E h => ?_) (fun cdv A outer s H vs Q E hr h => ?_)
  · obtain ⟨G, t, rs, T, _, rfl, _⟩ := h
    rfl
  · obtain ⟨G, t, rs, T, hG, rfl, ht, hl, hz, hrow, k⟩ := h
    refine ⟨_, (pss_one (ps_ret (pe_lc (own := [("_law_row", 1)]) (g := (gName 1)) (tt := tYes) (te := (tCB (Evl.rListS K) (tCons (tVar 1) tNil))) rfl sc_copy.nd (pi_list (pv 0)) (blkOk_by (N := ["_law_rows", "_law_row"]) (sc := defScope s_copy) (by decide +kernel)) (fun _ _ _ _ _ => pg_name (i := 1) sc_copy.nd rfl (Or.inl rfl)) (fun _ _ _ _ _ => pts_nil) (fun _ _ _ _ _ => (pe_callTy call_list_of (by rfl) m_list (by decide +kernel) (pa_cons (pv 1) pa_nil)))))), ?_⟩
    exact st_ret (P := fun v G' => ∃ (pa : Addr) (rs2 : List Addr), v = .ref pa ∧ PtSt G G' pa rs2 (T.map natI)) hG (el_rowsC (a := t) (rs0 := rs) (nss := T.map natI) (ex_var (v := .ref t) rfl) ht (by rw [hl, List.length_map]) (by rw [List.length_map]; exact hz) (fun i r ns a b => by
      rw [List.getElem?_map] at b
      obtain ⟨row, hr, rfl⟩ := Option.map_eq_some_iff.mp b
      rw [natI_V]
      exact hrow i r row a hr) (fun _ => rfl) (fun _ => rfl)) fun v G' H' g pv => k v G' H' g pv
theorem ok_stayT (B : Blt mg) (F : Fun K "_law_stays" "_law_stays" s_stays f fd) (Cc : Cal P w K mg base "_law_copy" 1 ["_law_rows"] (spCopyT K)) (Cs : Cal P w K mg base "_law_same" 4 ["_law_actual", "_law_wanted"] (spSameB K 3)) : FnOk P w K mg base CX0 6 f fd ["_law_tables"] (spStayT K) := by
  obtain ⟨f1, fd1, G_copy, m_copy, k_copy, b_copy⟩ := Cc
  obtain ⟨f2, fd2, G_same, m_same, k_same, b_same⟩ := Cs
  refine F.ok sc_stays (fun vs H Q E h => ?_) (fun cdv A outer s H vs Q E hr h => ?_)
  · obtain ⟨H0, pa, ps, rss, Ts, _, rfl, _⟩ := h
    rfl
  · obtain ⟨H0, pa, ps, rss, Ts, e0, rfl, hpa, hB, hni, hn, hz, hw, k⟩ := h
    refine ⟨_, (pss_cons (ps_setLc (i := 1) (own := [("_law_rows", 2)]) (g := (gName 2)) (tt := tYes) (te := (tCall (spCopyT K) [] E0 (tCons (tVar 2) tNil))) rfl sc_stays.nd rfl rfl (sw_true rfl rfl rfl (by decide +kernel)) (pi_list (pv 0)) (blkOk_by (N := ["_law_tables", "_law_kept", "_law_rows", "_law_row"]) (sc := defScope s_stays) (by decide +kernel)) (fun _ _ _ _ _ => pg_name (i := 2) sc_stays.nd rfl (Or.inl rfl)) (fun _ _ _ _ _ => pts_nil) (fun _ _ _ _ _ => (pe_call G_copy (hr.mono (by decide)) rfl m_copy k_copy b_copy .nil pass0 (pa_cons (pv 2) pa_nil))))
 (pss_cons (ps_set (i := 2) sc_stays.nd rfl (by first | exact Or.inl rfl | exact Or.inr rfl) (pe_ix ix_list (pv 0) pe_int (fun _ _ => rfl)))
 (pss_cons (ps_for PassesOwn.never rfl (pi_list (pv 2)) (pg_name (i := 3) sc_stays.nd rfl (by first | exact Or.inl rfl | exact Or.inr rfl))
 (pss_one (ps_expr (pe_bm PySem.F.plainAttrs_list PySem.F.slot_list_append PySem.F.type_list_append mt_append (pv 3) (pa_cons pe_int pa_nil)))))
 (pss_cons (ps_expr (pe_bm PySem.F.plainAttrs_list PySem.F.slot_list_append PySem.F.type_list_append mt_append (pv 2) (pa_cons (pe_lst pa_nil) pa_nil)))
 (pss_one (ps_ret (pe_call G_same (hr.mono (by decide)) rfl m_same k_same b_same .nil pass0 (pa_cons (pe_slice sl_list (pv 0) (po_some pe_int) po_none) (pa_cons (pe_slice sl_list (pv 1) (po_some pe_int) po_none) pa_nil))))))))), ?_⟩
    obtain ⟨T, Ts, rfl⟩ : ∃ T Ts', Ts = T :: Ts' := by
      cases Ts with
      | nil => cases hn
      | cons T Ts => exact ⟨T, Ts, rfl⟩
    obtain ⟨t, ps, rfl⟩ : ∃ t ps', ps = t :: ps' := by
      cases ps with
      | nil => cases hB.l1
      | cons t ps => exact ⟨t, ps, rfl⟩
    obtain ⟨rs, rss, rfl⟩ : ∃ rs rss', rss = rs :: rss' := by
      cases rss with
      | nil => cases hB.l2
      | cons rs rss => exact ⟨rs, rss, rfl⟩
    have hC := hB.cons
    obtain ⟨hT1, hT2⟩ := hw T (List.mem_cons_self ..)
    refine st_asg (G := H) (.refl _) (el_tabsC (K := K) (G0 := H0) (a := pa) (ps := t :: ps) (rss := rs :: rss) (Ts := T :: Ts) (ex_var (v := .ref pa) rfl) hpa hB (by omega) (fun T' m => (hw T' m).1) (fun _ => rfl) (fun _ => rfl)) fun v1 G1 H1 g1 p1 => ?_
    obtain ⟨pb, ps2, rss2, rfl, hpb, hpb1, hB2, hni2⟩ := p1
    have hB2 := hB2.ex g1.ok
    have hpb1 := g1.ok _ _ hpb1
    have hpa1 := g1.hp _ _ hpa
    have hC1 : ∀ {a : Addr} {o : HO}, H a = some o → H1 a = some o := fun h => g1.hp _ _ h
    dsimp only
    refine st_asg (G := H1) (P := XV (.ref t)) (.refl _) (ex_ixL (i := 0) (ex_var (v := .ref pa) rfl) (ex_c (v := .int 0)) rfl (Evl.sq_of hpa1) rfl) fun v2 G2 H2 g2 p2 => ?_
    cases (show v2 = _ from p2)
    have e12 := g2.hp
    dsimp only
    refine st_forW (a := t) (xs := rs.map V.ref) (ex_var (v := .ref t) rfl) (fun i σ' H' => ∃ v3 : Option V, σ' = [some (.ref pa), some (.ref pb), some (.ref t), v3] ∧ ∀ a o, a ∉ rs.take i → H1 a = some o → H' a = some o) (fun H' e => ⟨_, rfl, fun a o _ h => e _ _ (e12 _ _ h)⟩) (fun i σ' H' hW => ?_) (fun i x σ' H' hi hW => ?_) (fun σ' H' hW => ?_)
    · obtain ⟨v3, _, hW⟩ := hW
      exact Evl.sq_of (hW _ _ (fun m => hC.nt (List.mem_of_mem_take m)) (hC1 hC.ht))
    · obtain ⟨v3, rfl, hW⟩ := hW
      rw [List.getElem?_map] at hi
      obtain ⟨r, hr, rfl⟩ := Option.map_eq_some_iff.mp hi
      obtain ⟨row, hrow⟩ : ∃ row, T[i]? = some row := ⟨_, List.getElem?_eq_getElem (by rw [← hC.len]; exact (List.getElem?_eq_some_iff.mp hr).1)⟩
      have hrn : r ∉ rs.take i := fun m => by
        obtain ⟨j, hj⟩ := List.getElem?_of_mem m
        have hjl := (List.getElem?_eq_some_iff.mp hj).1
        rw [List.length_take] at hjl
        rw [List.getElem?_take] at hj
        have hj' : rs[j]? = some r := by
          split at hj
          · exact hj
          · cases hj
        have hjr : j < rs.length := (List.getElem?_eq_some_iff.mp hj').1
        have := (List.getElem?_inj hjr hC.nd).mp (hj'.trans hr.symm)
        omega
      have hr1 := hW _ _ hrn (hC1 (hC.row i r row hr hrow))
      show tDrop _ _ _ _
      refine st_app (G := H') (P := fun _ _ => True) (.refl _) hr1 (ex_var rfl) (ef_c (v := .int 0) trivial) (by have := hT2 row (List.mem_of_getElem? hrow); rw [List.length_map]; omega) fun v G' H'' g _ => ⟨_, rfl, fun a o ha h => ?_⟩
      rw [List.take_succ, hr, Option.toList_some] at ha
      rw [upd_ne (fun z => ha (by rw [z]; exact List.mem_append_right _ (List.mem_singleton.mpr rfl)))]
      exact g.hp _ _ (hW _ _ (fun m => ha (List.mem_append_left _ m)) h)
    · obtain ⟨v3, rfl, hW⟩ := hW
      have hW : ∀ a o, a ∉ rs → H1 a = some o → H' a = some o := fun a o ha h => hW a o (fun m => ha (List.mem_of_mem_take m)) h
      have ht' := hW _ _ hC.nt (hC1 hC.ht)
      dsimp only
      refine st_app (G := H') (P := fun _ _ => True) (.refl _) ht' (ex_var (v := .ref t) rfl) (ef_lst (ea_nil) (fun vs _ ev => by rw [show vs = [] from ev]; decide) fun _ _ _ _ _ _ _ => trivial) (by rw [List.length_map, hC.len]; omega) fun v G' H3 g _ => ?_
      obtain ⟨H4, e4⟩ : ∃ H4, H4 = upd H3 t (.lst (rs.map V.ref ++ [v])) := ⟨_, rfl⟩
      rw [← e4]
      have h4 : ∀ a o, a ≠ t → a ∉ rs → H1 a = some o → H4 a = some o := fun a o h1 h2 h => by rw [e4, upd_ne h1]; exact g.hp _ _ (hW a o h2 h)
      have hnt : ∀ {a : Addr}, H a = none → a ≠ t ∧ a ∉ rs := fun {a} h => ⟨fun z => (by rw [z, hC.ht] at h; cases h), fun m => by
        obtain ⟨i, hi⟩ := List.getElem?_of_mem m
        obtain ⟨row, hrow⟩ : ∃ row, T[i]? = some row := ⟨_, List.getElem?_eq_getElem (by rw [← hC.len]; exact (List.getElem?_eq_some_iff.mp hi).1)⟩
        rw [hC.row i a row hi hrow] at h; cases h⟩
      have hBa : TbI H0 H4 ps rss Ts := (hC.tl.ex g1.hp).off fun a m o h => h4 a o (hC.of a m).1 (hC.of a m).2 h
      have hBb : TbI H H4 ps2 rss2 (T :: Ts) := hB2.off fun a m o h => h4 a o (hnt (hB2.nw a m).1).1 (hnt (hB2.nw a m).1).2 h
      have hpn : pa ≠ t ∧ pa ∉ rs := ⟨fun z => hni (by rw [z]; exact List.mem_append_left _ (List.mem_cons_self ..)), fun m => hni (List.mem_append_right _ (List.mem_flatten.mpr ⟨rs, List.mem_cons_self .., m⟩))⟩
      have hpa4 := h4 pa _ hpn.1 hpn.2 hpa1
      have hpb4 := h4 pb _ (hnt hpb).1 (hnt hpb).2 hpb1
      have hdb := hBb.dpa (K := K)
      dsimp only
      refine st_ret (G := H4) (P := XV (.bl true)) (.refl _) (ef_same (n := 3) (d := .list (Ts.map dTb)) (EF.imp (ex_from (k := 1) (ex_var (v := .ref pa) rfl) (Evl.sq_of hpa4) (ex_c (v := .int 1))) fun v G2 e2 ⟨b, ev, _, hb⟩ => by rw [ev]; exact dp_mkL hb (dpax (hBa.dpa (K := K)) e2)) (EF.imp (ex_from (k := 1) (ex_var (v := .ref pb) rfl) (Evl.sq_of hpb4) (ex_c (v := .int 1))) fun v G2 e2 ⟨b, ev, _, hb⟩ => by
        rw [ev]
        exact dp_mkL hb (dpax (dpa_drop 1 hdb) e2)) (okb_T (by simp at hz; omega) fun T' m => ⟨by have := (hw T' (List.mem_cons_of_mem _ m)).1; omega, fun r mr => by have := (hw T' (List.mem_cons_of_mem _ m)).2 r mr; omega⟩)) fun v G' H' g' pv => ?_
      rw [show v = _ from pv]
      refine k H' (exTrans (H1 := H4) (fun a o h => ?_) g'.hp)
      exact h4 a o (fun z => by rw [z, hC.o0] at h; cases h) (fun m => by rw [hC.o1 a m] at h; cases h) (hC1 (e0 _ _ h))
end
end Kx
set_option Elab.async false
set_option linter.all false
set_option maxRecDepth 100000
set_option maxHeartbeats 16000000
/-! what is told is right -/
namespace Kx
open PySem L2 Lw
open Evl (Ex)
theorem sc_is_right : FnScope ["_law_parts_here", "_law_told_here", "_law_number_here", "_law_k"] ["_law_parts_here", "_law_told_here", "_law_number_here"] (defScope s_is_right) := ⟨rfl, rfl, rfl, by decide +kernel, rfl, by decide +kernel, by decide +kernel⟩
def spRightD (K : PySem.W.Frag) : Sp := fun vs H Q _ => ∃ (G G0 : Hp) (v u : V) (p : Ln), Ex G H ∧ vs = [v, u, .int (p.count : Int)] ∧ LnR G v p ∧ p.err = none ∧ ToldA K G0 p u G ∧ Ret G H (XV (.bl true)) Q
theorem sa_rightD {K : PySem.W.Frag} {G G0 : Hp} {v u : V} {p : Ln} (h : LnR G v p) (he : p.err = none) (hu : ToldA K G0 p u G) : SA (spRightD K) [v, u, .int (p.count : Int)] G (XV (.bl true)) := fun H e Q _ q => ⟨G, G0, v, u, p, e, rfl, h, he, hu, q⟩
theorem ToldA.ex {K : PySem.W.Frag} {G0 G G' : Hp} {p : Ln} {u : V} (h : ToldA K G0 p u G) (e : Ex G G') : ToldA K G0 p u G' := by
  rcases h with ⟨h1, h2⟩ | ⟨h1, t, pa, ps, rss, ev, h2, h3, h4, h5⟩
  · exact .inl ⟨h1, dpx h2 e⟩
  · exact .inr ⟨h1, t, pa, ps, rss, ev, e _ _ h2, e _ _ h3, h4.ex e, h5⟩
section
variable {P : Program} {w : World} {K : PySem.W.Frag} {mg : Str → Option Value} {base : Heap} {f : Addr} {fd : FuncData}
theorem et_ltD {σ : L2.St} {G : Hp} {ta tb : TE} {da db : PyData} (ha : EF ta σ G (DV K da)) (hb : EF tb σ G (DV K db)) (h1 : PySem.W.alike da db = true) (h2 : da ≠ .none) (h3 : da.depth ≤ 60) : ET (tTest (tOp (rLtD K) ta tb)) σ G (· = PySem.W.dataLt da db) :=
  et_test (ef_op mo_DV mo_DV ha hb fun x y G' _ hx hy => fun H e Q k => ⟨H, da, db, Evl.Ex.refl H, dpx hx e, dpx hy e, h1, h2, h3, k _ G' H (.refl e) ⟨_, rfl, rfl⟩⟩)
theorem dep_N : ∀ l : List (List Nat), PyData.depthAll (l.map dNr) ≤ 2
  | [] => by
    rw [List.map_nil]
    unfold PyData.depthAll
    omega
  | r :: l => by
    have h1 := dep_N l
    have h2 := dep_ints (natI r)
    have h3 : (dNr r).depth ≤ 2 := by
      unfold dNr dI PyData.depth
      omega
    rw [List.map_cons]
    unfold PyData.depthAll
    omega
theorem dep_T (T : List (List Nat)) : (dTb T).depth ≤ 60 := by
  have := dep_N T
  unfold dTb PyData.depth
  omega
theorem ok_rightD (B : Blt mg) (F : Fun K "_law_is_right" "_law_is_right" s_is_right f fd) (Cg : Cal P w K mg base "_law_is_good" 2 ["_law_parts_here", "_law_rows"] (spGoodD K)) (Cs : Cal P w K mg base "_law_same" 4 ["_law_actual", "_law_wanted"] (spSameB K 3)) : FnOk P w K mg base CX0 5 f fd ["_law_parts_here", "_law_told_here", "_law_number_here"] (spRightD K) := by
  obtain ⟨f1, fd1, G_is_good, m_is_good, k_is_good, b_is_good⟩ := Cg
  obtain ⟨f2, fd2, G_same, m_same, k_same, b_same⟩ := Cs
  have m_range := B.range
  have m_len := B.len
  have m_list := B.list
  have m_isinstance := B.isinstance
  refine F.ok sc_is_right (fun vs H Q E h => ?_) (fun cdv A outer s H vs Q E hr h => ?_)
  · obtain ⟨G, G0, v, u, p, _, rfl, _⟩ := h
    rfl
  · obtain ⟨G, G0, v, u, p, hG, rfl, hv, he, hu, k⟩ := h
    refine ⟨_, (pss_cons (ps_if (pt_cmpR op_gt (pv 2) pe_int (nomark _))
 (pss_one (ps_ret (pe_call G_same (hr.mono (by decide)) rfl m_same k_same b_same .nil pass0 (pa_cons (pv 1) (pa_cons (pe_tup (pa_cons pe_str (pa_cons (pv 2) (pa_cons pe_int pa_nil)))) pa_nil))))) pss_nil)
 (pss_cons (ps_if (PW.pt (pw_or (pt_cmpR op_ne (pe_ix ix_tup (pv 1) pe_int (fun _ _ => rfl)) pe_str (nomark _)) (pw_or (pt_not (pt_val (pe_callB call_isi (by rfl) m_isinstance (by decide +kernel) (pa_cons (pe_ix ix_tup (pv 1) pe_int (fun _ _ => rfl)) (pa_cons (pe_bltn (v := .ty "list") (u := .type "list") rfl m_list (by decide +kernel) rfl) pa_nil))))) (pw_or1 (pt_cmpR op_ne (pe_callB call_len_seq (by rfl) m_len PySem.boot_len (pa_cons (pe_ix ix_tup (pv 1) pe_int (fun _ _ => rfl)) pa_nil)) (pv 2) (nomark _))))))
 (pss_one (ps_ret pe_bl)) pss_nil)
 (pss_cons (ps_for PassesOwn.never rfl (pi_range1 rfl m_range (pa_cons (pv 2) pa_nil)) (pg_name (i := 3) sc_is_right.nd rfl (by first | exact Or.inl rfl | exact Or.inr rfl))
 (pss_cons (ps_if (pt_not (pt_val (pe_call G_is_good (hr.mono (by decide)) rfl m_is_good k_is_good b_is_good .nil pass0 (pa_cons (pv 0) (pa_cons (pe_ix ix_list (pe_ix ix_tup (pv 1) pe_int (fun _ _ => rfl)) (pv 3) (fun _ _ => rfl)) pa_nil)))))
 (pss_one (ps_ret pe_bl)) pss_nil)
 (pss_one (ps_if (PW.pt (pw_and (pt_cmpR op_gt (pv 3) pe_int (nomark _)) (pw_and1 (pt_not (pt_cmpR (op_ltD (hu65 hr)) (pe_ix ix_list (pe_ix ix_tup (pv 1) pe_int (fun _ _ => rfl)) (pe_op op_sub (pv 3) pe_int) (fun _ _ => rfl)) (pe_ix ix_list (pe_ix ix_tup (pv 1) pe_int (fun _ _ => rfl)) (pv 3) (fun _ _ => rfl)) (nomark _))))))
 (pss_one (ps_ret pe_bl)) pss_nil))))
 (pss_one (ps_ret pe_bl))))), ?_⟩
    have hvH := hv.ex hG
    have huH := hu.ex hG
    refine st_if (G := H) (p := (· = decide ((p.count : Int) > 200))) (.refl _) (et_test (EF.bl (ex_bI (f := fun i j => decide (i > j)) (ex_var (v := .int (p.count : Int)) rfl) (ex_c (v := .int 200))) rfl)) (fun hb H1 e1 => ?_) (fun hb H1 e1 => ?_)
    · have hb := of_decide_eq_true hb.symm
      rcases huH with ⟨_, hd⟩ | ⟨hc, _⟩
      · refine st_ret (G := H) (P := XV (.bl true)) e1 (ef_same (n := 3) (d := .tuple [.str "raised", .int (p.count : Int), .int 200]) (EF.dv (ex_var (v := u) rfl) hd) (ef_tup (R := fun vs _ => vs = [.str "raised", .int (p.count : Int), .int 200]) (ea_x ex_c (ea_x (ex_var (v := .int (p.count : Int)) rfl) (ea_x ex_c ea_nil))) (fun vs _ ev => by rw [ev]; simp) fun q vs G' _ _ _ ev => by
          rw [ev]
          exact dp_mkT upd_same (.cons (.str _) (.cons (.int _) (.cons (.int _) .nil)))) ⟨by simp, fun d m => by
            simp only [List.mem_cons, List.not_mem_nil, or_false] at m
            rcases m with rfl | rfl | rfl <;> trivial⟩) fun v G' H' g pv => ?_
        exact k v G H' (Gr.same hG (e1.trans g.hp)) pv
      · omega
    · have hb := of_decide_eq_false hb.symm
      dsimp only [tNext]
      rcases huH with ⟨hc, _⟩ | ⟨_, t, pa, ps, rss, rfl, ht, hpa, hB, hni⟩
      · omega
      have hl : ps.length = p.count := by rw [hB.l1, tables_len]
      have hd := hB.dp (K := K) hpa
      have ix1 : ∀ {σ : L2.St} {G' : Hp}, Ex H G' → σ[1]? = some (some (.ref t)) → EF (tOp (rIxT K) (tVar 1) (tC (.int 1))) σ G' (XV (.ref pa)) := fun e h => ex_ixT (i := 1) (ex_var h) (ex_c (v := .int 1)) (Evl.st_of (e _ _ ht)) rfl
      have ixT : ∀ {σ : L2.St} {G' : Hp} {ti : TE} {z : Int} {i : Nat} {T : List (List Nat)}, Ex H G' → σ[1]? = some (some (.ref t)) → EF ti σ G' (XV (.int z)) → z = (i : Int) → p.tables[i]? = some T → EF (tOp (rIxL K) (tOp (rIxT K) (tVar 1) (tC (.int 1))) ti) σ G' (DV K (dTb T)) := fun {σ G' ti z i T} e h hi ez hT => ed_ixL (ds := p.tables.map dTb) (EF.dv (ix1 e h) (dpx hd e)) (EF.iv hi) fun x hx => ⟨i, dTb T, by rw [hx, ez], by rw [List.getElem?_map, hT]; rfl, fun v G' d => d⟩
      refine st_if0 (G := H1) (.refl _) (et_or (p := (· = false)) (q := (· = false)) (ET.imp (et_neV (ex_ixT (i := 0) (ex_var (v := .ref t) rfl) (ex_c (v := .int 0)) (Evl.st_of (e1 _ _ ht)) rfl) (ex_c (v := .str "told")) rfl) fun b hb => by rw [hb, decide_eq_true rfl]; rfl) (fun _ => et_or (p := (· = false)) (q := (· = false)) (et_not (et_B (EF.imp (ex_isl (ix1 e1 rfl) (e1 _ _ hpa)) fun v _ _ ⟨b, ev, hb⟩ => ⟨b, ev, by rw [hb]; rfl⟩))) (fun _ => ET.imp (et_neI ((ex_lenL (ix1 e1 rfl) (Evl.sq_of (e1 _ _ hpa))).imp fun y _ _ pv => (show y = V.int (p.count : Int) by rw [show y = _ from pv, List.length_map, hl])) (ex_var (v := .int (p.count : Int)) rfl)) fun b hb => by rw [hb, decide_eq_true rfl]; rfl) (fun h => nomatch h) fun _ b hb => hb) (fun h => nomatch h) fun _ b hb => hb) fun H2 e2 => ?_
      dsimp only [tNext]
      refine st_forR1 (G := H2) (n := (p.count : Int)) (.refl _) (ea_x (ex_var (v := .int (p.count : Int)) rfl) ea_nil) (by omega) (by omega) (fun i σ' H' => ∃ v3 : Option V, σ' = [some v, some (.ref t), some (.int (p.count : Int)), v3] ∧ Ex H H') (fun H' e => ⟨_, rfl, e1.trans (e2.trans e)⟩) (fun i σ' H' hi hw => ?_) (fun σ' H' hw => ?_)
      · obtain ⟨v3, rfl, eH⟩ := hw
        obtain ⟨T, hT⟩ : ∃ T, p.tables[i]? = some T := ⟨_, List.getElem?_eq_getElem (by rw [tables_len]; omega)⟩
        dsimp only
        refine st_if0 (G := H') (.refl _) (et_not (et_B (EF.bl (ef_call (P := XV (.bl true)) (R := fun vs G' => ∃ x y, vs = [x, y] ∧ XV v x G' ∧ DV K (dTb T) y G') (ea_two mo_XV mo_DV (ex_var (v := v) rfl) (ixT eH rfl (ex_var (v := .int (i : Int)) rfl) rfl hT)) fun vs G' e ⟨x, y, ev, hx, hy⟩ => by
          rw [ev, show x = v from hx]
          exact sa_goodD (hvH.ex (eH.trans e)) he hy (List.mem_of_getElem? hT)) rfl))) fun H3 e3 => ?_
        have e3' := eH.trans e3
        dsimp only [tNext]
        refine st_if0 (G := H3) (.refl _) (et_and (p := (· = decide (0 < i))) (q := (· = false)) (et_test (EF.bl (ex_bI (f := fun i j => decide (i > j)) (ex_var (v := .int (i : Int)) rfl) (ex_c (v := .int 0))) (decide_eq_decide.mpr (by omega)))) (fun hb => ?_) (fun _ b hb => hb) fun _ => rfl) fun H4 e4 => ⟨_, rfl, e3'.trans e4⟩
        have hi0 := of_decide_eq_true hb.symm
        obtain ⟨S, hS⟩ : ∃ S, p.tables[i - 1]? = some S := ⟨_, List.getElem?_eq_getElem (by rw [tables_len]; omega)⟩
        have hlt : PySem.W.dataLt (dTb S) (dTb T) = true := by
          refine lt_dTb (w := p.ws.length) ?_ ?_ ?_ ?_
          · rw [(tblN_ok (List.mem_of_getElem? hS)).1, (tblN_ok (List.mem_of_getElem? hT)).1]
          · intro r m
            obtain ⟨j, hj⟩ := List.getElem?_of_mem m
            exact tab_wid (List.mem_of_getElem? hS) hj
          · intro r m
            obtain ⟨j, hj⟩ := List.getElem?_of_mem m
            exact tab_wid (List.mem_of_getElem? hT) hj
          · have := List.pairwise_iff_getElem.mp (tables_asc (p := p)) (i - 1) i (List.getElem?_eq_some_iff.mp hS).1 (List.getElem?_eq_some_iff.mp hT).1 (by omega)
            rw [(List.getElem?_eq_some_iff.mp hS).2, (List.getElem?_eq_some_iff.mp hT).2] at this
            exact this
        exact et_not (ET.imp (et_ltD (ixT e3' rfl (ex_sub (ex_var (v := .int (i : Int)) rfl) (ex_c (v := .int 1))) (by omega) hS) (ixT e3' rfl (ex_var (v := .int (i : Int)) rfl) rfl hT) (alike_dTb S T) (by unfold dTb; exact fun z => nomatch z) (dep_T S)) fun b hb => by rw [hb, hlt]; rfl)
      · obtain ⟨v3, rfl, eH⟩ := hw
        dsimp only
        refine st_ret (G := H') (P := XV (.bl true)) (.refl _) ex_c fun v G' H2 g pv => ?_
        exact k v G H2 (Gr.same hG (eH.trans g.hp)) pv
end
end Kx
set_option Elab.async false
set_option linter.all false
set_option maxRecDepth 100000
set_option maxHeartbeats 8000000
namespace Kx
open PySem L2 Lw
open Evl (Ex)
theorem sc_same : FnScope ["_law_actual", "_law_wanted", "_law_k"] ["_law_actual", "_law_wanted"] (defScope s_same) := ⟨rfl, rfl, rfl, by decide +kernel, rfl, by decide +kernel, by decide +kernel⟩
section
variable {P : Program} {w : World} {K : PySem.W.Frag} {mg : Str → Option Value} {base : Heap} {C : Addr} {f : Addr} {fd : FuncData}
theorem ok_same0 (B : Blt mg) (F : Fun K "_law_same" "_law_same" s_same f fd) : FnOk P w K mg base CX0 1 f fd ["_law_actual", "_law_wanted"] (spSameB K 0) := by
  have m_len := B.len
  have m_range := B.range
  have m_isinstance := B.isinstance
  have m_int := B.int
  have m_str := B.str
  have m_bool := B.bool
  have m_list := B.list
  have m_tuple := B.tuple
  refine F.ok sc_same (fun vs H Q E h => ?_) (fun cdv A outer s H vs Q E hr h => ?_)
  · obtain ⟨G, x, y, d, _, rfl, _⟩ := h
    rfl
  · obtain ⟨G, x, y, d, hG, rfl, dx, dy, ok, k⟩ := h
    refine ⟨_, (pss_cons (ps_if (pt_cmpR op_isN (pv 1) pe_non (nomark _))
 (pss_one (ps_ret (pe_cmpR op_isN (pv 0) pe_non (nomark _)))) pss_nil)
 (pss_cons (ps_if (pt_cmpR (op_isC (c := true)) (pv 1) pe_bl (nomark _))
 (pss_one (ps_ret (pe_cmpR (op_isC (c := true)) (pv 0) pe_bl (nomark _)))) pss_nil)
 (pss_cons (ps_if (pt_cmpR (op_isC (c := false)) (pv 1) pe_bl (nomark _))
 (pss_one (ps_ret (pe_cmpR (op_isC (c := false)) (pv 0) pe_bl (nomark _)))) pss_nil)
 (pss_cons (ps_if (pt_val (pe_callB call_isi (by rfl) m_isinstance (by decide +kernel) (pa_cons (pv 1) (pa_cons (pe_bltn (v := .ty "int") (u := .type "int") rfl m_int (by decide +kernel) rfl) pa_nil))))
 (pss_one (ps_ret (pe_and (pe_callB call_isi (by rfl) m_isinstance (by decide +kernel) (pa_cons (pv 0) (pa_cons (pe_bltn (v := .ty "int") (u := .type "int") rfl m_int (by decide +kernel) rfl) pa_nil))) (pe_and (pe_not (pe_callB call_isi (by rfl) m_isinstance (by decide +kernel) (pa_cons (pv 0) (pa_cons (pe_bltn (v := .ty "bool") (u := .type "bool") rfl m_bool (by decide +kernel) rfl) pa_nil)))) (pe_one (pe_cmpR op_eq (pv 0) (pv 1) (nomark _))))))) pss_nil)
 (pss_cons (ps_if (pt_val (pe_callB call_isi (by rfl) m_isinstance (by decide +kernel) (pa_cons (pv 1) (pa_cons (pe_bltn (v := .ty "str") (u := .type "str") rfl m_str (by decide +kernel) rfl) pa_nil))))
 (pss_one (ps_ret (pe_and (pe_callB call_isi (by rfl) m_isinstance (by decide +kernel) (pa_cons (pv 0) (pa_cons (pe_bltn (v := .ty "str") (u := .type "str") rfl m_str (by decide +kernel) rfl) pa_nil))) (pe_one (pe_cmpR op_eq (pv 0) (pv 1) (nomark _)))))) pss_nil)
 (pss_cons (ps_if (PW.pt (pw_and (pt_val (pe_callB call_isi (by rfl) m_isinstance (by decide +kernel) (pa_cons (pv 1) (pa_cons (pe_bltn (v := .ty "list") (u := .type "list") rfl m_list (by decide +kernel) rfl) pa_nil)))) (pw_and1 (pt_not (pt_val (pe_callB call_isi (by rfl) m_isinstance (by decide +kernel) (pa_cons (pv 0) (pa_cons (pe_bltn (v := .ty "list") (u := .type "list") rfl m_list (by decide +kernel) rfl) pa_nil))))))))
 (pss_one (ps_ret pe_bl)) pss_nil)
 (pss_cons (ps_if (PW.pt (pw_and (pt_val (pe_callB call_isi (by rfl) m_isinstance (by decide +kernel) (pa_cons (pv 1) (pa_cons (pe_bltn (v := .ty "tuple") (u := .type "tuple") rfl m_tuple (by decide +kernel) rfl) pa_nil)))) (pw_and1 (pt_not (pt_val (pe_callB call_isi (by rfl) m_isinstance (by decide +kernel) (pa_cons (pv 0) (pa_cons (pe_bltn (v := .ty "tuple") (u := .type "tuple") rfl m_tuple (by decide +kernel) rfl) pa_nil))))))))
 (pss_one (ps_ret pe_bl)) pss_nil)
 (pss_cons (ps_if (pt_cmpR op_ne (pe_callB call_len_seq (by rfl) m_len PySem.boot_len (pa_cons (pv 0) pa_nil)) (pe_callB call_len_seq (by rfl) m_len PySem.boot_len (pa_cons (pv 1) pa_nil)) (nomark _))
 (pss_one (ps_ret pe_bl)) pss_nil)
 (pss_cons ps_never
 (pss_one (ps_ret pe_bl))))))))))), ?_⟩
    rcases okb_cases ok with rfl | ⟨bb, rfl⟩ | ⟨ki, hki⟩
    · cases dx
      cases dy
      refine st_if (p := (· = true)) hG (et_test (EF.bl (ex_isN (ex_var (v := .non) rfl) ex_c) (by simp))) (fun _ H1 e1 => ?_) (fun h => nomatch h)
      exact st_ret (P := XV (.bl true)) (hG.trans e1) ((ex_isN (ex_var (v := .non) rfl) ex_c).imp fun v _ _ h => (show v = _ from h).trans (by simp)) fun v G' H2 g p => k v G' H2 ((Gr.same hG e1).trans g) p
    · cases dx
      cases dy
      refine st_if0 hG (et_test (EF.bl (ex_isN (ex_var (v := .bl bb) rfl) ex_c) (by simp))) fun H1 e1 => ?_
      cases bb with
      | true =>
        refine st_if (p := (· = true)) (hG.trans e1) (et_test (EF.bl (ex_isC (c := true) (ex_var (v := .bl true) rfl) ex_c) (by simp))) (fun _ H2 e2 => ?_) (fun h => nomatch h)
        exact st_ret (P := XV (.bl true)) (hG.trans (e1.trans e2)) ((ex_isC (c := true) (ex_var (v := .bl true) rfl) ex_c).imp fun v _ _ h => (show v = _ from h).trans (by simp)) fun v G' H3 g p => k v G' H3 ((Gr.same hG (e1.trans e2)).trans g) p
      | false =>
        refine st_if0 (hG.trans e1) (et_test (EF.bl (ex_isC (c := true) (ex_var (v := .bl false) rfl) ex_c) (by simp))) fun H2 e2 => ?_
        refine st_if (p := (· = true)) (hG.trans (e1.trans e2)) (et_test (EF.bl (ex_isC (c := false) (ex_var (v := .bl false) rfl) ex_c) (by simp))) (fun _ H3 e3 => ?_) (fun h => nomatch h)
        exact st_ret (P := XV (.bl true)) (hG.trans (e1.trans (e2.trans e3))) ((ex_isC (c := false) (ex_var (v := .bl false) rfl) ex_c).imp fun v _ _ h => (show v = _ from h).trans (by simp)) fun v G' H4 g p => k v G' H4 ((Gr.same hG (e1.trans (e2.trans e3))).trans g) p
    have ny := dp_not dy hki
    refine st_if0 hG (et_test (EF.bl (ex_isN (ex_var (v := y) rfl) ex_c) (decide_eq_false ny.1))) fun H1 e1 => ?_
    refine st_if0 (hG.trans e1) (et_test (EF.bl (ex_isC (c := true) (ex_var (v := y) rfl) ex_c) (decide_eq_false (ny.2 true)))) fun H2 e2 => ?_
    refine st_if0 (hG.trans (e1.trans e2)) (et_test (EF.bl (ex_isC (c := false) (ex_var (v := y) rfl) ex_c) (decide_eq_false (ny.2 false)))) fun H3 e3 => ?_
    have hG3 : Ex G H3 := hG.trans (e1.trans (e2.trans e3))
    have eH3 : Ex H H3 := e1.trans (e2.trans e3)
    cases d with
    | int z =>
      cases dx
      cases dy
      refine st_if (p := (· = true)) hG3 (et_B (EF.bl (ex_isi (d := .int z) (k := .i) (r := true) (ex_var (v := .int z) rfl) ex_c (.int z) rfl (by decide +kernel)) rfl)) (fun _ H4 e4 => ?_) (fun h => nomatch h)
      refine st_ret (P := BV (· = true)) (hG3.trans e4) (eb_and (p := (· = true)) (q := (· = true)) (EF.bl (ex_isi (d := .int z) (k := .i) (r := true) (ex_var (v := .int z) rfl) ex_c (.int z) rfl (by decide +kernel)) rfl) (fun _ => eb_and (p := (· = true)) (q := (· = true)) (eb_not (EF.bl (ex_isi (d := .int z) (k := .i) (r := false) (ex_var (v := .int z) rfl) ex_c (.int z) rfl (by decide +kernel)) rfl)) (fun _ => ei_eq (EF.iv (ex_var (v := .int z) rfl)) (EF.iv (ex_var (v := .int z) rfl)) fun a b ha hb => by rw [ha, hb]; simp) (fun _ b hb => hb) (fun h => nomatch h)) (fun _ b hb => hb) (fun h => nomatch h)) (fun v G' H5 g p => k v G' H5 ((Gr.same hG (eH3.trans e4)).trans g) (by obtain ⟨b, eb, hb⟩ := p; rw [eb, hb]; rfl))
    | str z =>
      cases dx
      cases dy
      refine st_if0 hG3 (et_B (EF.bl (ex_isi (d := .str z) (k := .s) (r := false) (ex_var (v := .str z) rfl) ex_c (.str z) rfl (by decide +kernel)) rfl)) fun H4 e4 => ?_
      refine st_if (p := (· = true)) (hG3.trans e4) (et_B (EF.bl (ex_isi (d := .str z) (k := .s) (r := true) (ex_var (v := .str z) rfl) ex_c (.str z) rfl (by decide +kernel)) rfl)) (fun _ H5 e5 => ?_) (fun h => nomatch h)
      refine st_ret (P := BV (· = true)) (hG3.trans (e4.trans e5)) (eb_and (p := (· = true)) (q := (· = true)) (EF.bl (ex_isi (d := .str z) (k := .s) (r := true) (ex_var (v := .str z) rfl) ex_c (.str z) rfl (by decide +kernel)) rfl) (fun _ => ex_eq (ex_var (v := .str z) rfl) (ex_var (v := .str z) rfl) rfl (by simp)) (fun _ b hb => hb) (fun h => nomatch h)) (fun v G' H5 g p => k v G' H5 ((Gr.same hG (eH3.trans (e4.trans e5))).trans g) (by obtain ⟨b, eb, hb⟩ := p; rw [eb, hb]; rfl))
    | list ds => exact ok.elim
    | tuple ds => exact ok.elim
    | none => cases hki
    | bool b => cases hki
    | dict ds => cases hki
theorem ok_sameS (B : Blt mg) (F : Fun K "_law_same" "_law_same" s_same f fd) {n : Nat} (Cs : Cal P w K mg base "_law_same" (n + 1) ["_law_actual", "_law_wanted"] (spSameB K n)) : FnOk P w K mg base CX0 (n + 2) f fd ["_law_actual", "_law_wanted"] (spSameB K (n + 1)) := by
  obtain ⟨f1, fd1, G_same, m_same, k_same, b_same⟩ := Cs
  have m_len := B.len
  have m_range := B.range
  have m_isinstance := B.isinstance
  have m_int := B.int
  have m_str := B.str
  have m_bool := B.bool
  have m_list := B.list
  have m_tuple := B.tuple
  refine F.ok sc_same (fun vs H Q E h => ?_) (fun cdv A outer s H vs Q E hr h => ?_)
  · obtain ⟨G, x, y, d, _, rfl, _⟩ := h
    rfl
  · obtain ⟨G, x, y, d, hG, rfl, dx, dy, ok, k⟩ := h
    refine ⟨_, (pss_cons (ps_if (pt_cmpR op_isN (pv 1) pe_non (nomark _))
 (pss_one (ps_ret (pe_cmpR op_isN (pv 0) pe_non (nomark _)))) pss_nil)
 (pss_cons (ps_if (pt_cmpR (op_isC (c := true)) (pv 1) pe_bl (nomark _))
 (pss_one (ps_ret (pe_cmpR (op_isC (c := true)) (pv 0) pe_bl (nomark _)))) pss_nil)
 (pss_cons (ps_if (pt_cmpR (op_isC (c := false)) (pv 1) pe_bl (nomark _))
 (pss_one (ps_ret (pe_cmpR (op_isC (c := false)) (pv 0) pe_bl (nomark _)))) pss_nil)
 (pss_cons (ps_if (pt_val (pe_callB call_isi (by rfl) m_isinstance (by decide +kernel) (pa_cons (pv 1) (pa_cons (pe_bltn (v := .ty "int") (u := .type "int") rfl m_int (by decide +kernel) rfl) pa_nil))))
 (pss_one (ps_ret (pe_and (pe_callB call_isi (by rfl) m_isinstance (by decide +kernel) (pa_cons (pv 0) (pa_cons (pe_bltn (v := .ty "int") (u := .type "int") rfl m_int (by decide +kernel) rfl) pa_nil))) (pe_and (pe_not (pe_callB call_isi (by rfl) m_isinstance (by decide +kernel) (pa_cons (pv 0) (pa_cons (pe_bltn (v := .ty "bool") (u := .type "bool") rfl m_bool (by decide +kernel) rfl) pa_nil)))) (pe_one (pe_cmpR op_eq (pv 0) (pv 1) (nomark _))))))) pss_nil)
 (pss_cons (ps_if (pt_val (pe_callB call_isi (by rfl) m_isinstance (by decide +kernel) (pa_cons (pv 1) (pa_cons (pe_bltn (v := .ty "str") (u := .type "str") rfl m_str (by decide +kernel) rfl) pa_nil))))
 (pss_one (ps_ret (pe_and (pe_callB call_isi (by rfl) m_isinstance (by decide +kernel) (pa_cons (pv 0) (pa_cons (pe_bltn (v := .ty "str") (u := .type "str") rfl m_str (by decide +kernel) rfl) pa_nil))) (pe_one (pe_cmpR op_eq (pv 0) (pv 1) (nomark _)))))) pss_nil)
 (pss_cons (ps_if (PW.pt (pw_and (pt_val (pe_callB call_isi (by rfl) m_isinstance (by decide +kernel) (pa_cons (pv 1) (pa_cons (pe_bltn (v := .ty "list") (u := .type "list") rfl m_list (by decide +kernel) rfl) pa_nil)))) (pw_and1 (pt_not (pt_val (pe_callB call_isi (by rfl) m_isinstance (by decide +kernel) (pa_cons (pv 0) (pa_cons (pe_bltn (v := .ty "list") (u := .type "list") rfl m_list (by decide +kernel) rfl) pa_nil))))))))
 (pss_one (ps_ret pe_bl)) pss_nil)
 (pss_cons (ps_if (PW.pt (pw_and (pt_val (pe_callB call_isi (by rfl) m_isinstance (by decide +kernel) (pa_cons (pv 1) (pa_cons (pe_bltn (v := .ty "tuple") (u := .type "tuple") rfl m_tuple (by decide +kernel) rfl) pa_nil)))) (pw_and1 (pt_not (pt_val (pe_callB call_isi (by rfl) m_isinstance (by decide +kernel) (pa_cons (pv 0) (pa_cons (pe_bltn (v := .ty "tuple") (u := .type "tuple") rfl m_tuple (by decide +kernel) rfl) pa_nil))))))))
 (pss_one (ps_ret pe_bl)) pss_nil)
 (pss_cons (ps_if (pt_cmpR op_ne (pe_callB call_len_seq (by rfl) m_len PySem.boot_len (pa_cons (pv 0) pa_nil)) (pe_callB call_len_seq (by rfl) m_len PySem.boot_len (pa_cons (pv 1) pa_nil)) (nomark _))
 (pss_one (ps_ret pe_bl)) pss_nil)
 (pss_cons (ps_for PassesOwn.never rfl (pi_range1 rfl m_range (pa_cons (pe_callB call_len_seq (by rfl) m_len PySem.boot_len (pa_cons (pv 1) pa_nil)) pa_nil)) (pg_name (i := 2) sc_same.nd rfl (by first | exact Or.inl rfl | exact Or.inr rfl))
 (pss_one (ps_if (pt_not (pt_val (pe_call G_same (hr.mono (by omega)) rfl m_same k_same b_same .nil pass0 (pa_cons (pe_ix ix_seq (pv 0) (pv 2) (fun _ _ => rfl)) (pa_cons (pe_ix ix_seq (pv 1) (pv 2) (fun _ _ => rfl)) pa_nil)))))
 (pss_one (ps_ret pe_bl)) pss_nil)))
 (pss_one (ps_ret pe_bl))))))))))), ?_⟩
    rcases okb_cases ok with rfl | ⟨bb, rfl⟩ | ⟨ki, hki⟩
    · cases dx
      cases dy
      refine st_if (p := (· = true)) hG (et_test (EF.bl (ex_isN (ex_var (v := .non) rfl) ex_c) (by simp))) (fun _ H1 e1 => ?_) (fun h => nomatch h)
      exact st_ret (P := XV (.bl true)) (hG.trans e1) ((ex_isN (ex_var (v := .non) rfl) ex_c).imp fun v _ _ h => (show v = _ from h).trans (by simp)) fun v G' H2 g p => k v G' H2 ((Gr.same hG e1).trans g) p
    · cases dx
      cases dy
      refine st_if0 hG (et_test (EF.bl (ex_isN (ex_var (v := .bl bb) rfl) ex_c) (by simp))) fun H1 e1 => ?_
      cases bb with
      | true =>
        refine st_if (p := (· = true)) (hG.trans e1) (et_test (EF.bl (ex_isC (c := true) (ex_var (v := .bl true) rfl) ex_c) (by simp))) (fun _ H2 e2 => ?_) (fun h => nomatch h)
        exact st_ret (P := XV (.bl true)) (hG.trans (e1.trans e2)) ((ex_isC (c := true) (ex_var (v := .bl true) rfl) ex_c).imp fun v _ _ h => (show v = _ from h).trans (by simp)) fun v G' H3 g p => k v G' H3 ((Gr.same hG (e1.trans e2)).trans g) p
      | false =>
        refine st_if0 (hG.trans e1) (et_test (EF.bl (ex_isC (c := true) (ex_var (v := .bl false) rfl) ex_c) (by simp))) fun H2 e2 => ?_
        refine st_if (p := (· = true)) (hG.trans (e1.trans e2)) (et_test (EF.bl (ex_isC (c := false) (ex_var (v := .bl false) rfl) ex_c) (by simp))) (fun _ H3 e3 => ?_) (fun h => nomatch h)
        exact st_ret (P := XV (.bl true)) (hG.trans (e1.trans (e2.trans e3))) ((ex_isC (c := false) (ex_var (v := .bl false) rfl) ex_c).imp fun v _ _ h => (show v = _ from h).trans (by simp)) fun v G' H4 g p => k v G' H4 ((Gr.same hG (e1.trans (e2.trans e3))).trans g) p
    have ny := dp_not dy hki
    refine st_if0 hG (et_test (EF.bl (ex_isN (ex_var (v := y) rfl) ex_c) (decide_eq_false ny.1))) fun H1 e1 => ?_
    refine st_if0 (hG.trans e1) (et_test (EF.bl (ex_isC (c := true) (ex_var (v := y) rfl) ex_c) (decide_eq_false (ny.2 true)))) fun H2 e2 => ?_
    refine st_if0 (hG.trans (e1.trans e2)) (et_test (EF.bl (ex_isC (c := false) (ex_var (v := y) rfl) ex_c) (decide_eq_false (ny.2 false)))) fun H3 e3 => ?_
    have hG3 : Ex G H3 := hG.trans (e1.trans (e2.trans e3))
    have eH3 : Ex H H3 := e1.trans (e2.trans e3)
    cases d with
    | int z =>
      cases dx
      cases dy
      refine st_if (p := (· = true)) hG3 (et_B (EF.bl (ex_isi (d := .int z) (k := .i) (r := true) (ex_var (v := .int z) rfl) ex_c (.int z) rfl (by decide +kernel)) rfl)) (fun _ H4 e4 => ?_) (fun h => nomatch h)
      refine st_ret (P := BV (· = true)) (hG3.trans e4) (eb_and (p := (· = true)) (q := (· = true)) (EF.bl (ex_isi (d := .int z) (k := .i) (r := true) (ex_var (v := .int z) rfl) ex_c (.int z) rfl (by decide +kernel)) rfl) (fun _ => eb_and (p := (· = true)) (q := (· = true)) (eb_not (EF.bl (ex_isi (d := .int z) (k := .i) (r := false) (ex_var (v := .int z) rfl) ex_c (.int z) rfl (by decide +kernel)) rfl)) (fun _ => ei_eq (EF.iv (ex_var (v := .int z) rfl)) (EF.iv (ex_var (v := .int z) rfl)) fun a b ha hb => by rw [ha, hb]; simp) (fun _ b hb => hb) (fun h => nomatch h)) (fun _ b hb => hb) (fun h => nomatch h)) (fun v G' H5 g p => k v G' H5 ((Gr.same hG (eH3.trans e4)).trans g) (by obtain ⟨b, eb, hb⟩ := p; rw [eb, hb]; rfl))
    | str z =>
      cases dx
      cases dy
      refine st_if0 hG3 (et_B (EF.bl (ex_isi (d := .str z) (k := .s) (r := false) (ex_var (v := .str z) rfl) ex_c (.str z) rfl (by decide +kernel)) rfl)) fun H4 e4 => ?_
      refine st_if (p := (· = true)) (hG3.trans e4) (et_B (EF.bl (ex_isi (d := .str z) (k := .s) (r := true) (ex_var (v := .str z) rfl) ex_c (.str z) rfl (by decide +kernel)) rfl)) (fun _ H5 e5 => ?_) (fun h => nomatch h)
      refine st_ret (P := BV (· = true)) (hG3.trans (e4.trans e5)) (eb_and (p := (· = true)) (q := (· = true)) (EF.bl (ex_isi (d := .str z) (k := .s) (r := true) (ex_var (v := .str z) rfl) ex_c (.str z) rfl (by decide +kernel)) rfl) (fun _ => ex_eq (ex_var (v := .str z) rfl) (ex_var (v := .str z) rfl) rfl (by simp)) (fun _ b hb => hb) (fun h => nomatch h)) (fun v G' H5 g p => k v G' H5 ((Gr.same hG (eH3.trans (e4.trans e5))).trans g) (by obtain ⟨b, eb, hb⟩ := p; rw [eb, hb]; rfl))
    | list ds =>
      have sx : ∃ xs, SqA K G x xs ∧ DpAll K G xs ds := by
        obtain ⟨a, xs, rfl, hs, hd⟩ := dp_lst dx
        exact ⟨xs, ⟨a, rfl, .inl hs⟩, hd⟩
      have sy : ∃ xs, SqA K G y xs ∧ DpAll K G xs ds := by
        obtain ⟨a, xs, rfl, hs, hd⟩ := dp_lst dy
        exact ⟨xs, ⟨a, rfl, .inl hs⟩, hd⟩
      obtain ⟨xs, sx, hxs⟩ := sx
      obtain ⟨ys, sy, hys⟩ := sy
      obtain ⟨few, okd⟩ := ok
      refine st_if0 hG3 (et_B (EF.bl (ex_isi (d := .list ds) (k := .l) (r := false) (ex_var (v := y) rfl) ex_c dy rfl (by decide +kernel)) rfl)) fun H4 e4 => ?_
      refine st_if0 (hG3.trans e4) (et_B (EF.bl (ex_isi (d := .list ds) (k := .l) (r := false) (ex_var (v := y) rfl) ex_c dy rfl (by decide +kernel)) rfl)) fun H5 e5 => ?_
      have hG5 : Ex G H5 := hG3.trans (e4.trans e5)
      refine st_if0 hG5 (et_and (p := (· = true)) (q := (· = false)) (s := (· = false)) (et_B (EF.bl (ex_isi (d := .list ds) (k := .l) (r := true) (ex_var (v := y) rfl) ex_c dy rfl (by decide +kernel)) rfl)) (fun _ => et_not (et_B (EF.bl (ex_isi (d := .list ds) (k := .l) (r := true) (ex_var (v := x) rfl) ex_c dx rfl (by decide +kernel)) rfl))) (fun _ b hb => hb) (fun _ => rfl)) fun H6 e6 => ?_
      refine st_if0 (hG5.trans e6) (et_and (p := (· = false)) (q := fun _ => True) (s := (· = false)) (et_B (EF.bl (ex_isi (d := .list ds) (k := .l) (r := false) (ex_var (v := y) rfl) ex_c dy rfl (by decide +kernel)) rfl)) (fun h => nomatch h) (fun h => nomatch h) (fun _ => rfl)) fun H7 e7 => ?_
      have hG7 : Ex G H7 := hG5.trans (e6.trans e7)
      have eH7 : Ex H H7 := eH3.trans (e4.trans (e5.trans (e6.trans e7)))
      refine st_if0 hG7 (et_test (ei_ne (EF.iv (ex_lenA (ex_var (v := x) rfl) sx)) (EF.iv (ex_lenA (ex_var (v := y) rfl) sy)) fun a b ha hb => ?_)) fun H8 e8 => ?_
      · rw [ha, hb, dpa_len hxs, dpa_len hys]
        simp
      refine st_forR1 (n := (ds.length : Int)) (hG7.trans e8) ((ea_one (ex_lenA (ex_var (v := y) rfl) sy)).imp fun vs G' _ ⟨x, ev, hx⟩ => by rw [ev, show x = _ from hx, dpa_len hys]) (by omega) (by omega) (fun i σ' H' => Ex H H' ∧ ∃ v, σ' = [some x, some y, v]) (fun H' e => ⟨eH7.trans (e8.trans e), _, rfl⟩) (fun i σ' H' hi hw => ?_) (fun σ' H9 hw => ?_)
      · obtain ⟨e, v, rfl⟩ := hw
        have hi' : i < ds.length := by omega
        obtain ⟨u, hu, du⟩ := dpa_get' hxs (List.getElem?_eq_getElem hi')
        obtain ⟨v, hv, dv⟩ := dpa_get' hys (List.getElem?_eq_getElem hi')
        exact st_if0 (hG.trans e) (et_not (et_B (EF.bl (ex_call2 (P := XV (.bl true)) (ex_ixA (ex_var (v := x) rfl) (ex_var (v := .int (i : Int)) rfl) sx hu) (ex_ixA (ex_var (v := y) rfl) (ex_var (v := .int (i : Int)) rfl) sy hv) fun G' e' => sa_sameB (dpx du e') (dpx dv e') (okd _ (List.getElem_mem hi'))) rfl))) fun H2 e2 => ⟨e.trans e2, _, rfl⟩
      · obtain ⟨e, v, rfl⟩ := hw
        dsimp only
        refine st_ret (P := XV (.bl true)) (hG.trans e) ex_c fun v G' H2 g p => ?_
        exact k v G' H2 ((Gr.same hG e).trans g) p
    | tuple ds =>
      have sx : ∃ xs, SqA K G x xs ∧ DpAll K G xs ds := by
        obtain ⟨a, xs, rfl, hs, hd⟩ := dp_tup dx
        exact ⟨xs, ⟨a, rfl, .inr hs⟩, hd⟩
      have sy : ∃ xs, SqA K G y xs ∧ DpAll K G xs ds := by
        obtain ⟨a, xs, rfl, hs, hd⟩ := dp_tup dy
        exact ⟨xs, ⟨a, rfl, .inr hs⟩, hd⟩
      obtain ⟨xs, sx, hxs⟩ := sx
      obtain ⟨ys, sy, hys⟩ := sy
      obtain ⟨few, okd⟩ := ok
      refine st_if0 hG3 (et_B (EF.bl (ex_isi (d := .tuple ds) (k := .t) (r := false) (ex_var (v := y) rfl) ex_c dy rfl (by decide +kernel)) rfl)) fun H4 e4 => ?_
      refine st_if0 (hG3.trans e4) (et_B (EF.bl (ex_isi (d := .tuple ds) (k := .t) (r := false) (ex_var (v := y) rfl) ex_c dy rfl (by decide +kernel)) rfl)) fun H5 e5 => ?_
      have hG5 : Ex G H5 := hG3.trans (e4.trans e5)
      refine st_if0 hG5 (et_and (p := (· = false)) (q := fun _ => True) (s := (· = false)) (et_B (EF.bl (ex_isi (d := .tuple ds) (k := .t) (r := false) (ex_var (v := y) rfl) ex_c dy rfl (by decide +kernel)) rfl)) (fun h => nomatch h) (fun h => nomatch h) (fun _ => rfl)) fun H6 e6 => ?_
      refine st_if0 (hG5.trans e6) (et_and (p := (· = true)) (q := (· = false)) (s := (· = false)) (et_B (EF.bl (ex_isi (d := .tuple ds) (k := .t) (r := true) (ex_var (v := y) rfl) ex_c dy rfl (by decide +kernel)) rfl)) (fun _ => et_not (et_B (EF.bl (ex_isi (d := .tuple ds) (k := .t) (r := true) (ex_var (v := x) rfl) ex_c dx rfl (by decide +kernel)) rfl))) (fun _ b hb => hb) (fun _ => rfl)) fun H7 e7 => ?_
      have hG7 : Ex G H7 := hG5.trans (e6.trans e7)
      have eH7 : Ex H H7 := eH3.trans (e4.trans (e5.trans (e6.trans e7)))
      refine st_if0 hG7 (et_test (ei_ne (EF.iv (ex_lenA (ex_var (v := x) rfl) sx)) (EF.iv (ex_lenA (ex_var (v := y) rfl) sy)) fun a b ha hb => ?_)) fun H8 e8 => ?_
      · rw [ha, hb, dpa_len hxs, dpa_len hys]
        simp
      refine st_forR1 (n := (ds.length : Int)) (hG7.trans e8) ((ea_one (ex_lenA (ex_var (v := y) rfl) sy)).imp fun vs G' _ ⟨x, ev, hx⟩ => by rw [ev, show x = _ from hx, dpa_len hys]) (by omega) (by omega) (fun i σ' H' => Ex H H' ∧ ∃ v, σ' = [some x, some y, v]) (fun H' e => ⟨eH7.trans (e8.trans e), _, rfl⟩) (fun i σ' H' hi hw => ?_) (fun σ' H9 hw => ?_)
      · obtain ⟨e, v, rfl⟩ := hw
        have hi' : i < ds.length := by omega
        obtain ⟨u, hu, du⟩ := dpa_get' hxs (List.getElem?_eq_getElem hi')
        obtain ⟨v, hv, dv⟩ := dpa_get' hys (List.getElem?_eq_getElem hi')
        exact st_if0 (hG.trans e) (et_not (et_B (EF.bl (ex_call2 (P := XV (.bl true)) (ex_ixA (ex_var (v := x) rfl) (ex_var (v := .int (i : Int)) rfl) sx hu) (ex_ixA (ex_var (v := y) rfl) (ex_var (v := .int (i : Int)) rfl) sy hv) fun G' e' => sa_sameB (dpx du e') (dpx dv e') (okd _ (List.getElem_mem hi'))) rfl))) fun H2 e2 => ⟨e.trans e2, _, rfl⟩
      · obtain ⟨e, v, rfl⟩ := hw
        dsimp only
        refine st_ret (P := XV (.bl true)) (hG.trans e) ex_c fun v G' H2 g p => ?_
        exact k v G' H2 ((Gr.same hG e).trans g) p
    | none => cases hki
    | bool b => cases hki
    | dict ds => cases hki
end
end Kx
set_option Elab.async false
set_option linter.all false
set_option maxRecDepth 100000
set_option maxHeartbeats 16000000
/-! the law -/
namespace Kx
open PySem L2 Lw
open Evl (Ex)
theorem sc_law : FnScope ["_law_script", "_law_parts_here", "_law_turned", "_law_number_here", "_law_back", "_law_single", "_law_other", "_law_told_here"] ["_law_script"] (defScope s_law) := ⟨rfl, rfl, rfl, by decide +kernel, rfl, by decide +kernel, by decide +kernel⟩
def spLaw (K : PySem.W.Frag) : Sp := fun vs H Q _ => ∃ (a : Addr) (ns : List Int), vs = [.ref a] ∧ SqL K H a (ns.map V.int) ∧ ns.length ≤ 63 ∧ ∀ H', Q (.bl true) H'
def swpL (p : Ln) : Ln := ⟨p.ys, p.ss, p.ws, p.es⟩
theorem swp_ok {p : Ln} (he : p.err = none) : (swpL p).err = none := by
  obtain ⟨q1, q2, q3, q4, q5, hall⟩ := Ln.ok_shape he
  refine Ln.err_of q1 q2 q3 q5 q4 fun z m => hall z ?_
  unfold Ln.all swpL at m
  unfold Ln.all
  simp only [List.mem_append, List.append_nil] at m ⊢
  rcases m with m | m | m | m
  · exact .inl m
  · exact .inr (.inl m)
  · exact .inr (.inr (.inr m))
  · exact .inr (.inr (.inl m))
section
variable {K : PySem.W.Frag} {σ : L2.St} {G : Hp} {p : Ln} {tl : TE} {a : Addr}
theorem st_raw {te : TE} {D : Ends} {H : Hp} {i : Nat} (h : te σ H fun v H' => D.nx (σ.set i (some v)) H') : tAsg te (gName i) D σ H := h
theorem ln_len (he : p.err = none) : p.all.length ≤ 900 := by
  obtain ⟨q1, q2, q3, q4, q5, hall⟩ := Ln.ok_shape he
  unfold Ln.all
  simp only [List.length_append, List.length_nil]
  omega
theorem st_ifAnd {p : Bool → Prop} {t u : TT} {tu tw : TS} {D : Ends} {H : Hp} (M : Hp → Prop) (hG : Ex G H) (h : ET t σ G p) (hf : p false → ∀ H', Ex H H' → M H') (ht : p true → ∀ H', Ex H H' → ∀ R : Bool → Hp → Prop, (∀ H2, M H2 → R false H2) → u σ H' R) (k : ∀ H', M H' → tw D σ H') : tIfS (tAnd t u) tu tw D σ H := h H hG _ fun c H1 e1 hc => by
  cases c with
  | true =>
    show u σ H1 _
    exact ht hc H1 e1 _ fun H2 m => k H2 m
  | false =>
    show tw D σ H1
    exact k H1 (hf hc H1 e1)
theorem tb_not {sp : Sp} {E : XK} {ta : TA} {H : Hp} {R : Bool → Hp → Prop} (h : ta σ H fun vs H1 => sp (vs ++ []) H1 (fun x H2 => ∃ c, x = .bl c ∧ R (!c) H2) E) : tNot (tB (tCall sp [] E ta)) σ H R := h
theorem ToldA.low {G0 G1 G2 : Hp} {v : V} (h : ToldA K G1 p v G2) (e : Ex G0 G1) : ToldA K G0 p v G2 := by
  rcases h with hT | ⟨h1, t, pa, ps, rss, ev, h2, h3, h4, h5⟩
  · exact .inl hT
  · exact .inr ⟨h1, t, pa, ps, rss, ev, h2, h3, ⟨h4.l1, h4.l2, h4.nd, fun a m => ⟨none_back e (h4.nw a m).1, (h4.nw a m).2⟩, h4.at_⟩, h5⟩
theorem ea_rows4 {v : V} {i : Nat} (hv : LnR G v p) (h : σ[i]? = some (some v)) : ∃ a b c d : Addr, G a = some (.lst (p.ys.map V.int)) ∧ G b = some (.lst (p.ss.map V.int)) ∧ G c = some (.lst (p.es.map V.int)) ∧ G d = some (.lst (p.ws.map V.int)) ∧
    EF (tCB (Evl.rListS K) (tCons (tOp (rIxL K) (tVar i) (tC (.int 0))) tNil)) σ G (fun v G' => ∃ r : Addr, v = .ref r ∧ G' r = some (.lst (p.ys.map V.int))) ∧ EF (tCB (Evl.rListS K) (tCons (tOp (rIxL K) (tVar i) (tC (.int 1))) tNil)) σ G (fun v G' => ∃ r : Addr, v = .ref r ∧ G' r = some (.lst (p.ss.map V.int))) ∧ EF (tCB (Evl.rListS K) (tCons (tOp (rIxL K) (tVar i) (tC (.int 2))) tNil)) σ G (fun v G' => ∃ r : Addr, v = .ref r ∧ G' r = some (.lst (p.es.map V.int))) ∧ EF (tCB (Evl.rListS K) (tCons (tOp (rIxL K) (tVar i) (tC (.int 3))) tNil)) σ G (fun v G' => ∃ r : Addr, v = .ref r ∧ G' r = some (.lst (p.ws.map V.int))) := by
  obtain ⟨a, b, c, d, y1, y2, y3, y4, rw4⟩ := hv.parts
  exact ⟨a, b, c, d, y1, y2, y3, y4, (ex_listV (rw4 (.refl G) h).1 (Evl.sq_of y1)).imp fun v G' _ ⟨r, h1, _, h2⟩ => ⟨r, h1, h2⟩, (ex_listV (rw4 (.refl G) h).2.1 (Evl.sq_of y2)).imp fun v G' _ ⟨r, h1, _, h2⟩ => ⟨r, h1, h2⟩, (ex_listV (rw4 (.refl G) h).2.2.1 (Evl.sq_of y3)).imp fun v G' _ ⟨r, h1, _, h2⟩ => ⟨r, h1, h2⟩, (ex_listV (rw4 (.refl G) h).2.2.2 (Evl.sq_of y4)).imp fun v G' _ ⟨r, h1, _, h2⟩ => ⟨r, h1, h2⟩⟩
theorem mo_rowV {l : List Int} : Mo (fun v G' => ∃ r : Addr, v = .ref r ∧ G' r = some (.lst (l.map V.int))) := fun v _ _ e ⟨r, h1, h2⟩ => ⟨r, h1, e _ _ h2⟩
theorem ea_rowsL {v : V} {i : Nat} (hv : LnR G v p) (h : σ[i]? = some (some v)) : EA (tCons (tCB (Evl.rListS K) (tCons (tOp (rIxL K) (tVar i) (tC (.int 0))) tNil)) (tCons (tCB (Evl.rListS K) (tCons (tOp (rIxL K) (tVar i) (tC (.int 1))) tNil)) (tCons (tCB (Evl.rListS K) (tCons (tOp (rIxL K) (tVar i) (tC (.int 2))) tNil)) (tCons (tCB (Evl.rListS K) (tCons (tOp (rIxL K) (tVar i) (tC (.int 3))) tNil)) tNil)))) σ G fun vs G' => ∃ a1 a2 a3 a4 : Addr, vs = [.ref a1, .ref a2, .ref a3, .ref a4] ∧ SqL K G' a1 (p.ys.map V.int) ∧ SqL K G' a2 (p.ss.map V.int) ∧ SqL K G' a3 (p.es.map V.int) ∧ SqL K G' a4 (p.ws.map V.int) := by
  obtain ⟨a, b, c, d, y1, y2, y3, y4, e1, e2, e3, e4⟩ := ea_rows4 (K := K) hv h
  exact (ea_four mo_rowV mo_rowV mo_rowV mo_rowV e1 e2 e3 e4).imp fun vs G' _ ⟨x1, x2, x3, x4, ev, ⟨r1, u1, w1⟩, ⟨r2, u2, w2⟩, ⟨r3, u3, w3⟩, ⟨r4, u4, w4⟩⟩ => ⟨r1, r2, r3, r4, by rw [ev, u1, u2, u3, u4], Evl.sq_of w1, Evl.sq_of w2, Evl.sq_of w3, Evl.sq_of w4⟩
theorem el_swp {v : V} {i : Nat} (hv : LnR G v p) (h : σ[i]? = some (some v)) : EF (tLst (tCons (tCB (Evl.rListS K) (tCons (tOp (rIxL K) (tVar i) (tC (.int 0))) tNil)) (tCons (tCB (Evl.rListS K) (tCons (tOp (rIxL K) (tVar i) (tC (.int 1))) tNil)) (tCons (tCB (Evl.rListS K) (tCons (tOp (rIxL K) (tVar i) (tC (.int 3))) tNil)) (tCons (tCB (Evl.rListS K) (tCons (tOp (rIxL K) (tVar i) (tC (.int 2))) tNil)) tNil))))) σ G fun v G' => LnR G' v (swpL p) := by
  obtain ⟨a, b, c, d, y1, y2, y3, y4, e1, e2, e3, e4⟩ := ea_rows4 (K := K) hv h
  exact ef_lst (ea_four mo_rowV mo_rowV mo_rowV mo_rowV e1 e2 e4 e3) (fun vs _ ⟨x, y, z, u, ev, _⟩ => by rw [ev]; simp) fun q vs G' _ _ q1 ⟨x1, x2, x3, x4, ev, ⟨r1, u1, w1⟩, ⟨r2, u2, w2⟩, ⟨r3, u3, w3⟩, ⟨r4, u4, w4⟩⟩ => ⟨q, r1, r2, r3, r4, rfl, by rw [upd_same, ev, u1, u2, u3, u4], ex_in q1 _ _ w1, ex_in q1 _ _ w2, ex_in q1 _ _ w3, ex_in q1 _ _ w4⟩
end
section
variable {P : Program} {w : World} {K : PySem.W.Frag} {mg : Str → Option Value} {base : Heap} {C CT CLn A_BadLine A_BadLength : Addr} {f : Addr} {fd : FuncData}
theorem ok_law (B : Blt mg) (F : Fun K "law" "law" s_law f fd) (Cc : Cal P w K mg base "_law_cell" 1 ["_law_script", "_law_k"] (Lw.spCell K)) (Cp : Cal P w K mg base "_law_parts" 3 ["_law_shape", "_law_sizes"] (spPartsD K)) (Cn : Cal P w K mg base "_law_number" 2 ["_law_parts_here"] (spNumL K)) (Ct : Cal P w K mg base "_law_told" 6 ["_law_single", "_law_named"] (spTldA K C CLn)) (Cr : Cal P w K mg base "_law_is_right" 5 ["_law_parts_here", "_law_told_here", "_law_number_here"] (spRightD K)) (Cy : Cal P w K mg base "_law_stays" 6 ["_law_tables"] (spStayT K))
    (Ck : CalK P w K mg base "count_tables" 3 0 1 [0] ["line"] ["line"] (spCount K C CLn)) (Cs : Cal P w K mg base "_law_same" 4 ["_law_actual", "_law_wanted"] (spSameB K 3))
    (Ci : ∃ fI fdI, Mk K CLn fI ∧ FnOk P w K mg base (L2.CX P w) 9 fI fdI ["self", "yards", "sections", "east", "west"] (spLnI K C CLn A_BadLine A_BadLength) ∧ Binds K fdI ["self", "yards", "sections", "east", "west"] [] ∧ mg "Line" = some (.ref CLn)) : FnOk P w K mg base CX0 11 f fd ["_law_script"] (spLaw K) := by
  obtain ⟨f1, fd1, G_cell, m_cell, k_cell, b_cell⟩ := Cc
  obtain ⟨f3, fd3, G_parts, m_parts, k_parts, b_parts⟩ := Cp
  obtain ⟨f4, fd4, G_number, m_number, k_number, b_number⟩ := Cn
  obtain ⟨f6, fd6, G_told, m_told, k_told, b_told⟩ := Ct
  obtain ⟨f7, fd7, G_is_right, m_is_right, k_is_right, b_is_right⟩ := Cr
  obtain ⟨f8, fd8, G_stays, m_stays, k_stays, b_stays⟩ := Cy
  obtain ⟨f5, fd5, G_count_tables, m_count_tables, k_count_tables, b_count_tables, bk_count_tables⟩ := Ck
  obtain ⟨fb, fdb, G_same, m_same, k_same, b_same⟩ := Cs
  obtain ⟨fI, fdI, M_Line, G_lninit, b_lninit, m_Line⟩ := Ci
  have m_list := B.list
  refine F.ok sc_law (fun vs H Q E h => ?_) (fun cdv A outer s H vs Q E hr h => ?_)
  · obtain ⟨a, ns, rfl, _⟩ := h
    rfl
  · obtain ⟨s', ss, rfl, hS, hss, k⟩ := h
    refine ⟨_, (pss_cons (ps_set (i := 1) sc_law.nd rfl (by first | exact Or.inl rfl | exact Or.inr rfl) (pe_call G_parts (hr.mono (by decide)) rfl m_parts k_parts b_parts .nil pass0 (pa_cons (pe_call G_cell (hr.mono (by decide)) rfl m_cell k_cell b_cell .nil pass0 (pa_cons (pv 0) (pa_cons pe_int pa_nil))) (pa_cons (pe_call G_cell (hr.mono (by decide)) rfl m_cell k_cell b_cell .nil pass0 (pa_cons (pv 0) (pa_cons pe_int pa_nil))) pa_nil))))
 (pss_cons (ps_set (i := 2) sc_law.nd rfl (by first | exact Or.inl rfl | exact Or.inr rfl) (pe_lst (pa_cons (pe_callTy call_list_of (by rfl) m_list (by decide +kernel) (pa_cons (pe_ix ix_list (pv 1) pe_int (fun _ _ => rfl)) pa_nil)) (pa_cons (pe_callTy call_list_of (by rfl) m_list (by decide +kernel) (pa_cons (pe_ix ix_list (pv 1) pe_int (fun _ _ => rfl)) pa_nil)) (pa_cons (pe_callTy call_list_of (by rfl) m_list (by decide +kernel) (pa_cons (pe_ix ix_list (pv 1) pe_int (fun _ _ => rfl)) pa_nil)) (pa_cons (pe_callTy call_list_of (by rfl) m_list (by decide +kernel) (pa_cons (pe_ix ix_list (pv 1) pe_int (fun _ _ => rfl)) pa_nil)) pa_nil))))))
 (pss_cons (ps_set (i := 3) sc_law.nd rfl (by first | exact Or.inl rfl | exact Or.inr rfl) (pe_call G_number (hr.mono (by decide)) rfl m_number k_number b_number .nil pass0 (pa_cons (pv 1) pa_nil)))
 (pss_cons (ps_set (i := 4) sc_law.nd rfl (by first | exact Or.inl rfl | exact Or.inr rfl) (pe_call G_number (hr.mono (by decide)) rfl m_number k_number b_number .nil pass0 (pa_cons (pv 2) pa_nil)))
 (pss_cons (ps_set (i := 5) sc_law.nd rfl (by first | exact Or.inl rfl | exact Or.inr rfl) (pe_make M_Line G_lninit (hr.mono (by decide)) rfl m_Line b_lninit .nil passL (pa_cons (pe_callTy call_list_of (by rfl) m_list (by decide +kernel) (pa_cons (pe_ix ix_list (pv 1) pe_int (fun _ _ => rfl)) pa_nil)) (pa_cons (pe_callTy call_list_of (by rfl) m_list (by decide +kernel) (pa_cons (pe_ix ix_list (pv 1) pe_int (fun _ _ => rfl)) pa_nil)) (pa_cons (pe_callTy call_list_of (by rfl) m_list (by decide +kernel) (pa_cons (pe_ix ix_list (pv 1) pe_int (fun _ _ => rfl)) pa_nil)) (pa_cons (pe_callTy call_list_of (by rfl) m_list (by decide +kernel) (pa_cons (pe_ix ix_list (pv 1) pe_int (fun _ _ => rfl)) pa_nil)) pa_nil))))))
 (pss_cons (ps_set (i := 6) sc_law.nd rfl (by first | exact Or.inl rfl | exact Or.inr rfl) (pe_make M_Line G_lninit (hr.mono (by decide)) rfl m_Line b_lninit .nil passL (pa_cons (pe_callTy call_list_of (by rfl) m_list (by decide +kernel) (pa_cons (pe_ix ix_list (pv 2) pe_int (fun _ _ => rfl)) pa_nil)) (pa_cons (pe_callTy call_list_of (by rfl) m_list (by decide +kernel) (pa_cons (pe_ix ix_list (pv 2) pe_int (fun _ _ => rfl)) pa_nil)) (pa_cons (pe_callTy call_list_of (by rfl) m_list (by decide +kernel) (pa_cons (pe_ix ix_list (pv 2) pe_int (fun _ _ => rfl)) pa_nil)) (pa_cons (pe_callTy call_list_of (by rfl) m_list (by decide +kernel) (pa_cons (pe_ix ix_list (pv 2) pe_int (fun _ _ => rfl)) pa_nil)) pa_nil))))))
 (pss_cons (ps_if (pt_not (pt_val (pe_call G_same (hr.mono (by decide)) rfl m_same k_same b_same .nil pass0 (pa_cons (pe_call G_count_tables (hr.mono (by decide)) rfl m_count_tables k_count_tables b_count_tables .nil pass0 (pa_cons (pv 5) pa_nil)) (pa_cons (pv 3) pa_nil)))))
 (pss_one (ps_ret pe_bl)) pss_nil)
 (pss_cons (ps_set (i := 7) sc_law.nd rfl (by first | exact Or.inl rfl | exact Or.inr rfl) (pe_call G_told (hr.mono (by decide)) rfl m_told k_told b_told .nil pass0 (pa_cons (pv 5) (pa_cons pe_bl pa_nil))))
 (pss_cons (ps_if (pt_not (pt_val (pe_call G_is_right (hr.mono (by decide)) rfl m_is_right k_is_right b_is_right .nil pass0 (pa_cons (pv 1) (pa_cons (pv 7) (pa_cons (pv 3) pa_nil))))))
 (pss_one (ps_ret pe_bl)) pss_nil)
 (pss_cons (ps_if (PW.pt (pw_and (pt_cmpR op_le (pv 3) pe_int (nomark _)) (pw_and1 (pt_not (pt_val (pe_call G_stays (hr.mono (by decide)) rfl m_stays k_stays b_stays .nil pass0 (pa_cons (pe_ix ix_tup (pv 7) pe_int (fun _ _ => rfl)) pa_nil)))))))
 (pss_one (ps_ret pe_bl)) pss_nil)
 (pss_cons (ps_if (PW.pt (pw_or (pt_not (pt_val (pe_call G_same (hr.mono (by decide)) rfl m_same k_same b_same .nil pass0 (pa_cons (pe_call G_count_tables (hr.mono (by decide)) rfl m_count_tables k_count_tables b_count_tables .nil pass0 (pa_cons (pv 6) pa_nil)) (pa_cons (pv 4) pa_nil))))) (pw_or1 (pt_not (pt_val (pe_call G_is_right (hr.mono (by decide)) rfl m_is_right k_is_right b_is_right .nil pass0 (pa_cons (pv 2) (pa_cons (pe_call G_told (hr.mono (by decide)) rfl m_told k_told b_told .nil pass0 (pa_cons (pv 6) (pa_cons pe_bl pa_nil))) (pa_cons (pv 4) pa_nil)))))))))
 (pss_one (ps_ret pe_bl)) pss_nil)
 (pss_cons (ps_if (pt_not (pt_val (pe_call G_same (hr.mono (by decide)) rfl m_same k_same b_same .nil pass0 (pa_cons (pe_callK0 G_count_tables (hr.mono (by decide)) rfl m_count_tables k_count_tables bk_count_tables pass0 (pk_cons (pv 5) pk_nil)) (pa_cons (pv 3) pa_nil)))))
 (pss_one (ps_ret pe_bl)) pss_nil)
 (pss_one (ps_ret (pe_call G_is_right (hr.mono (by decide)) rfl m_is_right k_is_right b_is_right .nil pass0 (pa_cons (pv 1) (pa_cons (pe_call G_told (hr.mono (by decide)) rfl m_told k_told b_told .nil pass0 (pa_cons (pv 5) (pa_cons pe_bl pa_nil))) (pa_cons (pv 3) pa_nil)))))))))))))))))), ?_⟩
    have cellv : ∀ {j : Int} {σ : L2.St} {G' : Hp}, Ex H G' → σ[0]? = some (some (.ref s')) → 0 ≤ j → j < 1000 → EF (tCall (Lw.spCell K) [] E0 (tCons (tVar 0) (tCons (tC (.int j)) tNil))) σ G' (IV fun _ => True) := fun e h h0 h1 => ex_call2 (ex_var h) ex_c fun G2 e2 => sa_cell (Evl.ex_l (e.trans e2) hS) hss h0 h1
    refine st_asg (P := fun v G' => ∃ p : Ln, p.err = none ∧ LnR G' v p) (Ex.refl H) (ef_call (ea_two mo_IV mo_IV (cellv (.refl H) rfl (by omega) (by omega)) (cellv (.refl H) rfl (by omega) (by omega))) fun vs G' e ⟨x, y, ev, ⟨a, ex, _⟩, ⟨b, ey, _⟩⟩ => by
      rw [ev, ex, ey]
      exact sa_partsD) fun v1 G1 H1 g1 p1 => ?_
    obtain ⟨p, he, hv⟩ := p1
    have hes := swp_ok he
    have hv1 := hv.ex g1.ok
    dsimp only
    refine st_asg (G := H1) (P := fun v G' => LnR G' v (swpL p)) (Ex.refl _) (el_swp hv1 rfl) fun v2 G2 H2 g2 p2 => ?_
    have hv2 := hv1.ex g2.hp
    have hw2 := p2.ex g2.ok
    dsimp only
    refine st_asg (G := H2) (P := XV (.int (p.count : Int))) (Ex.refl _) (ef_call (ea_x (ex_var (v := v1) rfl) ea_nil) fun vs G' e ev => by rw [ev]; exact sa_numL (hv2.ex e) he) fun v3 G3 H3 g3 p3 => ?_
    cases (show v3 = _ from p3)
    have hv3 := hv2.ex g3.hp
    have hw3 := hw2.ex g3.hp
    dsimp only
    refine st_asg (G := H3) (P := XV (.int ((swpL p).count : Int))) (Ex.refl _) (ef_call (ea_x (ex_var (v := v2) rfl) ea_nil) fun vs G' e ev => by rw [ev]; exact sa_numL (hw3.ex e) hes) fun v4 G4 H4 g4 p4 => ?_
    cases (show v4 = _ from p4)
    have hv4 := hv3.ex g4.hp
    have hw4 := hw3.ex g4.hp
    dsimp only
    refine st_raw ?_
    refine nw_lineM (K := K) (C := C) (p := p) (Ex.refl H4) (ea_rowsL hv4 rfl) (ln_len he) he fun x G5 H5 g5 hLx => ?_
    have hv5 := hv4.ex g5.hp
    have hw5 := hw4.ex g5.hp
    have hx5 := hLx.ex g5.ok
    dsimp only [gName]
    refine st_raw ?_
    refine nw_lineM (K := K) (C := C) (p := swpL p) (Ex.refl H5) (ea_rowsL hw5 rfl) (ln_len hes) hes fun y G6 H6 g6 hLy => ?_
    have hv6 := hv5.ex g6.hp
    have hw6 := hw5.ex g6.hp
    have hx6 := hx5.ex g6.hp
    have hy6 := hLy.ex g6.ok
    dsimp only [gName]
    have cnt : ∀ {σ : L2.St} {G' : Hp} {i : Nat}, Ex H6 G' → σ[i]? = some (some (.ref x)) → EF (tCall (spCount K C CLn) [] E0 (tCons (tVar i) tNil)) σ G' (DV K (.int (p.count : Int))) := fun e h => EF.dv (ef_call (ea_x (ex_var h) ea_nil) fun vs G' e2 ev => by rw [ev]; exact sa_count (hx6.ex (e.trans e2)) he) (.int _)
    refine st_if0 (G := H6) (Ex.refl _) (et_same (d := .int (p.count : Int)) (cnt (.refl _) rfl) (EF.dv (ex_var (v := .int (p.count : Int)) rfl) (.int _)) okb_int) fun H7 e7 => ?_
    have hv7 := hv6.ex e7
    dsimp only [tNext]
    have tld : ∀ {σ : L2.St} {H' : Hp} {i : Nat} {b : Bool} {z : Addr} {q : Ln}, LinC K C CLn H' z q → q.err = none → σ[i]? = some (some (.ref z)) → EF (tCall (spTldA K C CLn) [] E0 (tCons (tVar i) (tCons (tC (.bl b)) tNil))) σ H' (ToldA K H' q) := fun {σ H' i b z q} hz hq h => ef_call (ea_x (ex_var h) (ea_x ex_c ea_nil)) fun vs G' e ev => by
      rw [ev]
      exact fun H eH Q E r => sa_tldA (hz.ex e) hq H eH Q E fun v G2 H2 g hT => r v G2 H2 g (hT.low e)
    refine st_asg (G := H7) (P := ToldA K H7 p) (.refl _) (tld (hx6.ex e7) he rfl) fun v8 G8 H8 g8 p8 => ?_
    have p8 := p8.ex g8.ok
    have e78 := g8.hp
    dsimp only
    refine st_if0 (G := H8) (.refl _) (et_not (et_B (EF.bl (ef_call (P := XV (.bl true)) (ea_x (ex_var (v := v1) rfl) (ea_x (ex_var (v := v8) rfl) (ea_x (ex_var (v := .int (p.count : Int)) rfl) ea_nil))) fun vs G' e ev => by rw [ev]; exact sa_rightD (hv7.ex (e78.trans e)) he (p8.ex e)) rfl))) fun H9 e9 => ?_
    have p9 := p8.ex e9
    have e79 := e78.trans e9
    dsimp only [tNext]
    refine st_ifAnd (G := H9) (p := (· = decide ((p.count : Int) ≤ 200))) (fun H' => Ex H7 H') (.refl _) (et_test (EF.bl (ex_bI (f := fun i j => decide (i ≤ j)) (ex_var (v := .int (p.count : Int)) rfl) (ex_c (v := .int 200))) rfl)) (fun _ H' e => e79.trans e) (fun hc H' e R hR => ?_) fun H' e7' => ?_
    · have hc := of_decide_eq_true hc.symm
      rcases p9.ex e with ⟨hc2, _⟩ | ⟨_, t, pa, ps, rss, rfl, ht, hpa, hB, hni⟩
      · omega
      obtain ⟨q1, q2, q3, q4, q5, hall⟩ := Ln.ok_shape he
      have hfew : 1 ≤ p.tables.length := by
        rw [tables_len]
        have := tblN_few (p := p) p.es.length 0 (by omega)
        exact this
      have hA : EA (tCons (tOp (rIxT K) (tVar 7) (tC (.int 1))) tNil) [some (.ref s'), some v1, some v2, some (.int (p.count : Int)), some (.int ((swpL p).count : Int)), some (.ref x), some (.ref y), some (.ref t)] H' (fun vs _ => vs = [.ref pa]) := ea_x (ex_ixT (i := 1) (ex_var (v := .ref t) rfl) (ex_c (v := .int 1)) (Evl.st_of ht) rfl) ea_nil
      refine tb_not (hA H' (.refl _) _ fun vs G' H2 g ev => ?_)
      rw [ev]
      exact ⟨H7, pa, ps, rss, p.tables, e79.trans (e.trans g.hp), rfl, g.hp _ _ hpa, hB.ex g.hp, hni, hfew, by rw [tables_len]; omega, fun T hT => ⟨by rw [(tblN_ok hT).1]; omega, fun r m => by
        obtain ⟨j, hj⟩ := List.getElem?_of_mem m
        rw [tab_wid hT hj]; omega⟩, fun H3 e3 => ⟨true, rfl, hR H3 e3⟩⟩
    have hw := hw6.ex (e7.trans e7')
    have hv' := hv7.ex e7'
    have hx' := hx6.ex (e7.trans e7')
    have hy' := hy6.ex (e7.trans e7')
    dsimp only [tNext]
    refine st_if0 (G := H') (.refl _) (et_or (p := (· = false)) (q := (· = false)) (et_same (d := .int ((swpL p).count : Int)) (EF.dv (ef_call (ea_x (ex_var (v := .ref y) rfl) ea_nil) fun vs G' e2 ev => by rw [ev]; exact sa_count (hy'.ex e2) hes) (.int _)) (EF.dv (ex_var (v := .int ((swpL p).count : Int)) rfl) (.int _)) okb_int) (fun _ => et_not (et_B (EF.bl (ef_call (P := XV (.bl true)) (R := fun vs G' => ∃ a b c, vs = [a, b, c] ∧ XV v2 a G' ∧ ToldA K H' (swpL p) b G' ∧ XV (.int ((swpL p).count : Int)) c G') (ea_three mo_XV (fun _ _ _ e h => h.ex e) mo_XV (ex_var (v := v2) rfl) (tld hy' hes rfl) (ex_var (v := .int ((swpL p).count : Int)) rfl)) fun vs G' e ⟨a, b, c, ev, ha, hb, hc⟩ => by
      rw [ev, show a = v2 from ha, show c = _ from hc]
      exact sa_rightD (hw.ex e) hes hb) rfl))) (fun h => nomatch h) fun _ b hb => hb) fun Ha ea => ?_
    dsimp only [tNext]
    refine st_if0 (G := Ha) (Ex.refl _) (et_same (d := .int (p.count : Int)) (EF.dv (ef_callK0 (R := fun vs _ => vs = [.ref x]) (ea_x (ex_var (v := .ref x) rfl) ea_nil) fun zs G' e ev => by
      rw [ev]
      exact sa_count (hx'.ex (ea.trans e)) he) (.int _)) (EF.dv (ex_var (v := .int (p.count : Int)) rfl) (.int _)) okb_int) fun Hb eb => ?_
    have eab := ea.trans eb
    dsimp only [tNext]
    refine st_ret (G := Hb) (P := XV (.bl true)) (Ex.refl _) (ef_call (R := fun vs G' => ∃ a b c, vs = [a, b, c] ∧ XV v1 a G' ∧ ToldA K Hb p b G' ∧ XV (.int (p.count : Int)) c G') (ea_three mo_XV (fun _ _ _ e h => h.ex e) mo_XV (ex_var (v := v1) rfl) (tld (hx'.ex eab) he rfl) (ex_var (v := .int (p.count : Int)) rfl)) fun vs G' e ⟨a, b, c, ev, ha, hb, hc⟩ => by
      rw [ev, show a = v1 from ha, show c = _ from hc]
      exact sa_rightD (hv'.ex (eab.trans e)) he hb) fun v G' H' g pv => by rw [show v = _ from pv]; exact k H'
end
end Kx
set_option maxHeartbeats 0
namespace Kx
open PySem PySem.Spec L2 Lw
theorem facts {l : PySem.W.OpenLaw} {w : World} {K : PySem.W.Frag} {h : Heap} {mg : Str → Option Value} {fa : Addr} (X : K.In h) (G : h.Ns mainGlobals mg) (hfa : mg ("law" : Str) = some (.ref fa)) (c : SaysN fnL chkA K) :
    ∃ fd : FuncData, (∀ (s : Shared) (v : Value), BindsTo s fd ⟨[v], []⟩ [("_law_script", v)]) ∧ ∀ base : Heap, K.In base → base.Ns mainGlobals mg → FnOk l.prog w K mg base CX0 11 fa fd ["_law_script"] (spLaw K) := by
  have hA : ((chk0 K).all id && (chk1 K).all id && (chk2 K).all id && (chk3 K).all id && (chk4 K).all id) = true := c.more
  simp only [Bool.and_eq_true] at hA
  obtain ⟨⟨⟨⟨h0, h1⟩, h2⟩, h3⟩, h4⟩ := hA
  have pg_Layout : PySem.W.plainGet K (He.ga K "Layout") Str.empty = true := chk_dec h0 0 rfl
  have hd_Layout : PySem.W.hasDictIn K (He.ga K "Layout") = true := chk_dec h0 1 rfl
  have po_Layout : PySem.W.plainOver K (He.ga K "Layout") = true := chk_dec h0 2 rfl
  have sa_Layout : PySem.W.findIn K (.ref (He.ga K "Layout")) "__setattr__" = some (some (.builtin "object.__setattr__")) := chk_dec h0 3 rfl
  have n_Layout_size : PySem.W.findIn K (.ref (He.ga K "Layout")) "size" = some none := chk_dec h0 4 rfl
  have n_Layout__lengths : PySem.W.findIn K (.ref (He.ga K "Layout")) "_lengths" = some none := chk_dec h0 5 rfl
  have n_Layout__yard_marks : PySem.W.findIn K (.ref (He.ga K "Layout")) "_yard_marks" = some none := chk_dec h0 6 rfl
  have n_Layout__east : PySem.W.findIn K (.ref (He.ga K "Layout")) "_east" = some none := chk_dec h0 7 rfl
  have n_Layout__west : PySem.W.findIn K (.ref (He.ga K "Layout")) "_west" = some none := chk_dec h0 8 rfl
  have a_Layout_contains : PySem.W.findIn K (.ref (He.ga K "Layout")) "__contains__" = some (some (.ref (He.ma K (He.ga K "Layout") "__contains__"))) := chk_dec h0 9 rfl
  have i_Layout_contains : PySem.W.isFn K (.ref (He.ma K (He.ga K "Layout") "__contains__")) = true := chk_dec h0 10 rfl
  have a_NoBlock : PySem.W.nsIn K mainGlobals "NoBlock" = some (some (.ref (He.ga K "NoBlock"))) := chk_dec h0 11 rfl
  have eC_NoBlock : PySem.W.subIn K (.ref (He.ga K "NoBlock")) (.type "BaseException") = some true := chk_dec h0 12 rfl
  have ga_NoBlock : PySem.W.findIn K (.ref (He.ga K "NoBlock")) "__getattribute__" = some (some (.builtin "BaseException.__getattribute__")) := chk_dec h0 13 rfl
  have gg_NoBlock : PySem.W.findIn K (.ref (He.ga K "NoBlock")) "__getattr__" = some none := chk_dec h0 14 rfl
  have hC_NoBlock : PySem.W.hasDictIn K (He.ga K "NoBlock") = true := chk_dec h0 15 rfl
  have ca_NoBlock : PySem.W.findIn K (.ref (He.ga K "NoBlock")) "__class__" = some (some (.builtin "object.__class__")) := chk_dec h0 16 rfl
  have cm_NoBlock : PySem.W.mroIn K (He.ga K "NoBlock") (.type "object") = some true := chk_dec h0 17 rfl
  have oc_n : PySem.W.specialIn K (.builtin "object.__class__") "__get__" = some (some (.builtin "getset_descriptor.__get__")) := chk_dec h0 18 rfl
  have oc_t : PySem.W.takesIn K (.builtin "object.__class__") = some true := chk_dec h0 19 rfl
  have te_NoBlock : PySem.W.exmOne K (.ref (He.ga K "NoBlock")) (.ref (He.ga K "NoBlock")) = some true := chk_dec h0 20 rfl
  have no_NoBlock_block : PySem.W.findIn K (.ref (He.ga K "NoBlock")) "block" = some none := chk_dec h0 21 rfl
  have a_RailError : PySem.W.nsIn K mainGlobals "RailError" = some (some (.ref (He.ga K "RailError"))) := chk_dec h0 22 rfl
  have ex_NoBlock : Lw.exoB K (He.ga K "NoBlock") [.ref (He.ga K "RailError"), .type "ValueError", .type "Exception", .type "BaseException", .type "object"] = true := chk_at h0 23 rfl
  have sa_NoBlock : PySem.W.findIn K (.ref (He.ga K "NoBlock")) "__setattr__" = some (some (.builtin "object.__setattr__")) := chk_dec h0 24 rfl
  have tC_NoBlock : PySem.W.typeIn K (.ref (He.ga K "NoBlock")) = some (.type "type") := chk_dec h0 25 rfl
  have kC_NoBlock : PySem.W.keepIn K (.ref (He.ga K "NoBlock")) = true := chk_dec h0 26 rfl
  have a_NoBlock_init : PySem.W.findIn K (.ref (He.ga K "NoBlock")) "__init__" = some (some (.ref (He.ma K (He.ga K "NoBlock") "__init__"))) := chk_dec h0 27 rfl
  have t_NoBlock_init : PySem.W.typeIn K (.ref (He.ma K (He.ga K "NoBlock") "__init__")) = some (.type "function") := chk_dec h0 28 rfl
  have a_check_block : PySem.W.nsIn K mainGlobals "check_block" = some (some (.ref (He.ga K "check_block"))) := chk_dec h0 29 rfl
  have a_check_blocks : PySem.W.nsIn K mainGlobals "check_blocks" = some (some (.ref (He.ga K "check_blocks"))) := chk_dec h0 30 rfl
  have z_len : PySem.W.nsIn K mainGlobals "len" = some none := chk_dec h0 31 rfl
  have z_abs : PySem.W.nsIn K mainGlobals "abs" = some none := chk_dec h0 32 rfl
  have z_min : PySem.W.nsIn K mainGlobals "min" = some none := chk_dec h0 33 rfl
  have z_range : PySem.W.nsIn K mainGlobals "range" = some none := chk_dec h0 34 rfl
  have z_int : PySem.W.nsIn K mainGlobals "int" = some none := chk_dec h0 35 rfl
  have z_str : PySem.W.nsIn K mainGlobals "str" = some none := chk_dec h0 36 rfl
  have z_bool : PySem.W.nsIn K mainGlobals "bool" = some none := chk_dec h0 37 rfl
  have z_list : PySem.W.nsIn K mainGlobals "list" = some none := chk_dec h0 38 rfl
  have z_tuple : PySem.W.nsIn K mainGlobals "tuple" = some none := chk_dec h0 39 rfl
  have z_sorted : PySem.W.nsIn K mainGlobals "sorted" = some none := chk_dec h1 0 rfl
  have z_isinstance : PySem.W.nsIn K mainGlobals "isinstance" = some none := chk_dec h1 1 rfl
  have a_Layout_joints : PySem.W.findIn K (.ref (He.ga K "Layout")) "joints" = some (some (.ref (He.ma K (He.ga K "Layout") "joints"))) := chk_dec h1 2 rfl
  have i_Layout_joints : PySem.W.isFn K (.ref (He.ma K (He.ga K "Layout") "joints")) = true := chk_dec h1 3 rfl
  have a_Layoutadd_joint : PySem.W.findIn K (.ref (He.ga K "Layout")) "_add_joint" = some (some (.ref (He.ma K (He.ga K "Layout") "_add_joint"))) := chk_dec h1 4 rfl
  have i_Layoutadd_joint : PySem.W.isFn K (.ref (He.ma K (He.ga K "Layout") "_add_joint")) = true := chk_dec h1 5 rfl
  have a_Layout : PySem.W.nsIn K mainGlobals "Layout" = some (some (.ref (He.ga K "Layout"))) := chk_dec h1 6 rfl
  have mk_Layout : PySem.W.makesIn K (He.ga K "Layout") = true := chk_dec h1 7 rfl
  have ini_Layout : PySem.W.findIn K (.ref (He.ga K "Layout")) "__init__" = some (some (.ref (He.ma K (He.ga K "Layout") "__init__"))) := chk_dec h1 8 rfl
  have isf_Layout_init : PySem.W.isFn K (.ref (He.ma K (He.ga K "Layout") "__init__")) = true := chk_dec h1 9 rfl
  have kc_Layout : PySem.W.keepIn K (.ref (He.ga K "Layout")) = true := chk_dec h1 10 rfl
  have a__law_cell : PySem.W.nsIn K mainGlobals "_law_cell" = some (some (.ref (He.ga K "_law_cell"))) := chk_dec h1 11 rfl
  have a__law_draw : PySem.W.nsIn K mainGlobals "_law_draw" = some (some (.ref (He.ga K "_law_draw"))) := chk_dec h1 12 rfl
  have z_reversed : PySem.W.nsIn K mainGlobals "reversed" = some none := chk_dec h1 13 rfl
  have a__law_near : PySem.W.nsIn K mainGlobals "_law_near" = some (some (.ref (He.ga K "_law_near"))) := chk_dec h1 14 rfl
  have a__law_parts : PySem.W.nsIn K mainGlobals "_law_parts" = some (some (.ref (He.ga K "_law_parts"))) := chk_dec h1 15 rfl
  have a__law_meets : PySem.W.nsIn K mainGlobals "_law_meets" = some (some (.ref (He.ga K "_law_meets"))) := chk_dec h1 16 rfl
  have z_sum : PySem.W.nsIn K mainGlobals "sum" = some none := chk_dec h1 17 rfl
  have z_dict : PySem.W.nsIn K mainGlobals "dict" = some none := chk_dec h1 18 rfl
  have a__law_number : PySem.W.nsIn K mainGlobals "_law_number" = some (some (.ref (He.ga K "_law_number"))) := chk_dec h1 19 rfl
  have a__law_is_good : PySem.W.nsIn K mainGlobals "_law_is_good" = some (some (.ref (He.ga K "_law_is_good"))) := chk_dec h1 20 rfl
  have pg_Train : PySem.W.plainGet K (He.ga K "Train") Str.empty = true := chk_dec h1 21 rfl
  have hd_Train : PySem.W.hasDictIn K (He.ga K "Train") = true := chk_dec h1 22 rfl
  have po_Train : PySem.W.plainOver K (He.ga K "Train") = true := chk_dec h1 23 rfl
  have sa_Train : PySem.W.findIn K (.ref (He.ga K "Train")) "__setattr__" = some (some (.builtin "object.__setattr__")) := chk_dec h1 24 rfl
  have n_Train__way : PySem.W.findIn K (.ref (He.ga K "Train")) "_way" = some none := chk_dec h1 25 rfl
  have n_Train__step_at : PySem.W.findIn K (.ref (He.ga K "Train")) "_step_at" = some none := chk_dec h1 26 rfl
  have n_Train_length : PySem.W.findIn K (.ref (He.ga K "Train")) "length" = some none := chk_dec h1 27 rfl
  have n_Train_steps : PySem.W.findIn K (.ref (He.ga K "Train")) "steps" = some none := chk_dec h1 28 rfl
  have n_Train_last : PySem.W.findIn K (.ref (He.ga K "Train")) "last" = some none := chk_dec h1 29 rfl
  have a_BadWay : PySem.W.nsIn K mainGlobals "BadWay" = some (some (.ref (He.ga K "BadWay"))) := chk_dec h1 30 rfl
  have eC_BadWay : PySem.W.subIn K (.ref (He.ga K "BadWay")) (.type "BaseException") = some true := chk_dec h1 31 rfl
  have ga_BadWay : PySem.W.findIn K (.ref (He.ga K "BadWay")) "__getattribute__" = some (some (.builtin "BaseException.__getattribute__")) := chk_dec h1 32 rfl
  have gg_BadWay : PySem.W.findIn K (.ref (He.ga K "BadWay")) "__getattr__" = some none := chk_dec h1 33 rfl
  have hC_BadWay : PySem.W.hasDictIn K (He.ga K "BadWay") = true := chk_dec h1 34 rfl
  have ca_BadWay : PySem.W.findIn K (.ref (He.ga K "BadWay")) "__class__" = some (some (.builtin "object.__class__")) := chk_dec h1 35 rfl
  have cm_BadWay : PySem.W.mroIn K (He.ga K "BadWay") (.type "object") = some true := chk_dec h1 36 rfl
  have te_BadWay : PySem.W.exmOne K (.ref (He.ga K "BadWay")) (.ref (He.ga K "BadWay")) = some true := chk_dec h1 37 rfl
  have no_BadWay_at : PySem.W.findIn K (.ref (He.ga K "BadWay")) "at" = some none := chk_dec h1 38 rfl
  have ex_BadWay : Lw.exoB K (He.ga K "BadWay") [.ref (He.ga K "RailError"), .type "ValueError", .type "Exception", .type "BaseException", .type "object"] = true := chk_at h1 39 rfl
  have sa_BadWay : PySem.W.findIn K (.ref (He.ga K "BadWay")) "__setattr__" = some (some (.builtin "object.__setattr__")) := chk_dec h2 0 rfl
  have tC_BadWay : PySem.W.typeIn K (.ref (He.ga K "BadWay")) = some (.type "type") := chk_dec h2 1 rfl
  have kC_BadWay : PySem.W.keepIn K (.ref (He.ga K "BadWay")) = true := chk_dec h2 2 rfl
  have a_BadWay_init : PySem.W.findIn K (.ref (He.ga K "BadWay")) "__init__" = some (some (.ref (He.ma K (He.ga K "BadWay") "__init__"))) := chk_dec h2 3 rfl
  have t_BadWay_init : PySem.W.typeIn K (.ref (He.ma K (He.ga K "BadWay") "__init__")) = some (.type "function") := chk_dec h2 4 rfl
  have a_BadLength : PySem.W.nsIn K mainGlobals "BadLength" = some (some (.ref (He.ga K "BadLength"))) := chk_dec h2 5 rfl
  have eC_BadLength : PySem.W.subIn K (.ref (He.ga K "BadLength")) (.type "BaseException") = some true := chk_dec h2 6 rfl
  have ga_BadLength : PySem.W.findIn K (.ref (He.ga K "BadLength")) "__getattribute__" = some (some (.builtin "BaseException.__getattribute__")) := chk_dec h2 7 rfl
  have gg_BadLength : PySem.W.findIn K (.ref (He.ga K "BadLength")) "__getattr__" = some none := chk_dec h2 8 rfl
  have hC_BadLength : PySem.W.hasDictIn K (He.ga K "BadLength") = true := chk_dec h2 9 rfl
  have ca_BadLength : PySem.W.findIn K (.ref (He.ga K "BadLength")) "__class__" = some (some (.builtin "object.__class__")) := chk_dec h2 10 rfl
  have cm_BadLength : PySem.W.mroIn K (He.ga K "BadLength") (.type "object") = some true := chk_dec h2 11 rfl
  have te_BadLength : PySem.W.exmOne K (.ref (He.ga K "BadLength")) (.ref (He.ga K "BadLength")) = some true := chk_dec h2 12 rfl
  have no_BadLength_length : PySem.W.findIn K (.ref (He.ga K "BadLength")) "length" = some none := chk_dec h2 13 rfl
  have ex_BadLength : Lw.exoB K (He.ga K "BadLength") [.ref (He.ga K "RailError"), .type "ValueError", .type "Exception", .type "BaseException", .type "object"] = true := chk_at h2 14 rfl
  have sa_BadLength : PySem.W.findIn K (.ref (He.ga K "BadLength")) "__setattr__" = some (some (.builtin "object.__setattr__")) := chk_dec h2 15 rfl
  have tC_BadLength : PySem.W.typeIn K (.ref (He.ga K "BadLength")) = some (.type "type") := chk_dec h2 16 rfl
  have kC_BadLength : PySem.W.keepIn K (.ref (He.ga K "BadLength")) = true := chk_dec h2 17 rfl
  have a_BadLength_init : PySem.W.findIn K (.ref (He.ga K "BadLength")) "__init__" = some (some (.ref (He.ma K (He.ga K "BadLength") "__init__"))) := chk_dec h2 18 rfl
  have t_BadLength_init : PySem.W.typeIn K (.ref (He.ma K (He.ga K "BadLength") "__init__")) = some (.type "function") := chk_dec h2 19 rfl
  have a_Train : PySem.W.nsIn K mainGlobals "Train" = some (some (.ref (He.ga K "Train"))) := chk_dec h2 20 rfl
  have mk_Train : PySem.W.makesIn K (He.ga K "Train") = true := chk_dec h2 21 rfl
  have ini_Train : PySem.W.findIn K (.ref (He.ga K "Train")) "__init__" = some (some (.ref (He.ma K (He.ga K "Train") "__init__"))) := chk_dec h2 22 rfl
  have isf_Train_init : PySem.W.isFn K (.ref (He.ma K (He.ga K "Train") "__init__")) = true := chk_dec h2 23 rfl
  have kc_Train : PySem.W.keepIn K (.ref (He.ga K "Train")) = true := chk_dec h2 24 rfl
  have a_Train_blocks : PySem.W.findIn K (.ref (He.ga K "Train")) "blocks" = some (some (.ref (He.ma K (He.ga K "Train") "blocks"))) := chk_dec h2 25 rfl
  have i_Train_blocks : PySem.W.isFn K (.ref (He.ma K (He.ga K "Train") "blocks")) = true := chk_dec h2 26 rfl
  have z_max : PySem.W.nsIn K mainGlobals "max" = some none := chk_dec h2 27 rfl
  have a_SECTION_LIMIT : PySem.W.nsIn K mainGlobals "SECTION_LIMIT" = some (some (.int 6 (tkI K "SECTION_LIMIT"))) := chk_dec h2 28 rfl
  have a_TRAIN_LIMIT : PySem.W.nsIn K mainGlobals "TRAIN_LIMIT" = some (some (.int 4 (tkI K "TRAIN_LIMIT"))) := chk_dec h2 29 rfl
  have a_BadLine : PySem.W.nsIn K mainGlobals "BadLine" = some (some (.ref (He.ga K "BadLine"))) := chk_dec h2 30 rfl
  have eC_BadLine : PySem.W.subIn K (.ref (He.ga K "BadLine")) (.type "BaseException") = some true := chk_dec h2 31 rfl
  have e0_BadLine : PySem.W.excIn K (He.ga K "BadLine") [.type "ValueError", .type "Exception", .type "BaseException", .type "object"] "ValueError.__new__" = true := chk_dec h2 32 rfl
  have k0_BadLine : PySem.W.keepIn K (.ref (He.ga K "BadLine")) = true := chk_dec h2 33 rfl
  have t0_BadLine : PySem.W.typeIn K (.ref (He.ga K "BadLine")) = some (.type "type") := chk_dec h2 34 rfl
  have a__check_line : PySem.W.nsIn K mainGlobals "_check_line" = some (some (.ref (He.ga K "_check_line"))) := chk_dec h2 35 rfl
  have pg_Line : PySem.W.plainGet K (He.ga K "Line") Str.empty = true := chk_dec h2 36 rfl
  have hd_Line : PySem.W.hasDictIn K (He.ga K "Line") = true := chk_dec h2 37 rfl
  have po_Line : PySem.W.plainOver K (He.ga K "Line") = true := chk_dec h2 38 rfl
  have sa_Line : PySem.W.findIn K (.ref (He.ga K "Line")) "__setattr__" = some (some (.builtin "object.__setattr__")) := chk_dec h2 39 rfl
  have n_Line_sections : PySem.W.findIn K (.ref (He.ga K "Line")) "sections" = some none := chk_dec h3 0 rfl
  have n_Line_eastbound : PySem.W.findIn K (.ref (He.ga K "Line")) "eastbound" = some none := chk_dec h3 1 rfl
  have n_Line_westbound : PySem.W.findIn K (.ref (He.ga K "Line")) "westbound" = some none := chk_dec h3 2 rfl
  have n_Line__rooms : PySem.W.findIn K (.ref (He.ga K "Line")) "_rooms" = some none := chk_dec h3 3 rfl
  have n_Line__east : PySem.W.findIn K (.ref (He.ga K "Line")) "_east" = some none := chk_dec h3 4 rfl
  have n_Line__west : PySem.W.findIn K (.ref (He.ga K "Line")) "_west" = some none := chk_dec h3 5 rfl
  have n_Line_layout : PySem.W.findIn K (.ref (He.ga K "Line")) "layout" = some none := chk_dec h3 6 rfl
  have z_zip : PySem.W.nsIn K mainGlobals "zip" = some none := chk_dec h3 7 rfl
  have a_Line : PySem.W.nsIn K mainGlobals "Line" = some (some (.ref (He.ga K "Line"))) := chk_dec h3 8 rfl
  have mk_Line : PySem.W.makesIn K (He.ga K "Line") = true := chk_dec h3 9 rfl
  have ini_Line : PySem.W.findIn K (.ref (He.ga K "Line")) "__init__" = some (some (.ref (He.ma K (He.ga K "Line") "__init__"))) := chk_dec h3 10 rfl
  have isf_Line_init : PySem.W.isFn K (.ref (He.ma K (He.ga K "Line") "__init__")) = true := chk_dec h3 11 rfl
  have kc_Line : PySem.W.keepIn K (.ref (He.ga K "Line")) = true := chk_dec h3 12 rfl
  have a_Line_trains : PySem.W.findIn K (.ref (He.ga K "Line")) "trains" = some (some (.ref (He.ma K (He.ga K "Line") "trains"))) := chk_dec h3 13 rfl
  have i_Line_trains : PySem.W.isFn K (.ref (He.ma K (He.ga K "Line") "trains")) = true := chk_dec h3 14 rfl
  have a_Line_can_meet : PySem.W.findIn K (.ref (He.ga K "Line")) "can_meet" = some (some (.ref (He.ma K (He.ga K "Line") "can_meet"))) := chk_dec h3 15 rfl
  have i_Line_can_meet : PySem.W.isFn K (.ref (He.ma K (He.ga K "Line") "can_meet")) = true := chk_dec h3 16 rfl
  have a__top_row : PySem.W.nsIn K mainGlobals "_top_row" = some (some (.ref (He.ga K "_top_row"))) := chk_dec h3 17 rfl
  have z_all : PySem.W.nsIn K mainGlobals "all" = some none := chk_dec h3 18 rfl
  have a__may_follow : PySem.W.nsIn K mainGlobals "_may_follow" = some (some (.ref (He.ga K "_may_follow"))) := chk_dec h3 19 rfl
  have a__rows : PySem.W.nsIn K mainGlobals "_rows" = some (some (.ref (He.ga K "_rows"))) := chk_dec h3 20 rfl
  have a_count_tables : PySem.W.nsIn K mainGlobals "count_tables" = some (some (.ref (He.ga K "count_tables"))) := chk_dec h3 21 rfl
  have a_TABLE_LIMIT : PySem.W.nsIn K mainGlobals "TABLE_LIMIT" = some (some (.int 200 (tkI K "TABLE_LIMIT"))) := chk_dec h3 22 rfl
  have a_TooMany : PySem.W.nsIn K mainGlobals "TooMany" = some (some (.ref (He.ga K "TooMany"))) := chk_dec h3 23 rfl
  have eC_TooMany : PySem.W.subIn K (.ref (He.ga K "TooMany")) (.type "BaseException") = some true := chk_dec h3 24 rfl
  have ga_TooMany : PySem.W.findIn K (.ref (He.ga K "TooMany")) "__getattribute__" = some (some (.builtin "BaseException.__getattribute__")) := chk_dec h3 25 rfl
  have gg_TooMany : PySem.W.findIn K (.ref (He.ga K "TooMany")) "__getattr__" = some none := chk_dec h3 26 rfl
  have hC_TooMany : PySem.W.hasDictIn K (He.ga K "TooMany") = true := chk_dec h3 27 rfl
  have ca_TooMany : PySem.W.findIn K (.ref (He.ga K "TooMany")) "__class__" = some (some (.builtin "object.__class__")) := chk_dec h3 28 rfl
  have cm_TooMany : PySem.W.mroIn K (He.ga K "TooMany") (.type "object") = some true := chk_dec h3 29 rfl
  have te_TooMany : PySem.W.exmOne K (.ref (He.ga K "TooMany")) (.ref (He.ga K "TooMany")) = some true := chk_dec h3 30 rfl
  have no_TooMany_number : PySem.W.findIn K (.ref (He.ga K "TooMany")) "number" = some none := chk_dec h3 31 rfl
  have no_TooMany_limit : PySem.W.findIn K (.ref (He.ga K "TooMany")) "limit" = some none := chk_dec h3 32 rfl
  have ex_TooMany : Lw.exoB K (He.ga K "TooMany") [.ref (He.ga K "RailError"), .type "ValueError", .type "Exception", .type "BaseException", .type "object"] = true := chk_at h3 33 rfl
  have sa_TooMany : PySem.W.findIn K (.ref (He.ga K "TooMany")) "__setattr__" = some (some (.builtin "object.__setattr__")) := chk_dec h3 34 rfl
  have tC_TooMany : PySem.W.typeIn K (.ref (He.ga K "TooMany")) = some (.type "type") := chk_dec h3 35 rfl
  have kC_TooMany : PySem.W.keepIn K (.ref (He.ga K "TooMany")) = true := chk_dec h3 36 rfl
  have a_TooMany_init : PySem.W.findIn K (.ref (He.ga K "TooMany")) "__init__" = some (some (.ref (He.ma K (He.ga K "TooMany") "__init__"))) := chk_dec h3 37 rfl
  have t_TooMany_init : PySem.W.typeIn K (.ref (He.ma K (He.ga K "TooMany") "__init__")) = some (.type "function") := chk_dec h3 38 rfl
  have a_all_tables : PySem.W.nsIn K mainGlobals "all_tables" = some (some (.ref (He.ga K "all_tables"))) := chk_dec h3 39 rfl
  have z_ValueError : PySem.W.nsIn K mainGlobals "ValueError" = some none := chk_dec h4 0 rfl
  have a_BadTable : PySem.W.nsIn K mainGlobals "BadTable" = some (some (.ref (He.ga K "BadTable"))) := chk_dec h4 1 rfl
  have kt_TooMany_RailError : PySem.W.kitOne K (.ref (He.ga K "TooMany")) (.ref (He.ga K "RailError")) = some true := chk_dec h4 2 rfl
  have kt_TooMany_ValueError : PySem.W.kitOne K (.ref (He.ga K "TooMany")) (.type "ValueError") = some true := chk_dec h4 3 rfl
  have kt_TooMany_BadTable : PySem.W.kitOne K (.ref (He.ga K "TooMany")) (.ref (He.ga K "BadTable")) = some false := chk_dec h4 4 rfl
  have a__law_told : PySem.W.nsIn K mainGlobals "_law_told" = some (some (.ref (He.ga K "_law_told"))) := chk_dec h4 5 rfl
  have a__law_copy : PySem.W.nsIn K mainGlobals "_law_copy" = some (some (.ref (He.ga K "_law_copy"))) := chk_dec h4 6 rfl
  have a__law_same : PySem.W.nsIn K mainGlobals "_law_same" = some (some (.ref (He.ga K "_law_same"))) := chk_dec h4 7 rfl
  have a__law_stays : PySem.W.nsIn K mainGlobals "_law_stays" = some (some (.ref (He.ga K "_law_stays"))) := chk_dec h4 8 rfl
  have a__law_is_right : PySem.W.nsIn K mainGlobals "_law_is_right" = some (some (.ref (He.ga K "_law_is_right"))) := chk_dec h4 9 rfl
  have a_law : PySem.W.nsIn K mainGlobals "law" = some (some (.ref (He.ga K "law"))) := chk_dec h4 10 rfl
  obtain ⟨fd_Layout_contains, F_Layout_contains⟩ : ∃ fd, Fun K "__contains__" "Layout.__contains__" s_Layout_contains (He.ma K (He.ga K "Layout") "__contains__") fd := fun_of (c.d.def_ 0 (d := d_Layout_contains) rfl)
  obtain ⟨fd_NoBlock_init, F_NoBlock_init⟩ : ∃ fd, Fun K "__init__" "NoBlock.__init__" s_NoBlock_init (He.ma K (He.ga K "NoBlock") "__init__") fd := fun_of (c.d.def_ 1 (d := d_NoBlock_init) rfl)
  obtain ⟨fd_check_block, F_check_block⟩ : ∃ fd, Fun K "check_block" "check_block" s_check_block (He.ga K "check_block") fd := fun_of (c.d.def_ 2 (d := d_check_block) rfl)
  obtain ⟨fd_check_blocks, F_check_blocks⟩ : ∃ fd, Fun K "check_blocks" "check_blocks" s_check_blocks (He.ga K "check_blocks") fd := fun_of (c.d.def_ 3 (d := d_check_blocks) rfl)
  obtain ⟨fd_Layout_joints, F_Layout_joints⟩ : ∃ fd, Fun K "joints" "Layout.joints" s_Layout_joints (He.ma K (He.ga K "Layout") "joints") fd := fun_of (c.d.def_ 4 (d := d_Layout_joints) rfl)
  obtain ⟨fd_Layoutadd_joint, F_Layoutadd_joint⟩ : ∃ fd, Fun K "_add_joint" "Layout._add_joint" s_Layoutadd_joint (He.ma K (He.ga K "Layout") "_add_joint") fd := fun_of (c.d.def_ 5 (d := d_Layoutadd_joint) rfl)
  obtain ⟨fd_Layout_init, F_Layout_init⟩ : ∃ fd, Fun K "__init__" "Layout.__init__" s_Layout_init (He.ma K (He.ga K "Layout") "__init__") fd := fun_of (c.d.def_ 6 (d := d_Layout_init) rfl)
  obtain ⟨fd_cell, F_cell⟩ : ∃ fd, Fun K "_law_cell" "_law_cell" s_cell (He.ga K "_law_cell") fd := fun_of (c.d.def_ 7 (d := d_cell) rfl)
  obtain ⟨fd_draw, F_draw⟩ : ∃ fd, Fun K "_law_draw" "_law_draw" s_draw (He.ga K "_law_draw") fd := fun_of (c.d.def_ 8 (d := d_draw) rfl)
  obtain ⟨fd_near, F_near⟩ : ∃ fd, Fun K "_law_near" "_law_near" s_near (He.ga K "_law_near") fd := fun_of (c.d.def_ 9 (d := d_near) rfl)
  obtain ⟨fd_parts, F_parts⟩ : ∃ fd, Fun K "_law_parts" "_law_parts" s_parts (He.ga K "_law_parts") fd := fun_of (c.d.def_ 10 (d := d_parts) rfl)
  obtain ⟨fd_meets, F_meets⟩ : ∃ fd, Fun K "_law_meets" "_law_meets" s_meets (He.ga K "_law_meets") fd := fun_of (c.d.def_ 11 (d := d_meets) rfl)
  obtain ⟨fd_number, F_number⟩ : ∃ fd, Fun K "_law_number" "_law_number" s_number (He.ga K "_law_number") fd := fun_of (c.d.def_ 12 (d := d_number) rfl)
  obtain ⟨fd_is_good, F_is_good⟩ : ∃ fd, Fun K "_law_is_good" "_law_is_good" s_is_good (He.ga K "_law_is_good") fd := fun_of (c.d.def_ 13 (d := d_is_good) rfl)
  obtain ⟨fd_BadWay_init, F_BadWay_init⟩ : ∃ fd, Fun K "__init__" "BadWay.__init__" s_BadWay_init (He.ma K (He.ga K "BadWay") "__init__") fd := fun_of (c.d.def_ 14 (d := d_BadWay_init) rfl)
  obtain ⟨fd_BadLength_init, F_BadLength_init⟩ : ∃ fd, Fun K "__init__" "BadLength.__init__" s_BadLength_init (He.ma K (He.ga K "BadLength") "__init__") fd := fun_of (c.d.def_ 15 (d := d_BadLength_init) rfl)
  obtain ⟨fd_Train_init, F_Train_init⟩ : ∃ fd, Fun K "__init__" "Train.__init__" s_Train_init (He.ma K (He.ga K "Train") "__init__") fd := fun_of (c.d.def_ 16 (d := d_Train_init) rfl)
  obtain ⟨fd_Train_blocks, F_Train_blocks⟩ : ∃ fd, Fun K "blocks" "Train.blocks" s_Train_blocks (He.ma K (He.ga K "Train") "blocks") fd := fun_of (c.d.def_ 17 (d := d_Train_blocks) rfl)
  obtain ⟨fd__check_line, F__check_line⟩ : ∃ fd, Fun K "_check_line" "_check_line" s__check_line (He.ga K "_check_line") fd := fun_of (c.d.def_ 18 (d := d__check_line) rfl)
  obtain ⟨fd_Line_init, F_Line_init⟩ : ∃ fd, Fun K "__init__" "Line.__init__" s_Line_init (He.ma K (He.ga K "Line") "__init__") fd := fun_of (c.d.def_ 19 (d := d_Line_init) rfl)
  obtain ⟨fd_Line_trains, F_Line_trains⟩ : ∃ fd, Fun K "trains" "Line.trains" s_Line_trains (He.ma K (He.ga K "Line") "trains") fd := fun_of (c.d.def_ 20 (d := d_Line_trains) rfl)
  obtain ⟨fd_Line_can_meet, F_Line_can_meet⟩ : ∃ fd, Fun K "can_meet" "Line.can_meet" s_Line_can_meet (He.ma K (He.ga K "Line") "can_meet") fd := fun_of (c.d.def_ 21 (d := d_Line_can_meet) rfl)
  obtain ⟨fd__top_row, F__top_row⟩ : ∃ fd, Fun K "_top_row" "_top_row" s__top_row (He.ga K "_top_row") fd := fun_of (c.d.def_ 22 (d := d__top_row) rfl)
  obtain ⟨fd__may_follow, F__may_follow⟩ : ∃ fd, Fun K "_may_follow" "_may_follow" s__may_follow (He.ga K "_may_follow") fd := fun_of (c.d.def_ 23 (d := d__may_follow) rfl)
  obtain ⟨fd__rows, F__rows⟩ : ∃ fd, Fun K "_rows" "_rows" s__rows (He.ga K "_rows") fd := fun_of (c.d.def_ 24 (d := d__rows) rfl)
  obtain ⟨fd_count_tables, F_count_tables⟩ : ∃ fd, Fun K "count_tables" "count_tables" s_count_tables (He.ga K "count_tables") fd := fun_of (c.d.def_ 25 (d := d_count_tables) rfl)
  obtain ⟨fd_TooMany_init, F_TooMany_init⟩ : ∃ fd, Fun K "__init__" "TooMany.__init__" s_TooMany_init (He.ma K (He.ga K "TooMany") "__init__") fd := fun_of (c.d.def_ 26 (d := d_TooMany_init) rfl)
  obtain ⟨fd_all_tables, F_all_tables⟩ : ∃ fd, Fun K "all_tables" "all_tables" s_all_tables (He.ga K "all_tables") fd := fun_of (c.d.def_ 27 (d := d_all_tables) rfl)
  obtain ⟨fd_told, F_told⟩ : ∃ fd, Fun K "_law_told" "_law_told" s_told (He.ga K "_law_told") fd := fun_of (c.d.def_ 28 (d := d_told) rfl)
  obtain ⟨fd_copy, F_copy⟩ : ∃ fd, Fun K "_law_copy" "_law_copy" s_copy (He.ga K "_law_copy") fd := fun_of (c.d.def_ 29 (d := d_copy) rfl)
  obtain ⟨fd_stays, F_stays⟩ : ∃ fd, Fun K "_law_stays" "_law_stays" s_stays (He.ga K "_law_stays") fd := fun_of (c.d.def_ 30 (d := d_stays) rfl)
  obtain ⟨fd_is_right, F_is_right⟩ : ∃ fd, Fun K "_law_is_right" "_law_is_right" s_is_right (He.ga K "_law_is_right") fd := fun_of (c.d.def_ 31 (d := d_is_right) rfl)
  obtain ⟨fd_same, F_same⟩ : ∃ fd, Fun K "_law_same" "_law_same" s_same (He.ga K "_law_same") fd := fun_of (c.d.def_ 32 (d := d_same) rfl)
  obtain ⟨fd_law, F_law⟩ : ∃ fd, Fun K "law" "law" s_law (He.ga K "law") fd := fun_of (c.d.def_ 33 (d := d_law) rfl)
  have T : Cl K (He.ga K "Layout") := ⟨⟨pg_Layout, hd_Layout, po_Layout, sa_Layout⟩, n_Layout_size, n_Layout__lengths, n_Layout__yard_marks, n_Layout__east, n_Layout__west⟩
  have b_Layout_contains := F_Layout_contains.binds (ps := ["self", "block"]) fun _ _ _ _ _ _ us hl => match us, hl with | [_, _], _ => rfl
  have M_NoBlock := PySem.W.mg_of X G a_NoBlock
  have X_NoBlock : XfC K (He.ga K "NoBlock") := ⟨ga_NoBlock, gg_NoBlock, eC_NoBlock, hC_NoBlock⟩
  have V_NoBlock : ExcC K (He.ga K "NoBlock") := ⟨ga_NoBlock, gg_NoBlock, eC_NoBlock, hC_NoBlock, ca_NoBlock, oc_n, oc_t, cm_NoBlock⟩
  have M_RailError := PySem.W.mg_of X G a_RailError
  obtain ⟨_, _, _, _, _, _, _, _, _, _, _, _, _, _, lk_NoBlock⟩ := Lw.exo_of ex_NoBlock
  have O_NoBlock : OexC K (He.ga K "NoBlock") := ⟨⟨_, _, _, _, _, _, _, _, _, _, _, _, _, _, _, lk_NoBlock, rfl⟩, sa_NoBlock, eC_NoBlock, tC_NoBlock, kC_NoBlock⟩
  have b_NoBlock_init := F_NoBlock_init.binds (ps := ["self", "block"]) fun _ _ _ _ _ _ us hl => match us, hl with | [_, _], _ => rfl
  have b_check_block := F_check_block.binds (ps := ["layout", "block"]) fun _ _ _ _ _ _ us hl => match us, hl with | [_, _], _ => rfl
  have M_check_block := PySem.W.mg_of X G a_check_block
  have b_check_blocks := F_check_blocks.binds (ps := ["layout", "blocks"]) fun _ _ _ _ _ _ us hl => match us, hl with | [_, _], _ => rfl
  have M_check_blocks := PySem.W.mg_of X G a_check_blocks
  have N_len := PySem.W.mg_none_of X G z_len
  have N_abs := PySem.W.mg_none_of X G z_abs
  have N_min := PySem.W.mg_none_of X G z_min
  have N_range := PySem.W.mg_none_of X G z_range
  have N_int := PySem.W.mg_none_of X G z_int
  have N_str := PySem.W.mg_none_of X G z_str
  have N_bool := PySem.W.mg_none_of X G z_bool
  have N_list := PySem.W.mg_none_of X G z_list
  have N_tuple := PySem.W.mg_none_of X G z_tuple
  have N_sorted := PySem.W.mg_none_of X G z_sorted
  have N_isinstance := PySem.W.mg_none_of X G z_isinstance
  have B : Blt mg := ⟨N_len, N_abs, N_min, N_range, N_int, N_str, N_bool, N_list, N_tuple, N_sorted, N_isinstance⟩
  have b_Layout_joints := F_Layout_joints.binds (ps := ["self"]) fun _ _ _ _ _ _ us hl => match us, hl with | [_], _ => rfl
  have b_Layoutadd_joint := F_Layoutadd_joint.binds (ps := ["self", "west", "east"]) fun _ _ _ _ _ _ us hl => match us, hl with | [_, _, _], _ => rfl
  have M_Layout := PySem.W.mg_of X G a_Layout
  have b_cell := F_cell.binds (ps := ["_law_script", "_law_k"]) fun _ _ _ _ _ _ us hl => match us, hl with | [_, _], _ => rfl
  have M__law_cell := PySem.W.mg_of X G a__law_cell
  have b_draw := F_draw.binds (ps := ["_law_cell_here", "_law_k", "_law_size"]) fun _ _ _ _ _ _ us hl => match us, hl with | [_, _, _], _ => rfl
  have M__law_draw := PySem.W.mg_of X G a__law_draw
  have N_reversed := PySem.W.mg_none_of X G z_reversed
  have b_near := F_near.binds (ps := ["_law_shape"]) fun _ _ _ _ _ _ us hl => match us, hl with | [_], _ => rfl
  have M__law_near := PySem.W.mg_of X G a__law_near
  have b_parts := F_parts.binds (ps := ["_law_shape", "_law_sizes"]) fun _ _ _ _ _ _ us hl => match us, hl with | [_, _], _ => rfl
  have M__law_parts := PySem.W.mg_of X G a__law_parts
  have b_meets := F_meets.binds (ps := ["_law_parts_here", "_law_i", "_law_j", "_law_k"]) fun _ _ _ _ _ _ us hl => match us, hl with | [_, _, _, _], _ => rfl
  have M__law_meets := PySem.W.mg_of X G a__law_meets
  have N_sum := PySem.W.mg_none_of X G z_sum
  have N_dict := PySem.W.mg_none_of X G z_dict
  have b_number := F_number.binds (ps := ["_law_parts_here"]) fun _ _ _ _ _ _ us hl => match us, hl with | [_], _ => rfl
  have M__law_number := PySem.W.mg_of X G a__law_number
  have b_is_good := F_is_good.binds (ps := ["_law_parts_here", "_law_rows"]) fun _ _ _ _ _ _ us hl => match us, hl with | [_, _], _ => rfl
  have M__law_is_good := PySem.W.mg_of X G a__law_is_good
  have TT : TrCl K (He.ga K "Train") := ⟨⟨pg_Train, hd_Train, po_Train, sa_Train⟩, n_Train__way, n_Train__step_at, n_Train_length, n_Train_steps, n_Train_last⟩
  have M_BadWay := PySem.W.mg_of X G a_BadWay
  have X_BadWay : XfC K (He.ga K "BadWay") := ⟨ga_BadWay, gg_BadWay, eC_BadWay, hC_BadWay⟩
  have V_BadWay : ExcC K (He.ga K "BadWay") := ⟨ga_BadWay, gg_BadWay, eC_BadWay, hC_BadWay, ca_BadWay, oc_n, oc_t, cm_BadWay⟩
  obtain ⟨_, _, _, _, _, _, _, _, _, _, _, _, _, _, lk_BadWay⟩ := Lw.exo_of ex_BadWay
  have O_BadWay : OexC K (He.ga K "BadWay") := ⟨⟨_, _, _, _, _, _, _, _, _, _, _, _, _, _, _, lk_BadWay, rfl⟩, sa_BadWay, eC_BadWay, tC_BadWay, kC_BadWay⟩
  have b_BadWay_init := F_BadWay_init.binds (ps := ["self", "at"]) fun _ _ _ _ _ _ us hl => match us, hl with | [_, _], _ => rfl
  have M_BadLength := PySem.W.mg_of X G a_BadLength
  have X_BadLength : XfC K (He.ga K "BadLength") := ⟨ga_BadLength, gg_BadLength, eC_BadLength, hC_BadLength⟩
  have V_BadLength : ExcC K (He.ga K "BadLength") := ⟨ga_BadLength, gg_BadLength, eC_BadLength, hC_BadLength, ca_BadLength, oc_n, oc_t, cm_BadLength⟩
  obtain ⟨_, _, _, _, _, _, _, _, _, _, _, _, _, _, lk_BadLength⟩ := Lw.exo_of ex_BadLength
  have O_BadLength : OexC K (He.ga K "BadLength") := ⟨⟨_, _, _, _, _, _, _, _, _, _, _, _, _, _, _, lk_BadLength, rfl⟩, sa_BadLength, eC_BadLength, tC_BadLength, kC_BadLength⟩
  have b_BadLength_init := F_BadLength_init.binds (ps := ["self", "length"]) fun _ _ _ _ _ _ us hl => match us, hl with | [_, _], _ => rfl
  have M_Train := PySem.W.mg_of X G a_Train
  have b_Train_blocks := F_Train_blocks.binds (ps := ["self"]) fun _ _ _ _ _ _ us hl => match us, hl with | [_], _ => rfl
  have N_max := PySem.W.mg_none_of X G z_max
  have M_SECTION_LIMIT := PySem.W.mg_of X G a_SECTION_LIMIT
  have M_TRAIN_LIMIT := PySem.W.mg_of X G a_TRAIN_LIMIT
  have M_BadLine := PySem.W.mg_of X G a_BadLine
  have b__check_line := F__check_line.binds (ps := ["yards", "sections", "east", "west"]) fun _ _ _ _ _ _ us hl => match us, hl with | [_, _, _, _], _ => rfl
  have M__check_line := PySem.W.mg_of X G a__check_line
  have TL : LinCl K (He.ga K "Line") := ⟨⟨pg_Line, hd_Line, po_Line, sa_Line⟩, n_Line_sections, n_Line_eastbound, n_Line_westbound, n_Line__rooms, n_Line__east, n_Line__west, n_Line_layout⟩
  have N_zip := PySem.W.mg_none_of X G z_zip
  have b_Line_init := F_Line_init.binds (ps := ["self", "yards", "sections", "east", "west"]) fun _ _ _ _ _ _ us hl => match us, hl with | [_, _, _, _, _], _ => rfl
  have M_Line := PySem.W.mg_of X G a_Line
  have b_Line_trains := F_Line_trains.binds (ps := ["self"]) fun _ _ _ _ _ _ us hl => match us, hl with | [_], _ => rfl
  have b_Line_can_meet := F_Line_can_meet.binds (ps := ["self", "east", "west", "yard"]) fun _ _ _ _ _ _ us hl => match us, hl with | [_, _, _, _], _ => rfl
  have b__top_row := F__top_row.binds (ps := ["line"]) fun _ _ _ _ _ _ us hl => match us, hl with | [_], _ => rfl
  have M__top_row := PySem.W.mg_of X G a__top_row
  have N_all := PySem.W.mg_none_of X G z_all
  have b__may_follow := F__may_follow.binds (ps := ["above", "row"]) fun _ _ _ _ _ _ us hl => match us, hl with | [_, _], _ => rfl
  have M__may_follow := PySem.W.mg_of X G a__may_follow
  have b__rows := F__rows.binds (ps := ["line", "east"]) fun _ _ _ _ _ _ us hl => match us, hl with | [_, _], _ => rfl
  have M__rows := PySem.W.mg_of X G a__rows
  have b_count_tables := F_count_tables.binds (ps := ["line"]) fun _ _ _ _ _ _ us hl => match us, hl with | [_], _ => rfl
  have M_count_tables := PySem.W.mg_of X G a_count_tables
  have M_TABLE_LIMIT := PySem.W.mg_of X G a_TABLE_LIMIT
  have M_TooMany := PySem.W.mg_of X G a_TooMany
  have X_TooMany : XfC K (He.ga K "TooMany") := ⟨ga_TooMany, gg_TooMany, eC_TooMany, hC_TooMany⟩
  have V_TooMany : ExcC K (He.ga K "TooMany") := ⟨ga_TooMany, gg_TooMany, eC_TooMany, hC_TooMany, ca_TooMany, oc_n, oc_t, cm_TooMany⟩
  obtain ⟨_, _, _, _, _, _, _, _, _, _, _, _, _, _, lk_TooMany⟩ := Lw.exo_of ex_TooMany
  have O_TooMany : OexC K (He.ga K "TooMany") := ⟨⟨_, _, _, _, _, _, _, _, _, _, _, _, _, _, _, lk_TooMany, rfl⟩, sa_TooMany, eC_TooMany, tC_TooMany, kC_TooMany⟩
  have b_TooMany_init := F_TooMany_init.binds (ps := ["self", "number", "limit"]) fun _ _ _ _ _ _ us hl => match us, hl with | [_, _, _], _ => rfl
  have b_all_tables := F_all_tables.binds (ps := ["line"]) fun _ _ _ _ _ _ us hl => match us, hl with | [_], _ => rfl
  have M_all_tables := PySem.W.mg_of X G a_all_tables
  have N_ValueError := PySem.W.mg_none_of X G z_ValueError
  have M_BadTable := PySem.W.mg_of X G a_BadTable
  have b_told := F_told.binds (ps := ["_law_single", "_law_named"]) fun _ _ _ _ _ _ us hl => match us, hl with | [_, _], _ => rfl
  have M__law_told := PySem.W.mg_of X G a__law_told
  have b_copy := F_copy.binds (ps := ["_law_rows"]) fun _ _ _ _ _ _ us hl => match us, hl with | [_], _ => rfl
  have M__law_copy := PySem.W.mg_of X G a__law_copy
  have b_stays := F_stays.binds (ps := ["_law_tables"]) fun _ _ _ _ _ _ us hl => match us, hl with | [_], _ => rfl
  have b_is_right := F_is_right.binds (ps := ["_law_parts_here", "_law_told_here", "_law_number_here"]) fun _ _ _ _ _ _ us hl => match us, hl with | [_, _, _], _ => rfl
  have b_same := F_same.binds (ps := ["_law_actual", "_law_wanted"]) fun _ _ _ _ _ _ us hl => match us, hl with | [_, _], _ => rfl
  have M__law_same := PySem.W.mg_of X G a__law_same
  have b_law := F_law.binds (ps := ["_law_script"]) fun _ _ _ _ _ _ us hl => match us, hl with | [_], _ => rfl
  have M__law_stays := PySem.W.mg_of X G a__law_stays
  have M__law_is_right := PySem.W.mg_of X G a__law_is_right
  have M_law := PySem.W.mg_of X G a_law
  have e := hfa.symm.trans M_law
  cases e
  have bl : ∀ (s : Shared) (v : Value), BindsTo s fd_law ⟨[v], []⟩ [("_law_script", v)] := by
    obtain ⟨oc, od, kV, dc, pm, an, cd, ct, sl, rfl, lk, hc⟩ := F_law.ex
    exact fun s v => .of_eq rfl
  refine ⟨fd_law, bl, fun base _ _ => ?_⟩
  have G_Layout_contains_spContains := ok_contains (P := l.prog) (w := w) (mg := mg) (base := base) (C := (He.ga K "Layout")) T F_Layout_contains
  have C_Layout_contains_spContains : CalM l.prog w K mg base (He.ga K "Layout") "__contains__" _ _ _ := ⟨_, _, G_Layout_contains_spContains, ⟨a_Layout_contains, i_Layout_contains, F_Layout_contains.kp⟩, b_Layout_contains⟩
  have E_NoBlock : Err l.prog w K mg base "NoBlock" (He.ga K "NoBlock") (He.ma K (He.ga K "NoBlock") "__init__") _ _ _ := ⟨O_NoBlock, X_NoBlock, a_NoBlock_init, t_NoBlock_init, ok_nb O_NoBlock no_NoBlock_block F_NoBlock_init, b_NoBlock_init, M_NoBlock⟩
  have G_check_block_spCheckX := ok_check_block (P := l.prog) (w := w) (mg := mg) (base := base) (C := (He.ga K "Layout")) E_NoBlock F_check_block C_Layout_contains_spContains
  have C_check_block_spCheckX : CalX l.prog w K mg base "check_block" _ _ _ := ⟨_, _, G_check_block_spCheckX, M_check_block, F_check_block.kp, b_check_block⟩
  have G_check_blocks_spChecks := ok_check_blocks (P := l.prog) (w := w) (mg := mg) (base := base) (C := (He.ga K "Layout")) F_check_blocks C_check_block_spCheckX
  have C_check_blocks_spChecks : Cal l.prog w K mg base "check_blocks" _ _ _ := ⟨_, _, G_check_blocks_spChecks, M_check_blocks, F_check_blocks.kp, b_check_blocks⟩
  have G_Layout_joints_spJointsG := ok_joints (P := l.prog) (w := w) (mg := mg) (base := base) (C := (He.ga K "Layout")) T B F_Layout_joints
  have C_Layout_joints_spJointsG : CalM l.prog w K mg base (He.ga K "Layout") "joints" _ _ _ := ⟨_, _, G_Layout_joints_spJointsG, ⟨a_Layout_joints, i_Layout_joints, F_Layout_joints.kp⟩, b_Layout_joints⟩
  have G_Layoutadd_joint_spAdd := ok_add (P := l.prog) (w := w) (mg := mg) (base := base) (C := (He.ga K "Layout")) T B F_Layoutadd_joint C_check_block_spCheckX
  have C_Layoutadd_joint_spAdd : CalM l.prog w K mg base (He.ga K "Layout") "_add_joint" _ _ _ := ⟨_, _, G_Layoutadd_joint_spAdd, ⟨a_Layoutadd_joint, i_Layoutadd_joint, F_Layoutadd_joint.kp⟩, b_Layoutadd_joint⟩
  have G_Layout_init_spInitM := ok_init (P := l.prog) (w := w) (mg := mg) (base := base) (C := (He.ga K "Layout")) T B F_Layout_init C_check_blocks_spChecks C_Layoutadd_joint_spAdd
  have bk_Layout_init_spInitM : KBn K fd_Layout_init ["self", "lengths", "joints", "yards"] 3 ["yards"] Kx.ggI (fun vs zs => vs ++ zs) := by
    obtain ⟨oc, od, kV, dc, pm, an, cd, ct, sl, rfl, lk, hc⟩ := F_Layout_init.ex
    exact ⟨fun s us ws _ l1 l2 => match us, ws, l1, l2 with | [_, _, _], [_], _, _ => .of_eq rfl, fun r1 r2 => r1.append r2⟩
  have MK_Layout_init_spInitM : ∃ fI fdI, Mk K (He.ga K "Layout") fI ∧ FnOk l.prog w K mg base _ _ fI fdI _ _ ∧ KBn K fdI _ 3 ["yards"] Kx.ggI (fun vs zs => vs ++ zs) ∧ mg "Layout" = some (.ref (He.ga K "Layout")) := ⟨_, _, ⟨mk_Layout, ini_Layout, isf_Layout_init, kc_Layout⟩, G_Layout_init_spInitM, bk_Layout_init_spInitM, M_Layout⟩
  have G_cell_spCell := ok_cell (P := l.prog) (w := w) (mg := mg) (base := base) B F_cell
  have C_cell_spCell : Cal l.prog w K mg base "_law_cell" _ _ _ := ⟨_, _, G_cell_spCell, M__law_cell, F_cell.kp, b_cell⟩
  have G_draw_spDraw := ok_draw (P := l.prog) (w := w) (mg := mg) (base := base) B F_draw
  have C_draw_spDraw : Cal l.prog w K mg base "_law_draw" _ _ _ := ⟨_, _, G_draw_spDraw, M__law_draw, F_draw.kp, b_draw⟩
  have G_near_spNear := ok_near (P := l.prog) (w := w) (mg := mg) (base := base) B N_reversed F_near C_draw_spDraw
  have C_near_spNear : Cal l.prog w K mg base "_law_near" _ _ _ := ⟨_, _, G_near_spNear, M__law_near, F_near.kp, b_near⟩
  have G_parts_spPartsD := ok_partsD (P := l.prog) (w := w) (mg := mg) (base := base) B N_int F_parts C_draw_spDraw C_near_spNear
  have C_parts_spPartsD : Cal l.prog w K mg base "_law_parts" _ _ _ := ⟨_, _, G_parts_spPartsD, M__law_parts, F_parts.kp, b_parts⟩
  have G_meets_spMeetsL := ok_meetsL (P := l.prog) (w := w) (mg := mg) (base := base) B F_meets
  have C_meets_spMeetsL : Cal l.prog w K mg base "_law_meets" _ _ _ := ⟨_, _, G_meets_spMeetsL, M__law_meets, F_meets.kp, b_meets⟩
  have G_number_spNumL := ok_numL (P := l.prog) (w := w) (mg := mg) (base := base) B N_sum N_tuple N_dict F_number C_meets_spMeetsL
  have C_number_spNumL : Cal l.prog w K mg base "_law_number" _ _ _ := ⟨_, _, G_number_spNumL, M__law_number, F_number.kp, b_number⟩
  have G_is_good_spGoodD := ok_goodD (P := l.prog) (w := w) (mg := mg) (base := base) B F_is_good C_meets_spMeetsL
  have C_is_good_spGoodD : Cal l.prog w K mg base "_law_is_good" _ _ _ := ⟨_, _, G_is_good_spGoodD, M__law_is_good, F_is_good.kp, b_is_good⟩
  have E_BadWay : Err l.prog w K mg base "BadWay" (He.ga K "BadWay") (He.ma K (He.ga K "BadWay") "__init__") _ _ _ := ⟨O_BadWay, X_BadWay, a_BadWay_init, t_BadWay_init, ok_bw O_BadWay no_BadWay_at F_BadWay_init, b_BadWay_init, M_BadWay⟩
  have E_BadLength : Err l.prog w K mg base "BadLength" (He.ga K "BadLength") (He.ma K (He.ga K "BadLength") "__init__") _ _ _ := ⟨O_BadLength, X_BadLength, a_BadLength_init, t_BadLength_init, ok_bl O_BadLength no_BadLength_length F_BadLength_init, b_BadLength_init, M_BadLength⟩
  have G_Train_init_spTInit := ok_tinit (P := l.prog) (w := w) (mg := mg) (base := base) (CT := (He.ga K "Train")) TT B E_BadWay E_BadLength F_Train_init
  have bk_Train_init_spTInit : KBn K fd_Train_init ["self", "way", "length"] 2 ["length"] Kx.ggI (fun vs zs => vs ++ zs) := by
    obtain ⟨oc, od, kV, dc, pm, an, cd, ct, sl, rfl, lk, hc⟩ := F_Train_init.ex
    exact ⟨fun s us ws _ l1 l2 => match us, ws, l1, l2 with | [_, _], [_], _, _ => .of_eq rfl, fun r1 r2 => r1.append r2⟩
  have MK_Train_init_spTInit : ∃ fI fdI, Mk K (He.ga K "Train") fI ∧ FnOk l.prog w K mg base _ _ fI fdI _ _ ∧ KBn K fdI _ 2 ["length"] Kx.ggI (fun vs zs => vs ++ zs) ∧ mg "Train" = some (.ref (He.ga K "Train")) := ⟨_, _, ⟨mk_Train, ini_Train, isf_Train_init, kc_Train⟩, G_Train_init_spTInit, bk_Train_init_spTInit, M_Train⟩
  have G_Train_blocks_spBlocksT := ok_tblocks (P := l.prog) (w := w) (mg := mg) (base := base) (CT := (He.ga K "Train")) TT B F_Train_blocks
  have C_Train_blocks_spBlocksT : CalM l.prog w K mg base (He.ga K "Train") "blocks" _ _ _ := ⟨_, _, G_Train_blocks_spBlocksT, ⟨a_Train_blocks, i_Train_blocks, F_Train_blocks.kp⟩, b_Train_blocks⟩
  have G__check_line_spCkLn := ok_ckLn (P := l.prog) (w := w) (mg := mg) (base := base) B N_max M_SECTION_LIMIT M_TRAIN_LIMIT ⟨e0_BadLine, M_BadLine, k0_BadLine, eC_BadLine, t0_BadLine⟩ E_BadLength F__check_line
  have C__check_line_spCkLn : CalX l.prog w K mg base "_check_line" _ _ _ := ⟨_, _, G__check_line_spCkLn, M__check_line, F__check_line.kp, b__check_line⟩
  have G_Line_init_spLnI := ok_lnI (P := l.prog) (w := w) (mg := mg) (base := base) (C := (He.ga K "Layout")) TL B N_zip F_Line_init C__check_line_spCkLn MK_Layout_init_spInitM
  have MK_Line_init_spLnI : ∃ fI fdI, Mk K (He.ga K "Line") fI ∧ FnOk l.prog w K mg base _ _ fI fdI _ _ ∧ Binds K fdI ["self", "yards", "sections", "east", "west"] [] ∧ mg "Line" = some (.ref (He.ga K "Line")) := ⟨_, _, ⟨mk_Line, ini_Line, isf_Line_init, kc_Line⟩, G_Line_init_spLnI, b_Line_init, M_Line⟩
  have bk_Line_init_spLnI : KBn K fd_Line_init ["self", "yards", "sections", "east", "west"] 1 ["yards", "sections", "east", "west"] Kx.ggI (fun vs zs => vs ++ zs) := by
    obtain ⟨oc, od, kV, dc, pm, an, cd, ct, sl, rfl, lk, hc⟩ := F_Line_init.ex
    exact ⟨fun s us ws _ l1 l2 => match us, ws, l1, l2 with | [_], [_, _, _, _], _, _ => .of_eq rfl, fun r1 r2 => r1.append r2⟩
  have MKK_Line_init_spLnI : ∃ fI fdI, Mk K (He.ga K "Line") fI ∧ FnOk l.prog w K mg base _ _ fI fdI _ _ ∧ Binds K fdI ["self", "yards", "sections", "east", "west"] [] ∧ KBn K fdI _ 1 ["yards", "sections", "east", "west"] Kx.ggI (fun vs zs => vs ++ zs) ∧ mg "Line" = some (.ref (He.ga K "Line")) := ⟨_, _, ⟨mk_Line, ini_Line, isf_Line_init, kc_Line⟩, G_Line_init_spLnI, b_Line_init, bk_Line_init_spLnI, M_Line⟩
  have G_Line_trains_spTrsL := ok_trsL (P := l.prog) (w := w) (mg := mg) (base := base) (C := (He.ga K "Layout")) (CT := (He.ga K "Train")) T TL B F_Line_trains MK_Train_init_spTInit
  have C_Line_trains_spTrsL : CalM l.prog w K mg base (He.ga K "Line") "trains" _ _ _ := ⟨_, _, G_Line_trains_spTrsL, ⟨a_Line_trains, i_Line_trains, F_Line_trains.kp⟩, b_Line_trains⟩
  have G_Line_can_meet_spMtL := ok_mtL (P := l.prog) (w := w) (mg := mg) (base := base) (C := (He.ga K "Layout")) TL B F_Line_can_meet
  have C_Line_can_meet_spMtL : CalM l.prog w K mg base (He.ga K "Line") "can_meet" _ _ _ := ⟨_, _, G_Line_can_meet_spMtL, ⟨a_Line_can_meet, i_Line_can_meet, F_Line_can_meet.kp⟩, b_Line_can_meet⟩
  have G__top_row_spTopR := ok_topR (P := l.prog) (w := w) (mg := mg) (base := base) (C := (He.ga K "Layout")) TL F__top_row
  have C__top_row_spTopR : Cal l.prog w K mg base "_top_row" _ _ _ := ⟨_, _, G__top_row_spTopR, M__top_row, F__top_row.kp, b__top_row⟩
  have G__may_follow_spMayF := ok_mayF (P := l.prog) (w := w) (mg := mg) (base := base) B N_all N_zip F__may_follow
  have C__may_follow_spMayF : Cal l.prog w K mg base "_may_follow" _ _ _ := ⟨_, _, G__may_follow_spMayF, M__may_follow, F__may_follow.kp, b__may_follow⟩
  have G__rows_spRowsC := ok_rowsC (P := l.prog) (w := w) (mg := mg) (base := base) (C := (He.ga K "Layout")) TL B N_max F__rows C_Line_can_meet_spMtL
  have C__rows_spRowsC : Cal l.prog w K mg base "_rows" _ _ _ := ⟨_, _, G__rows_spRowsC, M__rows, F__rows.kp, b__rows⟩
  have G_count_tables_spCount := ok_count (P := l.prog) (w := w) (mg := mg) (base := base) (C := (He.ga K "Layout")) TL B N_sum F_count_tables C__top_row_spTopR C__may_follow_spMayF C__rows_spRowsC
  have C_count_tables_spCount : Cal l.prog w K mg base "count_tables" _ _ _ := ⟨_, _, G_count_tables_spCount, M_count_tables, F_count_tables.kp, b_count_tables⟩
  have E_TooMany : Err l.prog w K mg base "TooMany" (He.ga K "TooMany") (He.ma K (He.ga K "TooMany") "__init__") _ _ _ := ⟨O_TooMany, X_TooMany, a_TooMany_init, t_TooMany_init, ok_tmy O_TooMany no_TooMany_number no_TooMany_limit F_TooMany_init, b_TooMany_init, M_TooMany⟩
  have G_all_tables_spAllT := ok_allT (P := l.prog) (w := w) (mg := mg) (base := base) (C := (He.ga K "Layout")) TL B M_TABLE_LIMIT E_TooMany F_all_tables C_count_tables_spCount C__top_row_spTopR C__may_follow_spMayF C__rows_spRowsC
  have C_all_tables_spAllT : CalX l.prog w K mg base "all_tables" _ _ _ := ⟨_, _, G_all_tables_spAllT, M_all_tables, F_all_tables.kp, b_all_tables⟩
  have kK31_all_tables_spAllT : KBinds K fd_all_tables ["line"] ["line"] (gIx 0 1 [0]) (gIx 0 1 [0]) := by
    obtain ⟨oc, od, kV, dc, pm, an, cd, ct, sl, rfl, lk, hc⟩ := F_all_tables.ex
    exact kbinds_of (by decide) fun us ws h1 h2 => match us, ws, h1, h2 with | [], [_], _, _ => rfl
  have K31_all_tables_spAllT : CalKX l.prog w K mg base "all_tables" _ 0 1 [0] ["line"] ["line"] _ := ⟨_, _, G_all_tables_spAllT, M_all_tables, F_all_tables.kp, b_all_tables, kK31_all_tables_spAllT⟩
  have G_told_spTldA := ok_tldA (P := l.prog) (w := w) (mg := mg) (base := base) (C := (He.ga K "Layout")) B N_ValueError M_RailError M_BadTable ⟨X_TooMany, V_TooMany, M_TooMany, te_TooMany⟩ no_TooMany_number no_TooMany_limit kt_TooMany_RailError kt_TooMany_ValueError kt_TooMany_BadTable F_told K31_all_tables_spAllT
  have C_told_spTldA : Cal l.prog w K mg base "_law_told" _ _ _ := ⟨_, _, G_told_spTldA, M__law_told, F_told.kp, b_told⟩
  have G_copy_spCopyT := ok_copyT (P := l.prog) (w := w) (mg := mg) (base := base) B F_copy
  have C_copy_spCopyT : Cal l.prog w K mg base "_law_copy" _ _ _ := ⟨_, _, G_copy_spCopyT, M__law_copy, F_copy.kp, b_copy⟩
  have G_same_spSameB_0 := ok_same0 (P := l.prog) (w := w) (mg := mg) (base := base) B F_same
  have C_same_spSameB_0 : Cal l.prog w K mg base "_law_same" _ _ _ := ⟨_, _, G_same_spSameB_0, M__law_same, F_same.kp, b_same⟩
  have C_same_1 : Cal l.prog w K mg base "_law_same" _ _ _ := ⟨_, _, ok_sameS B F_same C_same_spSameB_0, M__law_same, F_same.kp, b_same⟩
  have C_same_2 : Cal l.prog w K mg base "_law_same" _ _ _ := ⟨_, _, ok_sameS B F_same C_same_1, M__law_same, F_same.kp, b_same⟩
  have C_same_3 : Cal l.prog w K mg base "_law_same" _ _ _ := ⟨_, _, ok_sameS B F_same C_same_2, M__law_same, F_same.kp, b_same⟩
  have C_same_4 : Cal l.prog w K mg base "_law_same" _ _ _ := ⟨_, _, ok_sameS B F_same C_same_3, M__law_same, F_same.kp, b_same⟩
  have C_same_5 : Cal l.prog w K mg base "_law_same" _ _ _ := ⟨_, _, ok_sameS B F_same C_same_4, M__law_same, F_same.kp, b_same⟩
  have G_stays_spStayT := ok_stayT (P := l.prog) (w := w) (mg := mg) (base := base) B F_stays C_copy_spCopyT C_same_3
  have C_stays_spStayT : Cal l.prog w K mg base "_law_stays" _ _ _ := ⟨_, _, G_stays_spStayT, M__law_stays, F_stays.kp, b_stays⟩
  have G_is_right_spRightD := ok_rightD (P := l.prog) (w := w) (mg := mg) (base := base) B F_is_right C_is_good_spGoodD C_same_3
  have C_is_right_spRightD : Cal l.prog w K mg base "_law_is_right" _ _ _ := ⟨_, _, G_is_right_spRightD, M__law_is_right, F_is_right.kp, b_is_right⟩
  have kK42_count_tables_spCount : KBinds K fd_count_tables ["line"] ["line"] (gIx 0 1 [0]) (gIx 0 1 [0]) := by
    obtain ⟨oc, od, kV, dc, pm, an, cd, ct, sl, rfl, lk, hc⟩ := F_count_tables.ex
    exact kbinds_of (by decide) fun us ws h1 h2 => match us, ws, h1, h2 with | [], [_], _, _ => rfl
  have K42_count_tables_spCount : CalK l.prog w K mg base "count_tables" _ 0 1 [0] ["line"] ["line"] _ := ⟨_, _, G_count_tables_spCount, M_count_tables, F_count_tables.kp, b_count_tables, kK42_count_tables_spCount⟩
  exact ok_law B F_law C_cell_spCell C_parts_spPartsD C_number_spNumL C_told_spTldA C_is_right_spRightD C_stays_spStayT K42_count_tables_spCount C_same_3 MK_Line_init_spLnI
end Kx
set_option maxHeartbeats 0
open PySem PySem.W PySem.Calls PyProof.Rows in
theorem PySem.Challenge.cw_railhouse_k43_all_tables_holds : PySem.Challenge.rw_railhouse_k43_all_tables.Holds := by
  w_on; o_law
  refine HandSHeadRun.head_any (r := OpenLaw.row PySem.Challenge.rw_railhouse_k43_all_tables) (q := view (OpenLaw.row PySem.Challenge.rw_railhouse_k43_all_tables).prog [42]) (H := Kx.hk) (ob := Kx.ob) (M := 60000) (loose := Kx.loose) (d := HandSHeadRun.topDef (OpenLaw.row PySem.Challenge.rw_railhouse_k43_all_tables).prog 42) (kwd := []) Kx.ob_eq
    (by kernel_rfl) (fun s => by kernel_rfl) Kx.run (by kernel_rfl) (by kernel_rfl) (by kernel_rfl) (by rfl) (by first | assumption | decide +kernel) (by decide +kernel) ⟨rfl, rfl, rfl, rfl, rfl, by decide +kernel⟩ ?hw ?hc
  case hw => w_witness2
  case hc =>
    refine L2.walk_ofE (l := PySem.Challenge.rw_railhouse_k43_all_tables) (n := 63) (k := 11) (x := "_law_script") (CX := L2.CX0) rfl (by decide) (by kernel_rfl) ⟨rfl, by decide, by decide⟩ ?F (fun _ _ _ _ z => z)
    intro w mg fa h Y G hmg0
    obtain ⟨K, KX, c⟩ := Y
    have hmg : mg ("law" : PySem.Str) = some (.ref fa) := by
      have e : (HandSHeadRun.topDef (OpenLaw.row PySem.Challenge.rw_railhouse_k43_all_tables).prog 42).name = ("law" : PySem.Str) := by kernel_rfl
      rw [← e]
      exact hmg0
    obtain ⟨fd, hb, hF⟩ := Kx.facts (l := PySem.Challenge.rw_railhouse_k43_all_tables) (w := w) KX G hmg c
    exact ⟨K, fd, Kx.spLaw K, KX, hb, fun H a ns hl _ hS => ⟨a, ns, rfl, hS, hl, fun _ => rfl⟩, hF⟩
#print axioms PySem.Challenge.cw_railhouse_k43_all_tables_holds
