import PyProof.Rows.All
import Wide.All
import OpenK.AllK
import Wide.FinOn
import HandS.ForMost
import HandS.Evl
import HandS.Deep
import HandS.Defaults
import HandS.MakeKwOnly
import HandS.IsInst
import HandS.Style
import HandS.SortRule
import HandS.SortInts
import HandS.Wide
import HandS.Rev
import KE.KSortTupAny
import HandS.ExcInit
import HandS.ExcField
import HandS.TryMany
import HandS.WordsExc
import HandS.ExcOwn
import HandS.CallSlots
import HandS.ExcIs
import KE.KExcIs
import HandS.Conv
import HandS.More
import HandS.Zip
import HandS.SetFor
import HandS.OwnEq
import KE.RegKIsAll
import PySem.Challenge.RW_railhouse_k03_equal_layouts_and_copies
set_option Elab.async false
set_option linter.all false
set_option maxRecDepth 100000
set_option maxHeartbeats 4000000
/-! A layer of our own: G is what is known of the heap H. -/
namespace Lw
open PySem L2
open Evl (Ex)

/-! ### what is known grows -/
def Gr (G G' H H' : Hp) : Prop := Ex G G' ∧ Ex G' H' ∧ Ex H H' ∧ ∀ a, H a ≠ none → G a = none → G' a = none
theorem exTrans {H H1 H2 : Hp} (a : Ex H H1) (b : Ex H1 H2) : Ex H H2 := Ex.trans a b
theorem Gr.same {G H H' : Hp} (e : Ex G H) (e2 : Ex H H') : Gr G G H H' := ⟨Ex.refl G, e.trans e2, e2, fun _ _ h => h⟩
theorem Gr.refl {G H : Hp} (e : Ex G H) : Gr G G H H := .same e (Ex.refl H)
theorem Gr.ok {G G' H H' : Hp} (a : Gr G G' H H') : Ex G' H' := a.2.1
theorem Gr.up {G G' H H' : Hp} (a : Gr G G' H H') : Ex G G' := a.1
theorem Gr.hp {G G' H H' : Hp} (a : Gr G G' H H') : Ex H H' := a.2.2.1
theorem ne_none_of {o : Option HO} {x : HO} (h : o = some x) : o ≠ none := by rw [h]; exact fun z => nomatch z
theorem exNe {H H' : Hp} (e : Ex H H') {a : Addr} (h : H a ≠ none) : H' a ≠ none := by
  cases q : H a with
  | none => exact absurd q h
  | some o => exact ne_none_of (e a o q)
theorem Gr.trans {G G1 G2 H H1 H2 : Hp} (a : Gr G G1 H H1) (b : Gr G1 G2 H1 H2) : Gr G G2 H H2 :=
  ⟨a.1.trans b.1, b.2.1, a.2.2.1.trans b.2.2.1, fun x h g => b.2.2.2 x (exNe a.2.2.1 h) (a.2.2.2 x h g)⟩
theorem Gr.then {G G1 H H1 H2 : Hp} (a : Gr G G1 H H1) (b : Ex H1 H2) : Gr G G1 H H2 := a.trans (.same a.ok b)
theorem none_back {G H : Hp} (e : Ex G H) {p : Addr} (h : H p = none) : G p = none := Evl.fresh_back e h
theorem Gr.new {G H : Hp} {p : Addr} {o : HO} (e : Ex G H) (hp : H p = none) : Gr G (upd G p o) H (upd H p o) := by
  refine ⟨Ex.new (none_back e hp), fun a u q => ?_, Ex.new hp, fun a h g => ?_⟩
  · by_cases ap : a = p
    · subst ap
      rw [upd_same] at q ⊢
      exact q
    · rw [upd_ne ap] at q ⊢
      exact e a u q
  · have ap : a ≠ p := fun z => h (by rw [z]; exact hp)
    rw [upd_ne ap]
    exact g
/-- the knowledge of two readings, one behind the other -/
theorem Gr.join {G G1 G2 H H1 H2 : Hp} (a : Gr G G1 H H1) (b : Gr G G2 H1 H2) : ∃ G3, Ex G1 G3 ∧ Ex G2 G3 ∧ Gr G G3 H H2 := by
  refine ⟨fun x => match G1 x with | some o => some o | none => G2 x, fun x o q => ?_, fun x o q => ?_, ⟨fun x o q => ?_, fun x o q => ?_, a.2.2.1.trans b.2.2.1, fun x h g => ?_⟩⟩
  · show (match G1 x with | some o => some o | none => G2 x) = some o
    rw [q]
  · show (match G1 x with | some o => some o | none => G2 x) = some o
    cases e : G1 x with
    | none => exact q
    | some o' =>
      have h1 := b.2.2.1 x o' (a.2.1 x o' e)
      rw [b.2.1 x o q] at h1
      exact h1.symm
  · show (match G1 x with | some o => some o | none => G2 x) = some o
    rw [a.1 x o q]
  · have q' : (match G1 x with | some o => some o | none => G2 x) = some o := q
    cases e : G1 x with
    | none =>
      rw [e] at q'
      exact b.2.1 x o q'
    | some o' =>
      rw [e] at q'
      cases q'
      exact b.2.2.1 x o (a.2.1 x o e)
  · show (match G1 x with | some o => some o | none => G2 x) = none
    rw [a.2.2.2 x h g]
    exact b.2.2.2 x (exNe a.2.2.1 h) g
/-- an object that is new since H0 may change -/
theorem Gr.mut {G0 G H0 H : Hp} {p : Addr} {o : HO} (e0 : Ex G0 H0) (a : Gr G0 G H0 H) (hp : H0 p = none) : Gr G0 (upd G p o) H0 (upd H p o) := by
  refine ⟨fun b u q => ?_, fun b u q => ?_, fun b u q => ?_, fun b h g => ?_⟩
  · rw [upd_ne (ne_of_none q (none_back e0 hp))]
    exact a.1 b u q
  · by_cases ap : b = p
    · subst ap
      rw [upd_same] at q ⊢
      exact q
    · rw [upd_ne ap] at q ⊢
      exact a.2.1 b u q
  · rw [upd_ne (ne_of_none q hp)]
    exact a.2.2.1 b u q
  · have ap : b ≠ p := fun z => h (by rw [z]; exact hp)
    rw [upd_ne ap]
    exact a.2.2.2 b h g
theorem upd_self' {H : Hp} {p : Addr} {o : HO} (h : H p = some o) : upd H p o = H := by
  funext b
  by_cases e : b = p
  · rw [e, upd_same, h]
  · rw [upd_ne e]
/-- .. and may be known -/
theorem Gr.know {G0 G H0 H : Hp} {p : Addr} {o : HO} (e0 : Ex G0 H0) (a : Gr G0 G H0 H) (hp : H0 p = none) (h : H p = some o) : Gr G0 (upd G p o) H0 H := by
  have q := Gr.mut (o := o) e0 a hp
  rw [upd_self' h] at q
  exact q
theorem ex_know {G H : Hp} {p : Addr} {o : HO} (e : Ex G H) (h : H p = some o) : Ex (upd G p o) H := fun b u q => by
  by_cases ap : b = p
  · subst ap
    rw [upd_same] at q
    cases q
    exact h
  · rw [upd_ne ap] at q
    exact e b u q
theorem ex_off {G H : Hp} {p : Addr} {o : HO} (e : Ex G H) (h : G p = none) : Ex G (upd H p o) := fun b u q => by
  rw [upd_ne (ne_of_none q h)]
  exact e b u q
theorem ex_in {G : Hp} {p : Addr} {o : HO} (h : G p = none) : Ex G (upd G p o) := Ex.new h

/-! ### data -/
section
variable {K : PySem.W.Frag}
mutual
theorem Dp.ex {G G' : Hp} (e : Ex G G') : ∀ (d : PyData) (v : V), Dp K G v d → Dp K G' v d
  | .none, _, h => by cases h; exact .non
  | .bool b, _, h => by cases h; exact .bl b
  | .int i, _, h => by cases h; exact .int i
  | .str x, _, h => by cases h; exact .str x
  | .list ds, _, h => by
    cases h with
    | lst hs ha => exact .lst (Evl.ex_l e hs) (DpAll.ex e ds _ ha)
  | .tuple ds, _, h => by
    cases h with
    | tup hs ha => exact .tup (Evl.ex_t e hs) (DpAll.ex e ds _ ha)
  | .dict _, _, h => by cases h
theorem DpAll.ex {G G' : Hp} (e : Ex G G') : ∀ (ds : List PyData) (vs : List V), DpAll K G vs ds → DpAll K G' vs ds
  | [], _, h => by cases h; exact .nil
  | d :: ds, _, h => by
    cases h with
    | cons h1 h2 => exact .cons (Dp.ex e d _ h1) (DpAll.ex e ds _ h2)
end
theorem dpx {G G' : Hp} {v : V} {d : PyData} (h : Dp K G v d) (e : Ex G G') : Dp K G' v d := Dp.ex e d v h
theorem dpax {G G' : Hp} {vs : List V} {ds : List PyData} (h : DpAll K G vs ds) (e : Ex G G') : DpAll K G' vs ds := DpAll.ex e ds vs h
theorem dpa_len {G : Hp} : ∀ {vs : List V} {ds : List PyData}, DpAll K G vs ds → vs.length = ds.length
  | _, _, .nil => rfl
  | _, _, .cons _ h => congrArg Nat.succ (dpa_len h)
theorem dpa_snoc {G : Hp} : ∀ {vs : List V} {ds : List PyData} {v : V} {d : PyData}, DpAll K G vs ds → Dp K G v d → DpAll K G (vs ++ [v]) (ds ++ [d])
  | _, _, _, _, .nil, h => .cons h .nil
  | _, _, _, _, .cons a r, h => .cons a (dpa_snoc r h)
theorem dpa_get {G : Hp} : ∀ {vs : List V} {ds : List PyData} {i : Nat} {v : V}, DpAll K G vs ds → vs[i]? = some v → ∃ d, ds[i]? = some d ∧ Dp K G v d
  | _, _, i, v, .nil, h => by simp at h
  | _, _, 0, v, .cons a r, h => ⟨_, rfl, by cases h; exact a⟩
  | _, _, i + 1, v, .cons a r, h => dpa_get (i := i) r h
theorem dpa_get' {G : Hp} : ∀ {vs : List V} {ds : List PyData} {i : Nat} {d : PyData}, DpAll K G vs ds → ds[i]? = some d → ∃ v, vs[i]? = some v ∧ Dp K G v d
  | _, _, i, d, .nil, h => by simp at h
  | _, _, 0, d, .cons a r, h => ⟨_, rfl, by cases h; exact a⟩
  | _, _, i + 1, d, .cons a r, h => dpa_get' (i := i) r h
theorem dpa_ints {G : Hp} : ∀ (zs : List Int), DpAll K G (zs.map V.int) (zs.map PyData.int)
  | [] => .nil
  | z :: zs => .cons (.int z) (dpa_ints zs)
theorem dpa_bls {G : Hp} : ∀ (zs : List Bool), DpAll K G (zs.map V.bl) (zs.map PyData.bool)
  | [] => .nil
  | z :: zs => .cons (.bl z) (dpa_bls zs)
theorem dpa_ints_eq {G : Hp} : ∀ {zs : List Int} {vs : List V}, DpAll K G vs (zs.map PyData.int) → vs = zs.map V.int
  | [], _, .nil => rfl
  | z :: zs, _, .cons h r => by
    cases h
    rw [dpa_ints_eq r]
    rfl
theorem dpa_bls_eq {G : Hp} : ∀ {zs : List Bool} {vs : List V}, DpAll K G vs (zs.map PyData.bool) → vs = zs.map V.bl
  | [], _, .nil => rfl
  | z :: zs, _, .cons h r => by
    cases h
    rw [dpa_bls_eq r]
    rfl
theorem dp_lst {G : Hp} {v : V} {ds : List PyData} (h : Dp K G v (.list ds)) : ∃ a xs, v = .ref a ∧ SqL K G a xs ∧ DpAll K G xs ds := by
  cases h with
  | lst hs ha => exact ⟨_, _, rfl, hs, ha⟩
theorem dp_tup {G : Hp} {v : V} {ds : List PyData} (h : Dp K G v (.tuple ds)) : ∃ a xs, v = .ref a ∧ SqT K G a xs ∧ DpAll K G xs ds := by
  cases h with
  | tup hs ha => exact ⟨_, _, rfl, hs, ha⟩
theorem dp_mkL {G : Hp} {p : Addr} {xs : List V} {ds : List PyData} (h : G p = some (.lst xs)) (ha : DpAll K G xs ds) : Dp K G (.ref p) (.list ds) := .lst (Evl.sq_of h) ha
theorem dp_mkT {G : Hp} {p : Addr} {xs : List V} {ds : List PyData} (h : G p = some (.tup xs)) (ha : DpAll K G xs ds) : Dp K G (.ref p) (.tuple ds) := .tup (Evl.st_of h) ha
end

/-! ### readings of expressions -/
abbrev VP := V → Hp → Prop
def EF (te : TE) (σ : L2.St) (G : Hp) (P : VP) : Prop := ∀ H, Ex G H → ∀ Q : VK, (∀ v G' H', Gr G G' H H' → P v G' → Q v H') → te σ H Q
def ET (t : TT) (σ : L2.St) (G : Hp) (p : Bool → Prop) : Prop := ∀ H, Ex G H → ∀ Q : Bool → Hp → Prop, (∀ b H', Ex H H' → p b → Q b H') → t σ H Q
def EA (ta : TA) (σ : L2.St) (G : Hp) (P : List V → Hp → Prop) : Prop := ∀ H, Ex G H → ∀ Q : List V → Hp → Prop, (∀ vs G' H', Gr G G' H H' → P vs G' → Q vs H') → ta σ H Q
def RO (r : R2) (x y : V) (G : Hp) (P : VP) : Prop := ∀ H, Ex G H → ∀ Q : VK, (∀ v G' H', Gr G G' H H' → P v G' → Q v H') → r x y H Q
def RA (r : List V → Hp → VK → Prop) (vs : List V) (G : Hp) (P : VP) : Prop := ∀ H, Ex G H → ∀ Q : VK, (∀ v G' H', Gr G G' H H' → P v G' → Q v H') → r vs H Q
/-- a promise kept: from the knowledge G -/
def SA (sp : Sp) (vs : List V) (G : Hp) (P : VP) : Prop := ∀ H, Ex G H → ∀ (Q : VK) (E : XK), (∀ v G' H', Gr G G' H H' → P v G' → Q v H') → sp vs H Q E
def IV (p : Int → Prop) : VP := fun v _ => ∃ z, v = .int z ∧ p z
def BV (p : Bool → Prop) : VP := fun v _ => ∃ z, v = .bl z ∧ p z
def DV (K : PySem.W.Frag) (d : PyData) : VP := fun v G => Dp K G v d
def XV (x : V) : VP := fun v _ => v = x
def Mo (P : VP) : Prop := ∀ v G G', Ex G G' → P v G → P v G'
theorem mo_IV {p} : Mo (IV p) := fun _ _ _ _ h => h
theorem mo_BV {p} : Mo (BV p) := fun _ _ _ _ h => h
theorem mo_XV {p} : Mo (XV p) := fun _ _ _ _ h => h
theorem mo_DV {K d} : Mo (DV K d) := fun _ _ _ e h => dpx h e
section
variable {K : PySem.W.Frag} {σ : L2.St} {G G' H H' : Hp} {ta tb te tx : TE} {t u : TT} {x y z v : V} {r : R2} {P Pa Pb : VP}
theorem EF.imp {P' : VP} (h : EF te σ G P) (k : ∀ v G', Ex G G' → P v G' → P' v G') : EF te σ G P' := fun H e Q q => h H e Q fun v G' H' g p => q v G' H' g (k v G' g.up p)
theorem ef_var {i : Nat} (h : σ[i]? = some (some v)) (p : P v G) : EF (tVar i) σ G P := fun H e _ q => ⟨v, h, q v G H (.refl e) p⟩
theorem ef_c (p : P v G) : EF (tC v) σ G P := fun H e _ q => q v G H (.refl e) p
theorem ei_c {i : Int} {p : Int → Prop} (h : p i) : EF (tC (.int i)) σ G (IV p) := ef_c ⟨i, rfl, h⟩
theorem ei_var {i : Nat} {z : Int} {p : Int → Prop} (h : σ[i]? = some (some (.int z))) (hp : p z) : EF (tVar i) σ G (IV p) := ef_var h ⟨z, rfl, hp⟩
theorem ef_op (mA : Mo Pa) (mB : Mo Pb) (ha : EF ta σ G Pa) (hb : EF tb σ G Pb) (hr : ∀ x y G', Ex G G' → Pa x G' → Pb y G' → RO r x y G' P) : EF (tOp r ta tb) σ G P := fun H e Q q =>
  ha H e _ fun x G1 H1 g1 p1 => hb H1 (g1.up.trans g1.ok) _ fun y G2 H2 g2 p2 => by
    obtain ⟨G3, e1, e2, g3⟩ := g1.join g2
    exact hr x y G3 g3.up (mA x _ _ e1 p1) (mB y _ _ e2 p2) H2 g3.ok Q fun v G4 H4 g4 p4 => q v G4 H4 (g3.trans g4) p4
theorem ro_I0 {f : Int → Int → V} {i j : Int} (p : P (f i j) G) : RO (rI0 f) (.int i) (.int j) G P := fun H e _ q => ⟨i, j, rfl, rfl, q _ G H (.refl e) p⟩
theorem ro_I {C : Int → Int → Prop} {f : Int → Int → V} {i j : Int} (hc : C i j) (p : P (f i j) G) : RO (rI C f) (.int i) (.int j) G P := fun H e _ q => ⟨i, j, rfl, rfl, hc, q _ G H (.refl e) p⟩
/-- two ints -/
theorem ei_op0 {f : Int → Int → V} {p q : Int → Prop} (ha : EF ta σ G (IV p)) (hb : EF tb σ G (IV q)) (h : ∀ a b G', p a → q b → P (f a b) G') : EF (tOp (rI0 f) ta tb) σ G P :=
  ef_op mo_IV mo_IV ha hb fun x y G' _ hx hy => by
    obtain ⟨a, rfl, pa⟩ := hx
    obtain ⟨b, rfl, pb⟩ := hy
    exact ro_I0 (h a b G' pa pb)
theorem ei_opC {C : Int → Int → Prop} {f : Int → Int → V} {p q : Int → Prop} (ha : EF ta σ G (IV p)) (hb : EF tb σ G (IV q)) (hc : ∀ a b, p a → q b → C a b) (h : ∀ a b G', p a → q b → P (f a b) G') : EF (tOp (rI C f) ta tb) σ G P :=
  ef_op mo_IV mo_IV ha hb fun x y G' _ hx hy => by
    obtain ⟨a, rfl, pa⟩ := hx
    obtain ⟨b, rfl, pb⟩ := hy
    exact ro_I (hc a b pa pb) (h a b G' pa pb)
theorem ei_add {p q s : Int → Prop} (ha : EF ta σ G (IV p)) (hb : EF tb σ G (IV q)) (h : ∀ a b, p a → q b → s (a + b)) : EF (tOp (rI0 fun i j => .int (i + j)) ta tb) σ G (IV s) := ei_op0 ha hb fun a b _ pa pb => ⟨_, rfl, h a b pa pb⟩
theorem ei_sub {p q s : Int → Prop} (ha : EF ta σ G (IV p)) (hb : EF tb σ G (IV q)) (h : ∀ a b, p a → q b → s (a - b)) : EF (tOp (rI0 fun i j => .int (i - j)) ta tb) σ G (IV s) := ei_op0 ha hb fun a b _ pa pb => ⟨_, rfl, h a b pa pb⟩
/-! tests -/
theorem et_test {p : Bool → Prop} (h : EF te σ G (BV p)) : ET (tTest te) σ G p := fun H e _ q => h H e _ fun v G' H' g hv => by
  obtain ⟨b, rfl, pb⟩ := hv
  exact ⟨b, rfl, q b H' g.hp pb⟩
theorem et_B {p : Bool → Prop} (h : EF te σ G (BV p)) : ET (tB te) σ G p := fun H e _ q => h H e _ fun v G' H' g hv => by
  obtain ⟨b, rfl, pb⟩ := hv
  exact ⟨b, rfl, q b H' g.hp pb⟩
theorem et_not {p : Bool → Prop} (h : ET t σ G fun b => p (!b)) : ET (tNot t) σ G p := fun H e _ q => h H e _ fun b H' e' pb => q (!b) H' e' pb
theorem et_and {p q s : Bool → Prop} (h1 : ET t σ G p) (h2 : p true → ET u σ G q) (ht : p true → ∀ b, q b → s b) (hf : p false → s false) : ET (tAnd t u) σ G s := fun H e Q k => h1 H e _ fun b H1 e1 pb => by
  cases b with
  | true =>
    show u σ H1 Q
    exact h2 pb H1 (e.trans e1) Q fun b2 H2 e2 p2 => k b2 H2 (e1.trans e2) (ht pb b2 p2)
  | false => exact k false H1 e1 (hf pb)
theorem et_or {p q s : Bool → Prop} (h1 : ET t σ G p) (h2 : p false → ET u σ G q) (ht : p true → s true) (hf : p false → ∀ b, q b → s b) : ET (tOr t u) σ G s := fun H e Q k => h1 H e _ fun b H1 e1 pb => by
  cases b with
  | true => exact k true H1 e1 (ht pb)
  | false =>
    show u σ H1 Q
    exact h2 pb H1 (e.trans e1) Q fun b2 H2 e2 p2 => k b2 H2 (e1.trans e2) (hf pb b2 p2)
theorem ET.imp {p q : Bool → Prop} (h : ET t σ G p) (k : ∀ b, p b → q b) : ET t σ G q := fun H e Q c => h H e Q fun b H' e' pb => c b H' e' (k b pb)
theorem eb_not {p : Bool → Prop} (h : EF ta σ G (BV fun b => p (!b))) : EF (tNotV ta) σ G (BV p) := fun H e _ q => h H e _ fun v G' H' g hv => by
  obtain ⟨b, rfl, pb⟩ := hv
  exact ⟨b, rfl, q _ G' H' g ⟨!b, rfl, pb⟩⟩
theorem eb_and {p q s : Bool → Prop} (h1 : EF ta σ G (BV p)) (h2 : p true → EF tb σ G (BV q)) (ht : p true → ∀ b, q b → s b) (hf : p false → s false) : EF (tAndV ta tb) σ G (BV s) := fun H e Q k => h1 H e _ fun v G1 H1 g1 hv => by
  obtain ⟨b, rfl, pb⟩ := hv
  refine ⟨b, rfl, ?_⟩
  cases b with
  | true =>
    show tb σ H1 Q
    exact h2 pb H1 (g1.up.trans g1.ok) Q fun v2 G2 H2 g2 p2 => by
      obtain ⟨b2, rfl, pb2⟩ := p2
      exact k _ G2 H2 (⟨g2.up, g2.ok, g1.hp.trans g2.hp, fun a h g => g2.2.2.2 a (exNe g1.hp h) g⟩) ⟨b2, rfl, ht pb b2 pb2⟩
  | false =>
    show Q (.bl false) H1
    exact k _ G1 H1 g1 ⟨false, rfl, hf pb⟩
theorem ef_if {p : Bool → Prop} (h : ET t σ G p) (h1 : p true → EF ta σ G P) (h2 : p false → EF tb σ G P) : EF (tIf t ta tb) σ G P := fun H e Q k => h H e _ fun b H1 e1 pb => by
  cases b with
  | true =>
    show ta σ H1 Q
    exact h1 pb H1 (e.trans e1) Q fun v G2 H2 g2 p2 => k v G2 H2 (⟨g2.up, g2.ok, e1.trans g2.hp, fun a h g => g2.2.2.2 a (exNe e1 h) g⟩) p2
  | false =>
    show tb σ H1 Q
    exact h2 pb H1 (e.trans e1) Q fun v G2 H2 g2 p2 => k v G2 H2 (⟨g2.up, g2.ok, e1.trans g2.hp, fun a h g => g2.2.2.2 a (exNe e1 h) g⟩) p2
/-! arguments, displays, calls -/
theorem ea_nil : EA tNil σ G fun vs _ => vs = [] := fun H e _ q => q [] G H (.refl e) rfl
theorem ea_cons {tr : TA} {R S : List V → Hp → Prop} (mA : Mo Pa) (mR : ∀ vs G G', Ex G G' → R vs G → R vs G') (ha : EF ta σ G Pa) (hr : EA tr σ G R) (h : ∀ x xs G', Ex G G' → Pa x G' → R xs G' → S (x :: xs) G') : EA (tCons ta tr) σ G S := fun H e Q q =>
  ha H e _ fun x G1 H1 g1 p1 => hr H1 (g1.up.trans g1.ok) _ fun xs G2 H2 g2 p2 => by
    obtain ⟨G3, e1, e2, g3⟩ := g1.join g2
    exact q _ G3 H2 g3 (h x xs G3 g3.up (mA x _ _ e1 p1) (mR xs _ _ e2 p2))
theorem ea_one (ha : EF ta σ G P) : EA (tCons ta tNil) σ G fun vs G' => ∃ x, vs = [x] ∧ P x G' := fun H e Q q => ha H e _ fun x G1 H1 g1 p1 => q _ G1 H1 g1 ⟨x, rfl, p1⟩
theorem mo_two {Pa Pb : VP} (mA : Mo Pa) (mB : Mo Pb) : ∀ (vs : List V) (G G' : Hp), Ex G G' → (∃ x y, vs = [x, y] ∧ Pa x G ∧ Pb y G) → ∃ x y, vs = [x, y] ∧ Pa x G' ∧ Pb y G' := fun vs G G' e ⟨x, y, h, a, b⟩ => ⟨x, y, h, mA _ _ _ e a, mB _ _ _ e b⟩
theorem ea_two (mA : Mo Pa) (mB : Mo Pb) (ha : EF ta σ G Pa) (hb : EF tb σ G Pb) : EA (tCons ta (tCons tb tNil)) σ G fun vs G' => ∃ x y, vs = [x, y] ∧ Pa x G' ∧ Pb y G' :=
  ea_cons mA (fun vs G G' e ⟨y, h, b⟩ => ⟨y, h, mB _ _ _ e b⟩) ha (ea_one hb) fun x xs G' _ hx ⟨y, e, hy⟩ => ⟨x, y, by rw [e], hx, hy⟩
theorem ea_three {Pc : VP} {tc : TE} (mA : Mo Pa) (mB : Mo Pb) (mC : Mo Pc) (ha : EF ta σ G Pa) (hb : EF tb σ G Pb) (hc : EF tc σ G Pc) : EA (tCons ta (tCons tb (tCons tc tNil))) σ G fun vs G' => ∃ x y z, vs = [x, y, z] ∧ Pa x G' ∧ Pb y G' ∧ Pc z G' :=
  ea_cons mA (mo_two mB mC) ha (ea_two mB mC hb hc) fun x xs G' _ hx ⟨y, z, e, hy, hz⟩ => ⟨x, y, z, by rw [e], hx, hy, hz⟩
theorem ea_four {Pc Pd : VP} {tc td : TE} (mA : Mo Pa) (mB : Mo Pb) (mC : Mo Pc) (mD : Mo Pd) (ha : EF ta σ G Pa) (hb : EF tb σ G Pb) (hc : EF tc σ G Pc) (hd : EF td σ G Pd) :
    EA (tCons ta (tCons tb (tCons tc (tCons td tNil)))) σ G fun vs G' => ∃ x y z w, vs = [x, y, z, w] ∧ Pa x G' ∧ Pb y G' ∧ Pc z G' ∧ Pd w G' :=
  ea_cons mA (fun vs G G' e ⟨x, y, z, h, a, b, c⟩ => ⟨x, y, z, h, mB _ _ _ e a, mC _ _ _ e b, mD _ _ _ e c⟩) ha (ea_three mB mC mD hb hc hd) fun x xs G' _ hx ⟨y, z, w, e, hy, hz, hw⟩ => ⟨x, y, z, w, by rw [e], hx, hy, hz, hw⟩
/-- a new tuple, a new list -/
theorem ef_tup {ta : TA} {R : List V → Hp → Prop} (h : EA ta σ G R) (hl : ∀ vs G', R vs G' → vs.length ≤ 1000) (hP : ∀ p vs G', Ex G G' → G p = none → G' p = none → R vs G' → P (.ref p) (upd G' p (.tup vs))) : EF (tTup ta) σ G P := fun H e Q q =>
  h H e _ fun vs G1 H1 g1 p1 => ⟨Nat.le_trans (hl vs G1 p1) (by decide), fun p hp => q _ _ _ (g1.trans (.new g1.ok hp)) (hP p vs G1 g1.up (none_back (g1.up.trans g1.ok) hp) (none_back g1.ok hp) p1)⟩
theorem ef_lst {ta : TA} {R : List V → Hp → Prop} (h : EA ta σ G R) (hl : ∀ vs G', R vs G' → vs.length ≤ 1000) (hP : ∀ p vs G', Ex G G' → G p = none → G' p = none → R vs G' → P (.ref p) (upd G' p (.lst vs))) : EF (tLst ta) σ G P := fun H e Q q =>
  h H e _ fun vs G1 H1 g1 p1 => ⟨Nat.le_trans (hl vs G1 p1) (by decide), fun p hp => q _ _ _ (g1.trans (.new g1.ok hp)) (hP p vs G1 g1.up (none_back (g1.up.trans g1.ok) hp) (none_back g1.ok hp) p1)⟩
theorem ef_cb {r : List V → Hp → VK → Prop} {ta : TA} {R : List V → Hp → Prop} (h : EA ta σ G R) (hr : ∀ vs G', Ex G G' → R vs G' → RA r vs G' P) : EF (tCB r ta) σ G P := fun H e Q q =>
  h H e _ fun vs G1 H1 g1 p1 => hr vs G1 g1.up p1 H1 g1.ok Q fun v G2 H2 g2 p2 => q v G2 H2 (g1.trans g2) p2
theorem ef_call {sp : Sp} {dvs : List V} {E : XK} {ta : TA} {R : List V → Hp → Prop} (h : EA ta σ G R) (hr : ∀ vs G', Ex G G' → R vs G' → SA sp (vs ++ dvs) G' P) : EF (tCall sp dvs E ta) σ G P := fun H e Q q =>
  h H e _ fun vs G1 H1 g1 p1 => hr vs G1 g1.up p1 H1 g1.ok Q E fun v G2 H2 g2 p2 => q v G2 H2 (g1.trans g2) p2
/-- o.m(..), o known -/
theorem ef_meth {C : Addr} {m : Str} {sp : Sp} {dvs : List V} {E : XK} {ta : TA} {to : TE} {R : List V → Hp → Prop} {a : Addr} (ho : EF to σ G (XV (.ref a))) (hI : ∃ dx fs, G a = some (.ins C dx fs) ∧ fs.lookup m = none) (h : EA ta σ G R)
    (hr : ∀ vs G', Ex G G' → R vs G' → SA sp (.ref a :: (vs ++ dvs)) G' P) : EF (tMeth C m sp dvs E to ta) σ G P := fun H e Q q =>
  ho H e _ fun x G1 H1 g1 p1 => by
    obtain ⟨dx, fs, h1, h2⟩ := hI
    cases (show x = .ref a from p1)
    refine ⟨a, dx, fs, rfl, g1.hp _ _ (e _ _ h1), h2, h H1 (g1.up.trans g1.ok) _ fun vs G2 H2 g2 p2 => ?_⟩
    exact hr vs G2 g2.up p2 H2 g2.ok Q E fun v G3 H3 g3 p3 => q v G3 H3 (Gr.trans ⟨g2.up, g2.ok, g1.hp.trans g2.hp, fun a h g => g2.2.2.2 a (exNe g1.hp h) g⟩ g3) p3
/-- o.f -/
theorem ef_fld {C dx : Addr} {fs : List (Str × V)} {f : Str} {a : Addr} (ho : EF ta σ G (XV (.ref a))) (hI : G a = some (.ins C dx fs)) (hc : Cls K C) (hn : NoAttr K C f) (hl : fs.lookup f = some v) (hp : P v G) : EF (tFld K ta f) σ G P := fun H e Q q =>
  ho H e _ fun x G1 H1 g1 p1 => ⟨a, C, dx, fs, v, p1, g1.hp _ _ (e _ _ hI), hc, hn, hl, q v G H1 (.same e g1.hp) hp⟩
/-! data: items, membership, equality, len -/
theorem ixN_nat {n j : Nat} (hj : j < n) : ixN n (j : Int) = some j := Evl.ixN_nat hj
theorem atI_of {α : Type} {xs : List α} {j : Nat} {v : α} {i : Int} (e : i = (j : Int)) (h : xs[j]? = some v) : atI xs i = some v := by
  rw [e]
  unfold atI
  rw [Evl.ixN_nat (List.getElem?_eq_some_iff.mp h).1]
  exact h
theorem ed_ixL {ds : List PyData} {q : Int → Prop} (ha : EF ta σ G (DV K (.list ds))) (hb : EF tb σ G (IV q)) (h : ∀ i, q i → ∃ (j : Nat) (d : PyData), i = (j : Int) ∧ ds[j]? = some d ∧ ∀ v G', Dp K G' v d → P v G') : EF (tOp (rIxL K) ta tb) σ G P :=
  ef_op mo_DV mo_IV ha hb fun x y G' _ hx hy => by
    obtain ⟨i, rfl, qi⟩ := hy
    obtain ⟨a, xs, rfl, hs, hall⟩ := dp_lst hx
    obtain ⟨j, d, ej, hd, hP⟩ := h i qi
    obtain ⟨v, hv, dv⟩ := dpa_get' hall hd
    exact fun H e Q k => ⟨a, xs, i, v, rfl, rfl, Evl.ex_l e hs, atI_of ej hv, k v G' H (.refl e) (hP v G' dv)⟩
theorem ed_ixT {ds : List PyData} {q : Int → Prop} (ha : EF ta σ G (DV K (.tuple ds))) (hb : EF tb σ G (IV q)) (h : ∀ i, q i → ∃ (j : Nat) (d : PyData), i = (j : Int) ∧ ds[j]? = some d ∧ ∀ v G', Dp K G' v d → P v G') : EF (tOp (rIxT K) ta tb) σ G P :=
  ef_op mo_DV mo_IV ha hb fun x y G' _ hx hy => by
    obtain ⟨i, rfl, qi⟩ := hy
    obtain ⟨a, xs, rfl, hs, hall⟩ := dp_tup hx
    obtain ⟨j, d, ej, hd, hP⟩ := h i qi
    obtain ⟨v, hv, dv⟩ := dpa_get' hall hd
    exact fun H e Q k => ⟨a, xs, i, v, rfl, rfl, Evl.ex_t e hs, atI_of ej hv, k v G' H (.refl e) (hP v G' dv)⟩
theorem ed_inD {d : PyData} {ds : List PyData} (ha : EF ta σ G (DV K d)) (hb : EF tb σ G (DV K (.list ds))) (sd : SeqAt.shaped d = true) (sl : SeqAt.shaped (.list ds) = true) : EF (tOp (rInD K) ta tb) σ G (BV (· = ds.any fun z => PyData.eqv z d)) :=
  ef_op mo_DV mo_DV ha hb fun x y G' _ hx hy => fun H e Q k => ⟨d, ds, dpx hx e, dpx hy e, sd, sl, k _ G' H (.refl e) ⟨_, rfl, rfl⟩⟩
theorem ed_niD {d : PyData} {ds : List PyData} (ha : EF ta σ G (DV K d)) (hb : EF tb σ G (DV K (.list ds))) (sd : SeqAt.shaped d = true) (sl : SeqAt.shaped (.list ds) = true) : EF (tOp (rNotInD K) ta tb) σ G (BV (· = !ds.any fun z => PyData.eqv z d)) :=
  ef_op mo_DV mo_DV ha hb fun x y G' _ hx hy => fun H e Q k => ⟨d, ds, dpx hx e, dpx hy e, sd, sl, k _ G' H (.refl e) ⟨_, rfl, rfl⟩⟩
theorem ei_eq {p q : Int → Prop} {s : Bool → Prop} (ha : EF ta σ G (IV p)) (hb : EF tb σ G (IV q)) (h : ∀ a b, p a → q b → s (decide (a = b))) : EF (tOp rEq ta tb) σ G (BV s) :=
  ef_op mo_IV mo_IV ha hb fun x y G' _ hx hy => by
    obtain ⟨a, rfl, pa⟩ := hx
    obtain ⟨b, rfl, pb⟩ := hy
    refine fun H e Q k => ⟨rfl, k _ G' H (.refl e) ⟨_, rfl, ?_⟩⟩
    have e2 : decide (V.int a = V.int b) = decide (a = b) := by
      by_cases c : a = b
      · rw [c]; simp
      · rw [decide_eq_false c, decide_eq_false fun z => c (V.int.inj z)]
    rw [e2]
    exact h a b pa pb
theorem ei_ne {p q : Int → Prop} {s : Bool → Prop} (ha : EF ta σ G (IV p)) (hb : EF tb σ G (IV q)) (h : ∀ a b, p a → q b → s (!decide (a = b))) : EF (tOp rNe ta tb) σ G (BV s) :=
  ef_op mo_IV mo_IV ha hb fun x y G' _ hx hy => by
    obtain ⟨a, rfl, pa⟩ := hx
    obtain ⟨b, rfl, pb⟩ := hy
    refine fun H e Q k => ⟨rfl, k _ G' H (.refl e) ⟨_, rfl, ?_⟩⟩
    have e2 : decide (V.int a = V.int b) = decide (a = b) := by
      by_cases c : a = b
      · rw [c]; simp
      · rw [decide_eq_false c, decide_eq_false fun z => c (V.int.inj z)]
    rw [e2]
    exact h a b pa pb
theorem ed_lenL {ds : List PyData} (ha : EF ta σ G (DV K (.list ds))) : EF (tCB (Evl.rLenS K) (tCons ta tNil)) σ G (IV (· = (ds.length : Int))) := fun H e Q q => ha H e _ fun x G1 H1 g1 hx => by
  obtain ⟨a, xs, rfl, hs, hall⟩ := dp_lst hx
  refine ⟨a, xs, rfl, .inl (Evl.ex_l g1.ok hs), q _ G1 H1 g1 ⟨_, rfl, ?_⟩⟩
  rw [dpa_len hall]
theorem ed_list {ds : List PyData} (ha : EF ta σ G (DV K (.list ds))) : EF (tCB (Evl.rListS K) (tCons ta tNil)) σ G (fun v G' => ∃ p xs, v = .ref p ∧ G p = none ∧ G' p = some (.lst xs) ∧ DpAll K G' xs ds) := fun H e Q q => ha H e _ fun x G1 H1 g1 hx => by
  obtain ⟨a, xs, rfl, hs, hall⟩ := dp_lst hx
  refine ⟨a, xs, rfl, .inl (Evl.ex_l g1.ok hs), fun l hl => ?_⟩
  exact q _ _ _ (g1.trans (.new g1.ok hl)) ⟨l, xs, rfl, none_back (g1.up.trans g1.ok) hl, upd_same, dpax hall (ex_in (none_back g1.ok hl))⟩
end
end Lw

set_option Elab.async false
set_option linter.all false
set_option maxRecDepth 100000
set_option maxHeartbeats 4000000
/-! sorted of triples (int, text, int) whose first ints differ -/
namespace Lw
open PySem L2
open Evl (Ex)
open PyProof.Rows
section
variable {prog : Program} {w : World} {A : Around} {E : Value → Shared → Prop} {s : Shared}
def IsTr (h : Heap) (v : Value) (x : Int) : Prop := ∃ a o t y u z n m, v = .ref a ∧ h.get? a = some o ∧ o.cls = .type "tuple" ∧ o.data = .seq #[.int x t, .str y u, .int z n] m
theorem IsTr.keeps {h h' : Heap} {v : Value} {x : Int} (p : IsTr h v x) (k : ∀ b o, h.get? b = some o → o.cls = .type "tuple" → h'.get? b = some o) : IsTr h' v x := by
  obtain ⟨a, o, t, y, u, z, n, m, e, ho, hc, hd⟩ := p
  exact ⟨a, o, t, y, u, z, n, m, e, k a o ho hc, hc, hd⟩
theorem tr_firsts {h : Heap} {k : Value → Int} : ∀ {vs : List Value}, (∀ v ∈ vs, IsTr h v (k v)) → ∃ fs : List Value, PySem.W.KatTups h vs fs ∧ fs.length = vs.length ∧ ∀ f ∈ fs, ∃ x t, f = Value.int x t
  | [], _ => ⟨[], PySem.W.KatTups.nil, rfl, fun _ hm => by simp at hm⟩
  | v :: vs, hp => by
    obtain ⟨fs, h1, h2, h3⟩ := tr_firsts (k := k) (vs := vs) fun v' hm => hp v' (List.mem_cons_of_mem _ hm)
    have hv := hp v (List.mem_cons_self ..)
    generalize k v = x at hv
    obtain ⟨a, o, t, y, u, z, n, m, e, ho, hc, hd⟩ := hv
    subst e
    refine ⟨.int x t :: fs, PySem.W.KatTups.cons ho hc hd rfl h1, by rw [List.length_cons, List.length_cons, h2], fun f hm => ?_⟩
    rcases List.mem_cons.mp hm with rfl | hm
    · exact ⟨x, t, rfl⟩
    · exact h3 f hm
abbrev ltK (k : Value → Int) (v u : Value) : Bool := decide (k v < k u)
theorem ltK_swo (k : Value → Int) : SrtO.Swo (ltK k) := by
  refine ⟨fun x y h => ?_, fun x y z h1 h2 => ?_⟩
  · have a := of_decide_eq_true h
    exact decide_eq_false (by omega)
  · have a := of_decide_eq_false h1
    have b := of_decide_eq_false h2
    exact decide_eq_false (by omega)
theorem tr_cmp {vs : List Value} {k : Value → Int} (hp : ∀ v ∈ vs, IsTr s.heap v (k v)) (hi : ∀ v ∈ vs, ∀ u ∈ vs, k v = k u → v = u) : SrtO.Cmp prog w A s (tuples' true) (fun p => p.1 ∈ vs) (SrtO.lt2 (ltK k)) := by
  intro p q hm hm'
  have h1 := hp _ hm
  have h2 := hp _ hm'
  have hin := hi _ hm _ hm'
  show wpAny (model prog w) A (keyLt' (tuples' true) p.1 q.1) (fun r s' => s' = s ∧ r = decide (k p.1 < k q.1)) (fun _ _ => False) s
  by_cases hk : k p.1 = k q.1
  · have e0 := hin hk
    rw [e0] at h1 ⊢
    generalize k q.1 = x at h1 ⊢
    obtain ⟨a, o, t, y, u, z, n, m, e, ho, hc, hd⟩ := h1
    rw [e]
    refine PySem.W.kat_lt ho hd ho hd ?_
    show PySem.W.KatLex prog w A true (decide (3 < 3)) _ [(.int x t, .int x t), (.str y u, .str y u), (.int z n, .int z n)] 0 s
    refine PySem.W.kat_cons (SeqAt.EqAt.int_int x t x t prog w _ _ ?_)
    refine PySem.W.kat_go (fun _ => ?_) (fun e1 => absurd e1 (by simp))
    refine PySem.W.kat_yes (PySem.W.kat_cons (SeqAt.EqAt.str_str y u y u prog w _ _ ?_))
    refine PySem.W.kat_go (fun _ => ?_) (fun e1 => absurd e1 (by simp))
    refine PySem.W.kat_yes (PySem.W.kat_cons (SeqAt.EqAt.int_int z n z n prog w _ _ ?_))
    refine PySem.W.kat_go (fun _ => ?_) (fun e1 => absurd e1 (by simp))
    exact PySem.W.kat_yes (PySem.W.kat_nil ⟨rfl, (decide_eq_false (Int.lt_irrefl x)).symm⟩)
  · generalize k p.1 = x at h1 hk ⊢
    generalize k q.1 = x' at h2 hk ⊢
    obtain ⟨a, o, t, y, u, z, n, m, e, ho, hc, hd⟩ := h1
    obtain ⟨a', o', t', y', u', z', n', m', e', ho', hc', hd'⟩ := h2
    rw [e, e']
    refine PySem.W.kat_lt ho hd ho' hd' ?_
    show PySem.W.KatLex prog w A true (decide (3 < 3)) _ [(.int x t, .int x' t'), (.str y u, .str y' u'), (.int z n, .int z' n')] 0 s
    refine PySem.W.kat_cons (SeqAt.EqAt.int_int x t x' t' prog w _ _ ?_)
    refine PySem.W.kat_go (fun e1 => absurd (by simpa using e1) hk) (fun _ => ?_)
    exact PySem.W.kat_no (PyProof.Rows.oneLt_int ⟨rfl, rfl⟩)
theorem tr_sortable {a : Addr} {vs : List Value} {k : Value → Int} (h0 : 0 < vs.length) (hp : ∀ v ∈ vs, IsTr s.heap v (k v)) (hi : ∀ v ∈ vs, ∀ u ∈ vs, k v = k u → v = u) (ha : ∀ o, s.heap.get? a = some o → o.cls ≠ .type "tuple") : SrtO.SortableO prog w A s a vs (ltK k) := by
  intro h' keep
  have hp' : ∀ v ∈ vs, IsTr h' v (k v) := fun v hm => (hp v hm).keeps fun b o e c => keep b o (fun z => by subst z; exact ha o e c) e
  obtain ⟨fs, h1, h2, h3⟩ := tr_firsts hp'
  refine ⟨tuples' true, fun Q E hq => ?_, tr_cmp hp' hi⟩
  refine PySem.W.kat_kind (T := .type "int") h1 (by omega) (fun f hm => ?_) (by rfl) ?_
  · obtain ⟨x, t, rfl⟩ := h3 f hm
    exact PySem.W.Looks.now
  · have e : (Value.type "int" != Value.type "tuple") = true := by first | decide +kernel | rfl | decide
    rw [e]
    exact hq
theorem sorted_tr {l : Addr} {vs : List Value} {k : Value → Int} {Q : Value → Shared → Prop} (hl : s.heap.IsList l vs.toArray) (hz : vs.length ≤ sizeLine) (hp : ∀ v ∈ vs, IsTr s.heap v (k v)) (hi : ∀ v ∈ vs, ∀ u ∈ vs, k v = k u → v = u)
    (h : ∀ (h' : Heap) (d : Addr) (out : List Value), SrtO.Srtd (ltK k) out → SrtO.Stb (ltK k) out vs → (∀ b o, s.heap.get? b = some o → h'.get? b = some o) → s.heap.objs.size ≤ d → (∃ n, h'.get? d = some (seqObj "list" out.toArray n)) → Q (.ref d) { s with heap := h' }) :
    wpAny (model prog w) A (call (.builtin "sorted") [.ref l]) Q E s := by
  refine SrtO.sorted_ord (ltK_swo k) hl hz (fun h2 h₁ a ha kk => ?_) fun out hs hb => ?_
  · refine tr_sortable (s := { s with heap := h₁ }) (by omega) (fun v hm => (hp v hm).keeps fun b o e _ => (kk b o e).2) hi fun o e => ?_
    have e' : some o = some (seqObj "list" vs.toArray 0) := e.symm.trans ha
    cases e'
    intro c
    exact absurd (Value.type.inj c) (by decide)
  · exact h _ _ out hs hb (fun b o e => sortedAll_old e) (Nat.le_succ _) (sortedAll_at s.heap vs out.toArray)
end
/-- sorted(xs), xs triples with different first ints: the list by these -/
def rSortTr (K : PySem.W.Frag) : List V → Hp → VK → Prop := fun vs H Q => ∃ (a : Addr) (xs : List V) (k : V → Int), vs = [V.ref a] ∧ SqL K H a xs ∧ (∀ x ∈ xs, ∃ t y z, x = V.ref t ∧ H t = some (.tup [.int (k x), .str y, .int z])) ∧ (∀ x ∈ xs, ∀ y ∈ xs, k x = k y → x = y) ∧
  ∀ ys p, ys.Pairwise (fun x y => ¬ k y < k x) → ys.Perm xs → H p = none → Q (.ref p) (upd H p (.lst ys))
section
variable {X : Cx}
theorem cr_sortTr : CallR X (.builtin "sorted") (rSortTr X.K) := by
  intro pins s σ H vs us Q I r h
  obtain ⟨a, xs, k, rfl, hs, hx, hi, q⟩ := h
  obtain ⟨its, rv, hl, hz⟩ := I.list hs
  obtain ⟨u, rfl, ru⟩ := vals1 r
  obtain rfl : u = Value.ref a := ru
  obtain ⟨e1, e2⟩ := refs_back rv fun x m => by
    obtain ⟨t, _, _, e, _⟩ := hx x m
    exact ⟨t, e⟩
  refine sorted_tr (k := fun u => k (backV u)) hl.isList (by rw [← rv.length]; exact hz) (fun v hv => ?_) (fun v hv u hu e => ?_) fun h' d out h1 h2 kp hd hn => ?_
  · obtain ⟨t, rfl⟩ := e2 v hv
    have hm : V.ref t ∈ xs := by rw [e1]; exact List.mem_map.mpr ⟨_, hv, rfl⟩
    obtain ⟨t', y, z, e, ht⟩ := hx _ hm
    cases e
    obtain ⟨_, its2, r2, o, ho, hc, n, hd⟩ := I.hok _ _ ht
    obtain ⟨u1, us2, rfl, ri, r3⟩ : ∃ u1 us2, its2 = u1 :: us2 ∧ RelV (.int (k (.ref t))) u1 ∧ Vals [.str y, .int z] us2 := by
      cases r2 with
      | cons p q => exact ⟨_, _, rfl, p, q⟩
    obtain ⟨u2, u3, rfl, rj, rz⟩ := vals2 r3
    obtain ⟨t1, rfl⟩ := ri
    obtain ⟨t2, rfl⟩ := rj
    obtain ⟨t3, rfl⟩ := rz
    exact ⟨t, o, t1, y, t2, z, t3, n, rfl, ho, hc, hd⟩
  · obtain ⟨t, rfl⟩ := e2 v hv
    obtain ⟨t', rfl⟩ := e2 u hu
    have hm : V.ref t ∈ xs := by rw [e1]; exact List.mem_map.mpr ⟨_, hv, rfl⟩
    have hm' : V.ref t' ∈ xs := by rw [e1]; exact List.mem_map.mpr ⟨_, hu, rfl⟩
    have z := hi _ hm _ hm' e
    cases z
    rfl
  · have h3 : ∀ u ∈ out, ∃ a, u = Value.ref a := fun u hu => e2 u (h2.perm.mem_iff.mp hu)
    obtain ⟨n, hn⟩ := hn
    have hb : (out.map backV).Perm xs := by
      rw [e1]
      exact h2.perm.map backV
    refine ⟨.ref d, upd H d (.lst (out.map backV)), I.laid (t' := s.toks) kp hd ⟨?_, out, n, vals_back h3, hn⟩, rfl, q _ d ?_ hb (I.hok.fresh hd)⟩
    · rw [hb.length_eq]
      exact hz
    · refine List.pairwise_map.mpr (List.Pairwise.imp (fun {a b} hab => ?_) h1)
      have := of_decide_eq_false hab
      exact this
end
end Lw

set_option Elab.async false
set_option linter.all false
set_option maxRecDepth 100000
set_option maxHeartbeats 4000000
/-! statements, loops, comprehensions -/
namespace Lw
open PySem L2
open Evl (Ex)
section
variable {K : PySem.W.Frag} {σ : L2.St} {G G' H H' : Hp} {ta tb te tx : TE} {t u : TT} {x y z v : V} {r : R2} {P Pa Pb : VP} {D : Ends} {tu tw : TS} {g : TG}
theorem st_asg {i : Nat} (hG : Ex G H) (h : EF te σ G P) (k : ∀ v G' H', Gr G G' H H' → P v G' → D.nx (σ.set i (some v)) H') : tAsg te (gName i) D σ H := h H hG _ k
theorem st_ret (hG : Ex G H) (h : EF te σ G P) (k : ∀ v G' H', Gr G G' H H' → P v G' → D.rt v H') : tRet te D σ H := h H hG _ k
theorem st_drop (hG : Ex G H) (h : EF te σ G P) (k : ∀ v G' H', Gr G G' H H' → P v G' → D.nx σ H') : tDrop te D σ H := h H hG _ k
theorem st_if {p : Bool → Prop} (hG : Ex G H) (h : ET t σ G p) (h1 : p true → ∀ H', Ex H H' → tu D σ H') (h2 : p false → ∀ H', Ex H H' → tw D σ H') : tIfS t tu tw D σ H := h H hG _ fun b H' e pb => by
  cases b with
  | true =>
    show tu D σ H'
    exact h1 pb H' e
  | false =>
    show tw D σ H'
    exact h2 pb H' e
/-- an if that is never gone -/
theorem st_if0 (hG : Ex G H) (h : ET t σ G (· = false)) (h2 : ∀ H', Ex H H' → tw D σ H') : tIfS t tu tw D σ H := st_if hG h (fun z => nomatch z) fun _ => h2
/-- l.append(e): l a list that H alone tells -/
theorem st_app {l : Addr} {xs : List V} (hG : Ex G H) (hl : H l = some (.lst xs)) (ho : EF ta σ G (XV (.ref l))) (h : EF te σ G P) (hz : xs.length < 1000) (k : ∀ v G' H', Gr G G' H H' → P v G' → D.nx σ (upd H' l (.lst (xs ++ [v])))) :
    tDrop (tBM K "list" rAppend ta (tCons te tNil)) D σ H := ho H hG _ fun v1 G1 H1 g1 p1 => by
  cases (show v1 = .ref l from p1)
  refine ⟨.inl ⟨rfl, xs, Evl.sq_of (g1.hp _ _ hl)⟩, h H1 (hG.trans g1.hp) _ fun v2 G2 H2 g2 p2 => ?_⟩
  refine ⟨l, xs, v2, rfl, rfl, g2.hp _ _ (g1.hp _ _ hl), Nat.lt_of_lt_of_le hz (by decide), ?_⟩
  exact k v2 G2 H2 ⟨g2.up, g2.ok, g1.hp.trans g2.hp, fun a h g => g2.2.2.2 a (exNe g1.hp h) g⟩ p2
theorem st_forR1 {j : Nat} {n : Int} {ta : TA} (hG : Ex G H) (h : EA ta σ G fun vs _ => vs = [.int n]) (hn : n ≤ 100000) (hn0 : -100000 ≤ n) (W : Nat → L2.St → Hp → Prop) (h0 : ∀ H', Ex H H' → W 0 σ H')
    (hs : ∀ (i : Nat) σ' H', (i : Int) < n → W i σ' H' → tu { D with nx := W (i + 1), ct := W (i + 1), bk := D.nx } (σ'.set j (some (.int (i : Int)))) H') (hd : ∀ σ' H', W n.toNat σ' H' → D.nx σ' H') : tFor (iRng1 ta) (gName j) tu D σ H :=
  h H hG _ fun vs G1 H1 g1 e => ⟨n, e, by omega, by omega, for_range (lo := 0) (n := n.toNat) W (h0 H1 g1.hp) (fun i σ' H' hi p => by
    have e0 : (0 : Int) + (i : Int) = (i : Int) := Int.zero_add _
    show tu { D with nx := W (i + 1), ct := W (i + 1), bk := D.nx } (σ'.set j (some (.int ((0 : Int) + (i : Int))))) H'
    rw [e0]
    exact hs i σ' H' (by omega) p) hd⟩
theorem st_forR2 {j : Nat} {lo n : Int} {ta : TA} (hG : Ex G H) (h : EA ta σ G fun vs _ => vs = [.int lo, .int n]) (hn : 0 ≤ lo ∧ lo ≤ 100000 ∧ -100000 ≤ n ∧ n ≤ 100000) (W : Nat → L2.St → Hp → Prop) (h0 : ∀ H', Ex H H' → W 0 σ H')
    (hs : ∀ (i : Nat) σ' H', lo + (i : Int) < n → W i σ' H' → tu { D with nx := W (i + 1), ct := W (i + 1), bk := D.nx } (σ'.set j (some (.int (lo + (i : Int))))) H') (hd : ∀ σ' H', W (n - lo).toNat σ' H' → D.nx σ' H') : tFor (iRng2 ta) (gName j) tu D σ H :=
  h H hG _ fun vs G1 H1 g1 e => ⟨lo, n, e, ⟨by omega, by omega, by omega, by omega⟩, for_range (lo := lo) (n := (n - lo).toNat) W (h0 H1 g1.hp) (fun i σ' H' hi p => hs i σ' H' (by omega) p) hd⟩
/-- over a list that stays -/
theorem st_forL {xs : List V} {tl : TE} (hG : Ex G H) (h : EF tl σ G fun v G' => ∃ a, v = .ref a ∧ SqL K G' a xs) (W : Nat → L2.St → Hp → Prop) (h0 : ∀ G' H', Gr G G' H H' → W 0 σ H')
    (hl : ∀ G' H1 a, Gr G G' H H1 → SqL K G' a xs → ∀ i σ' H', i ≤ xs.length → W i σ' H' → SqL K H' a xs)
    (hs : ∀ i x σ' H', xs[i]? = some x → W i σ' H' → g x σ' H' fun σ2 H2 => tu { D with nx := W (i + 1), ct := W (i + 1), bk := D.nx } σ2 H2) (hd : ∀ σ' H', W xs.length σ' H' → D.nx σ' H') : tFor (iList K tl) g tu D σ H :=
  h H hG _ fun v G1 H1 g1 ⟨a, e, hx⟩ => ⟨a, e, ⟨xs, Evl.ex_l g1.ok hx⟩, for_list W (h0 G1 H1 g1) (hl G1 H1 a g1 hx) hs hd⟩

/-! ### comprehensions -/
/-- one turn: none, or a value -/
def EC (t : TT) (te : TE) (σ : L2.St) (G : Hp) (N : Hp → Prop) (Y : VP) : Prop := ∀ H, Ex G H → ∀ R : Option V → Hp → Prop, (∀ H', Ex H H' → N G → R none H') → (∀ y G' H', Gr G G' H H' → Y y G' → R (some y) H') →
  t σ H fun b H3 => if b = true then te σ H3 fun y H4 => R (some y) H4 else R none H3
theorem ec_all {N : Hp → Prop} {Y : VP} (h : EF te σ G Y) : EC tYes te σ G N Y := fun H e R _ k => by
  show if true = true then te σ H fun y H4 => R (some y) H4 else R none H
  rw [if_pos rfl]
  exact h H e _ k
theorem ec_if {p : Bool → Prop} {N : Hp → Prop} {Y : VP} (ht : ET t σ G p) (h : p true → EF te σ G Y) (hn : p false → N G) : EC t te σ G N Y := fun H e R k0 k => ht H e _ fun b H1 e1 pb => by
  cases b with
  | true =>
    rw [if_pos rfl]
    exact h pb H1 (e.trans e1) _ fun y G2 H2 g2 p2 => k y G2 H2 ⟨g2.up, g2.ok, e1.trans g2.hp, fun a h g => g2.2.2.2 a (exNe e1 h) g⟩ p2
  | false =>
    rw [if_neg Bool.false_ne_true]
    exact k0 H1 e1 (hn pb)
/-- the state between two turns: D the list that is made -/
def CW (G H1 : Hp) (D : Addr) (I : Nat → List V → Hp → Prop) (i : Nat) (H' : Hp) : Prop := ∃ G' xs, Ex G G' ∧ Ex G' H' ∧ G' D = none ∧ H' D = some (.lst xs) ∧ xs.length ≤ i ∧ I i xs G' ∧ Ex H1 H' ∧ ∀ a, H1 a ≠ none → G a = none → G' a = none
theorem cw_start {G H1 : Hp} {D : Addr} {I : Nat → List V → Hp → Prop} (e : Ex G H1) (hD : H1 D = none) (h0 : I 0 [] G) : CW G H1 D I 0 (upd H1 D (.lst [])) :=
  ⟨G, [], Ex.refl G, ex_off e (none_back e hD), none_back e hD, upd_same, Nat.le_refl _, h0, Ex.new hD, fun _ _ h => h⟩
theorem cw_turn {G H1 : Hp} {D : Addr} {I : Nat → List V → Hp → Prop} {i : Nat} {H' : Hp} {t : TT} {te : TE} {σ2 : L2.St} (hD : H1 D = none) (p : CW G H1 D I i H') (hi : i < 50000)
    (h : ∀ xs G', Ex G G' → I i xs G' → EC t te σ2 G' (fun G' => I (i + 1) xs G') fun y G' => I (i + 1) (xs ++ [y]) G') :
    t σ2 H' fun b H3 => if b = true then te σ2 H3 fun y H4 => ∃ acc, H4 D = some (.lst acc) ∧ acc.length < sizeLine ∧ CW G H1 D I (i + 1) (upd H4 D (.lst (acc ++ [y]))) else CW G H1 D I (i + 1) H3 := by
  obtain ⟨G', xs, e1, e2, gD, hd, hl, hI, e3, hc⟩ := p
  refine h xs G' e1 hI H' e2 (fun o H4 => match o with | some y => ∃ acc, H4 D = some (.lst acc) ∧ acc.length < sizeLine ∧ CW G H1 D I (i + 1) (upd H4 D (.lst (acc ++ [y]))) | none => CW G H1 D I (i + 1) H4) (fun H4 e4 hN => ?_) (fun y G2 H4 g4 hy => ?_)
  · exact ⟨G', xs, e1, e2.trans e4, gD, e4 _ _ hd, Nat.le_succ_of_le hl, hN, e3.trans e4, hc⟩
  · have g2D : G2 D = none := g4.2.2.2 D (ne_none_of hd) gD
    refine ⟨xs, g4.hp _ _ hd, Nat.lt_of_le_of_lt hl (Nat.lt_of_lt_of_le hi (by decide)), G2, xs ++ [y], e1.trans g4.up, ex_off g4.ok g2D, g2D, upd_same, by rw [List.length_append, List.length_singleton]; omega, hy, ?_, fun a h g => g4.2.2.2 a (exNe e3 h) (hc a h g)⟩
    exact ex_off (e3.trans g4.hp) hD
theorem cw_end {G H1 : Hp} {D : Addr} {I : Nat → List V → Hp → Prop} {i : Nat} {H' : Hp} {P : VP} {Q : VK} (hD : H1 D = none) (e : Ex G H1) (p : CW G H1 D I i H') (hP : ∀ p xs G', G p = none → G' p = none → Ex G G' → xs.length ≤ i → I i xs G' → P (.ref p) (upd G' p (.lst xs)))
    (q : ∀ v G' H', Gr G G' H1 H' → P v G' → Q v H') : Q (.ref D) H' := by
  obtain ⟨G', xs, e1, e2, gD, hd, hl, hI, e3, hc⟩ := p
  refine q _ (upd G' D (.lst xs)) H' ⟨e1.trans (ex_in gD), ex_know e2 hd, e3, fun a h g => ?_⟩ (hP D xs G' (none_back e hD) gD e1 hl hI)
  rw [upd_ne (fun z => h (by rw [z]; exact hD))]
  exact hc a h g
theorem ef_lcR1 {ta : TA} {j : Nat} {vs : List Nat} {n : Int} (I : Nat → List V → Hp → Prop) (h : EA ta σ G fun us _ => us = [.int n]) (hn : 0 ≤ n ∧ n ≤ 40000) (hw : ∀ x, wipe ((wipe σ vs).set j (some x)) vs = wipe σ vs) (h0 : ∀ G', Ex G G' → I 0 [] G')
    (hs : ∀ (i : Nat) xs G', Ex G G' → (i : Int) < n → I i xs G' → EC t te ((wipe σ vs).set j (some (.int (i : Int)))) G' (fun G' => I (i + 1) xs G') fun y G' => I (i + 1) (xs ++ [y]) G')
    (hP : ∀ p xs G', G p = none → G' p = none → Ex G G' → xs.length ≤ n.toNat → I n.toNat xs G' → P (.ref p) (upd G' p (.lst xs))) : EF (tLc (iRng1 ta) (gName j) t te vs) σ G P := fun H0 e Q q => h H0 e _ fun us G1 H1 g1 ev => ⟨n, ev, by omega, by omega, fun Dl hD =>
  lc_range (lo := 0) (n := n.toNat) (CW G1 H1 Dl I) (cw_start g1.ok hD (h0 G1 g1.up)) (fun i H' hi p => by
    have e0 : (0 : Int) + (i : Int) = (i : Int) := Int.zero_add _
    show wipe ((wipe σ vs).set j (some (.int ((0 : Int) + (i : Int))))) vs = wipe σ vs ∧ t ((wipe σ vs).set j (some (.int ((0 : Int) + (i : Int))))) H' fun b H3 => if b = true then te ((wipe σ vs).set j (some (.int ((0 : Int) + (i : Int))))) H3 fun y H4 => ∃ acc, H4 Dl = some (.lst acc) ∧ acc.length < sizeLine ∧ CW G1 H1 Dl I (i + 1) (upd H4 Dl (.lst (acc ++ [y]))) else CW G1 H1 Dl I (i + 1) H3
    rw [e0]
    exact ⟨hw _, cw_turn hD p (by omega) fun xs G' e' hI => hs i xs G' (g1.up.trans e') (by omega) hI⟩) (fun H' p => cw_end (P := P) hD g1.ok p (fun p xs G' g g' e' hl hI => hP p xs G' (none_back g1.up g) g' (g1.up.trans e') hl hI) fun v G' H' g' p' => q v G' H' (g1.trans g') p')⟩
theorem ef_lcL {xs : List V} {tl : TE} {j : Nat} {vs : List Nat} (I : Nat → List V → Hp → Prop) (h : EF tl σ G fun v G' => ∃ a, v = .ref a ∧ SqL K G' a xs) (hz : xs.length ≤ 40000) (hw : ∀ x, wipe ((wipe σ vs).set j (some x)) vs = wipe σ vs) (h0 : ∀ G', Ex G G' → I 0 [] G')
    (hs : ∀ (i : Nat) x acc G', Ex G G' → xs[i]? = some x → I i acc G' → EC t te ((wipe σ vs).set j (some x)) G' (fun G' => I (i + 1) acc G') fun y G' => I (i + 1) (acc ++ [y]) G')
    (hP : ∀ p acc G', G p = none → G' p = none → Ex G G' → acc.length ≤ xs.length → I xs.length acc G' → P (.ref p) (upd G' p (.lst acc))) : EF (tLc (iList K tl) (gName j) t te vs) σ G P := fun H0 e Q q => h H0 e _ fun v G1 H1 g1 ⟨a, ev, hx⟩ => ⟨a, ev, ⟨xs, Evl.ex_l g1.ok hx⟩, fun Dl hD =>
  lc_list (xs := xs) (CW G1 H1 Dl I) (cw_start g1.ok hD (h0 G1 g1.up)) (fun i H' _ p => by
    obtain ⟨G', _, e1, e2, _⟩ := p
    exact Evl.ex_l (e1.trans e2) hx) (fun i x H' hi p => ⟨hw x, cw_turn hD p (by have := (List.getElem?_eq_some_iff.mp hi).1; omega) fun acc G' e' hI => hs i x acc G' (g1.up.trans e') hi hI⟩)
    (fun H' p => cw_end (P := P) hD g1.ok p (fun p xs G' g g' e' hl hI => hP p xs G' (none_back g1.up g) g' (g1.up.trans e') hl hI) fun v G' H' g' p' => q v G' H' (g1.trans g') p')⟩
theorem tyes_go {σ : L2.St} {H : Hp} {Q : Bool → Hp → Prop} (h : Q true H) : tYes σ H Q := h
/-- the same without its turns -/
def CX2 (G H1 : Hp) (D : Addr) (J : List V → Hp → Prop) (H' : Hp) : Prop := ∃ G' xs, Ex G G' ∧ Ex G' H' ∧ G' D = none ∧ H' D = some (.lst xs) ∧ J xs G' ∧ Ex H1 H' ∧ ∀ a, H1 a ≠ none → G a = none → G' a = none
/-- two for's: a range, and a list that the turn knows; no tests -/
theorem ef_lc2 {ta : TA} {tl : TE} {j j1 : Nat} {vs vs1 : List Nat} {n : Int} (ys : Nat → List V) (I : Nat → Nat → List V → Hp → Prop) (h : EA ta σ G fun us _ => us = [.int n]) (hn : 0 ≤ n ∧ n ≤ 1000) (hy : ∀ i, (ys i).length ≤ 1000)
    (hw : ∀ x, wipe ((wipe σ vs).set j (some x)) vs = wipe σ vs) (hw1 : ∀ x y, wipe ((wipe ((wipe σ vs).set j (some x)) vs1).set j1 (some y)) vs1 = wipe ((wipe σ vs).set j (some x)) vs1) (h0 : ∀ G', Ex G G' → I 0 0 [] G')
    (hx : ∀ (i : Nat) xs G', (i : Int) < n → I i (ys i).length xs G' → I (i + 1) 0 xs G')
    (hl : ∀ (i : Nat) G', Ex G G' → (i : Int) < n → EF tl ((wipe σ vs).set j (some (.int (i : Int)))) G' fun v G'' => ∃ a, v = .ref a ∧ SqL K G'' a (ys i))
    (hm : ∀ i k xs G' G'', Ex G' G'' → I i k xs G' → I i k xs G'')
    (hs : ∀ (i k : Nat) y xs G', Ex G G' → (i : Int) < n → (ys i)[k]? = some y → I i k xs G' → EF te ((wipe ((wipe σ vs).set j (some (.int (i : Int)))) vs1).set j1 (some y)) G' fun y G' => I i (k + 1) (xs ++ [y]) G')
    (hc : ∀ i k xs G', I i k xs G' → xs.length ≤ 1000000)
    (hP : ∀ p xs G', G p = none → G' p = none → Ex G G' → I n.toNat 0 xs G' → P (.ref p) (upd G' p (.lst xs))) : EF (tLc2 (iRng1 ta) (gName j) tYes (iList K tl) (gName j1) tYes te vs vs1) σ G P := fun H0 e Q q => h H0 e _ fun us G1 H1 g1 ev => by
  refine ⟨n, ev, by omega, by omega, fun Dl hD => ?_⟩
  refine ⟨fun i m H' => m = n.toNat - i ∧ i ≤ n.toNat ∧ CX2 G1 H1 Dl (I i 0) H', ⟨n.toNat, by simp, Nat.zero_le _, ?_⟩, ?_⟩
  · exact ⟨G1, [], Ex.refl _, ex_off g1.ok (none_back g1.ok hD), none_back g1.ok hD, upd_same, h0 G1 g1.up, Ex.new hD, fun _ _ h => h⟩
  · rintro i m H' ⟨rfl, hi, p⟩
    by_cases hlt : i < n.toNat
    · refine .inr ⟨hlt, fun H'' => CX2 G1 H1 Dl (I (i + 1) 0) H'', fun H'' p' => ⟨n.toNat - (i + 1), by omega, rfl, hlt, p'⟩, fun x H'' yy => ?_⟩
      obtain ⟨ey, yy⟩ := yy
      subst ey yy
      have e0 : (0 : Int) + (i : Int) = (i : Int) := Int.zero_add _
      rw [e0]
      refine ⟨hw _, ?_⟩
      refine tyes_go (iteT ?_)
      obtain ⟨G', xs, e1, e2, gD, hd, hI, e3, hcc⟩ := p
      refine hl i G' (g1.up.trans e1) (by omega) _ e2 _ fun v G2 H2 g2 ⟨a, ea, hsl⟩ => ?_
      refine ⟨a, ea, ⟨ys i, Evl.ex_l g2.ok hsl⟩, ?_⟩
      refine ⟨fun k m H' => m = (ys i).length - k ∧ k ≤ (ys i).length ∧ CX2 G1 H1 Dl (fun xs G3 => Ex G2 G3 ∧ I i k xs G3) H', ⟨(ys i).length, by simp, Nat.zero_le _, ?_⟩, ?_⟩
      · exact ⟨G2, xs, e1.trans g2.up, g2.ok, g2.2.2.2 Dl (ne_none_of hd) gD, g2.hp _ _ hd, ⟨Ex.refl _, hm _ _ _ _ _ g2.up hI⟩, e3.trans g2.hp, fun b hb gb => g2.2.2.2 b (exNe e3 hb) (hcc b hb gb)⟩
      · rintro k m H3 ⟨rfl, hk, p3⟩
        obtain ⟨G4, xs4, f1, f2, fD, fd, ⟨fe, fI⟩, f3, fc⟩ := p3
        have hsl3 := Evl.ex_l (fe.trans f2) hsl
        by_cases hkl : k < (ys i).length
        · refine .inr ⟨⟨ys i, (ys i)[k], hsl3, by simp [hkl]⟩, fun H'' => CX2 G1 H1 Dl (fun xs G3 => Ex G2 G3 ∧ I i (k + 1) xs G3) H'', fun H'' p' => ⟨(ys i).length - (k + 1), by omega, rfl, hkl, p'⟩, fun y H'' yy => ?_⟩
          obtain ⟨ey, yy⟩ := yy
          subst ey
          have hyk := yy (ys i) hsl3
          refine ⟨hw1 _ _, ?_⟩
          refine tyes_go (iteT ?_)
          refine hs i k y xs4 G4 (g1.up.trans f1) (by omega) hyk fI _ f2 _ fun v5 G5 H5 g5 p5 => ?_
          have g5D : G5 Dl = none := g5.2.2.2 Dl (ne_none_of fd) fD
          exact ⟨xs4, g5.hp _ _ fd, Nat.lt_of_le_of_lt (hc _ _ _ _ fI) (by decide), ⟨G5, xs4 ++ [v5], f1.trans g5.up, ex_off g5.ok g5D, g5D, upd_same, ⟨fe.trans g5.up, p5⟩, ex_off (f3.trans g5.hp) hD, fun b hb gb => g5.2.2.2 b (exNe f3 hb) (fc b hb gb)⟩⟩
        · have ek : k = (ys i).length := by omega
          subst ek
          exact .inl ⟨⟨ys i, hsl3, Nat.le_refl _⟩, G4, xs4, f1, f2, fD, fd, hx _ _ _ (by omega) fI, f3, fc⟩
    · have ei : i = n.toNat := by omega
      subst ei
      refine .inl ⟨Nat.le_refl _, ?_⟩
      obtain ⟨G', xs, e1, e2, gD, hd, hI, e3, hcc⟩ := p
      refine q _ (upd G' Dl (.lst xs)) H' (g1.trans ⟨e1.trans (ex_in gD), ex_know e2 hd, e3, fun a h g => ?_⟩) (hP Dl xs G' (none_back (g1.up.trans g1.ok) hD) gD (g1.up.trans e1) hI)
      rw [upd_ne (fun z => h (by rw [z]; exact hD))]
      exact hcc a h g
end
end Lw

set_option Elab.async false
set_option linter.all false
set_option maxRecDepth 100000
set_option maxHeartbeats 4000000
/-! x in o by an own __contains__; is None, is True of anything; own field stores -/
namespace Lw
open PySem L2
open Evl (Ex)
section
variable {X : Cx} {CX : CXT} {k : Nat} {f C : Addr} {fd : FuncData} {ps : List Str} {sp : Sp} {E : XK}
def rInOwn (neg : Bool) (C : Addr) (sp : Sp) (E : XK) : R2 := fun x y H Q => ∃ a dx fs, y = .ref a ∧ H a = some (.ins C dx fs) ∧ sp [.ref a, x] H (fun v H2 => ∃ b, v = .bl b ∧ Q (.bl (if neg then !b else b)) H2) E
theorem contains_own {pins : List (Addr × Obj)} {σ : L2.St} {H : Hp} {s : Shared} {a : Addr} {dx : Addr} {fs : List (Str × V)} {x : V} {v : Value} {Q' : Bool → Hp → Prop} (hm : Meth X.K C "__contains__" f) (F : FnOk X.prog X.w X.K X.mg X.base CX k f fd ps sp) (hr : Room k X.A) (hb : Binds X.K fd ps []) (hx : Passes CX X E)
    (I : Inv X pins σ H s) (rx : RelV x v) (ea : H a = some (.ins C dx fs)) (h : sp [.ref a, x] H (fun v H2 => ∃ b, v = .bl b ∧ Q' b H2) E) :
    wpAny (model X.prog X.w) X.A (contains (.ref a) v) (fun b s' => ∃ H', Inv X pins σ H' s' ∧ Q' b H') X.xe s := by
  obtain ⟨mA, O, _⟩ := ins_get I.hok ea
  obtain ⟨od, J, _⟩ := O.look
  unfold contains
  refine wpAny_holding (wpAny_bind (wpAny_bind (J.type.here ((PySem.W.looks_findIn I.kIn hm.at_).here ?_))))
  rw [if_neg (by simp)]
  refine wpAny_bind (PySem.W.unlessNone_K I.kIn J hm.at_ hm.fn ?_)
  refine wpAny_mono (run_fn (us := [.ref a, v]) (vs := [.ref a, x]) (ds := []) (dvs := []) F hr hb .nil hx I (.cons rfl (.cons rx .nil)) h) (fun r s' hq => ?_) fun _ _ z => z
  obtain ⟨y, H', I', ry, b, rfl, q⟩ := hq
  cases (show r = Value.bool b from ry)
  exact wpAny_pure ⟨H', I', q⟩
theorem op_notInOwn (hm : Meth X.K C "__contains__" f) (F : FnOk X.prog X.w X.K X.mg X.base CX k f fd ps sp) (hr : Room k X.A) (hb : Binds X.K fd ps []) (hx : Passes CX X E) : OpR X (compareOp .NotIn) (rInOwn true C sp E) := by
  intro pins s σ H x y v u Q I rx ry h
  obtain ⟨a, dx, fs, rfl, ea, h⟩ := h
  cases (show u = Value.ref a from ry)
  refine wpAny_bind (wpAny_mono (contains_own (Q' := fun b H2 => Q (.bl (!b)) H2) hm F hr hb hx I rx ea h) (fun b s' hq => ?_) fun _ _ z => z)
  obtain ⟨H', I', q⟩ := hq
  exact wpAny_pure ⟨.bl (!b), H', I', rfl, q⟩
theorem op_inOwn (hm : Meth X.K C "__contains__" f) (F : FnOk X.prog X.w X.K X.mg X.base CX k f fd ps sp) (hr : Room k X.A) (hb : Binds X.K fd ps []) (hx : Passes CX X E) : OpR X (compareOp .In) (rInOwn false C sp E) := by
  intro pins s σ H x y v u Q I rx ry h
  obtain ⟨a, dx, fs, rfl, ea, h⟩ := h
  cases (show u = Value.ref a from ry)
  refine wpAny_bind (wpAny_mono (contains_own (Q' := fun b H2 => Q (.bl b) H2) hm F hr hb hx I rx ea h) (fun b s' hq => ?_) fun _ _ z => z)
  obtain ⟨H', I', q⟩ := hq
  exact wpAny_pure ⟨.bl b, H', I', rfl, q⟩
/-- x is True, False: x anything but an object of which one may not know -/
def rIsC (c : Bool) : R2 := fun x y H Q => y = .bl c ∧ Q (.bl (decide (x = .bl c))) H
theorem op_isC {c : Bool} : OpR X (compareOp .Is) (rIsC c) := by
  intro pins s σ H x y v u Q I rx ry h
  obtain ⟨rfl, q⟩ := h
  cases (show u = Value.bool c from ry)
  have no : (∀ b, x ≠ .bl b) → plainIs v (.bool c) = true → v ≠ .bool c → wpAny (model X.prog X.w) X.A (compareOp .Is v (.bool c)) (EP X pins σ Q) X.xe s := fun hx hp hn =>
    wpAny_is_other hp hn ⟨.bl false, H, I, rfl, by rw [decide_eq_false (hx c)] at q; exact q⟩
  cases x with
  | bl b =>
    cases (show v = Value.bool b from rx)
    by_cases e : b = c
    · subst e
      exact wpAny_is_self rfl ⟨.bl true, H, I, rfl, by simpa using q⟩
    · exact wpAny_is_other rfl (fun z => e (Value.bool.inj z)) ⟨.bl false, H, I, rfl, by simpa [e] using q⟩
  | non => cases rx; exact no (fun _ z => nomatch z) rfl (fun z => nomatch z)
  | int i => obtain ⟨t, rfl⟩ := rx; exact no (fun _ z => nomatch z) rfl (fun z => nomatch z)
  | str i => obtain ⟨t, rfl⟩ := rx; exact no (fun _ z => nomatch z) rfl (fun z => nomatch z)
  | byt i => obtain ⟨t, rfl⟩ := rx; exact no (fun _ z => nomatch z) rfl (fun z => nomatch z)
  | flt i => obtain ⟨t, rfl⟩ := rx; exact no (fun _ z => nomatch z) rfl (fun z => nomatch z)
  | ref i => cases rx; exact no (fun _ z => nomatch z) rfl (fun z => nomatch z)
  | ty i => cases rx; exact no (fun _ z => nomatch z) rfl (fun z => nomatch z)
end
end Lw

set_option Elab.async false
set_option linter.all false
set_option maxRecDepth 100000
set_option maxHeartbeats 4000000
/-! the mathematics: tracks, joints, demands as data -/
namespace Lw
open PySem L2
open Evl (Ex)

/-! ### data -/
abbrev dI (l : List Int) : PyData := .list (l.map PyData.int)
def dP (p : Int × Int) : PyData := .tuple [.int p.1, .int p.2]
abbrev dPs (l : List (Int × Int)) : PyData := .list (l.map dP)
def dTr (a : Int) (s : Str) (b : Int) : PyData := .tuple [.int a, .str s, .int b]
theorem eqv_int (a b : Int) : PyData.eqv (.int a) (.int b) = decide (a = b) := by
  simp only [PyData.eqv]
  by_cases h : a = b
  · simp [h]
  · simp [h]
theorem eqv_pair (p q : Int × Int) : PyData.eqv (dP p) (dP q) = decide (p = q) := by
  obtain ⟨a, b⟩ := p
  obtain ⟨c, d⟩ := q
  simp only [dP, PyData.eqv, PyData.eqvAll]
  by_cases h1 : a = c
  · by_cases h2 : b = d
    · simp [h1, h2]
    · simp [h1, h2]
  · simp [h1]
theorem any_int (l : List Int) (b : Int) : ((l.map PyData.int).any fun z => PyData.eqv z (.int b)) = decide (b ∈ l) := by
  induction l with
  | nil => rfl
  | cons a l ih =>
    rw [List.map_cons, List.any_cons, ih, eqv_int]
    by_cases h : b = a
    · simp [h]
    · have : ¬ a = b := fun z => h z.symm
      simp [h, this]
theorem any_pair (l : List (Int × Int)) (b : Int × Int) : ((l.map dP).any fun z => PyData.eqv z (dP b)) = decide (b ∈ l) := by
  induction l with
  | nil => rfl
  | cons a l ih =>
    rw [List.map_cons, List.any_cons, ih, eqv_pair]
    by_cases h : b = a
    · simp [h]
    · have : ¬ a = b := fun z => h z.symm
      simp [h, this]
theorem shaped_of {d : PyData} (h1 : d.canLay0 = true) (h2 : d.depth ≤ 64) : SeqAt.shaped d = true := by
  show (d.canLay0 && decide (d.depth ≤ 64)) = true
  rw [h1, decide_eq_true h2]
  rfl
theorem sh_int (a : Int) : SeqAt.shaped (.int a) = true := shaped_of (by simp [PyData.canLay0]) (by simp [PyData.depth])
theorem lay_ints : ∀ l : List Int, PyData.canLayAll0 (l.map PyData.int) = true
  | [] => by simp [PyData.canLayAll0]
  | z :: zs => by simp [PyData.canLayAll0, PyData.canLay0, lay_ints zs]
theorem dep_ints : ∀ l : List Int, PyData.depthAll (l.map PyData.int) ≤ 1
  | [] => by simp [PyData.depthAll]
  | z :: zs => by
    have h := dep_ints zs
    simp only [List.map_cons, PyData.depthAll, PyData.depth]
    omega
theorem sh_ints (l : List Int) : SeqAt.shaped (dI l) = true := shaped_of (by simp only [dI, PyData.canLay0]; exact lay_ints l) (by have := dep_ints l; simp only [dI, PyData.depth]; omega)
theorem dep_pair (p : Int × Int) : (dP p).depth ≤ 2 := by simp [dP, PyData.depth, PyData.depthAll]
theorem lay_pair (p : Int × Int) : (dP p).canLay0 = true := by simp [dP, PyData.canLay0, PyData.canLayAll0]
theorem sh_pair (p : Int × Int) : SeqAt.shaped (dP p) = true := shaped_of (lay_pair p) (by have := dep_pair p; omega)
theorem lay_pairs : ∀ l : List (Int × Int), PyData.canLayAll0 (l.map dP) = true
  | [] => by simp [PyData.canLayAll0]
  | z :: zs => by simp [PyData.canLayAll0, lay_pair, lay_pairs zs]
theorem dep_pairs : ∀ l : List (Int × Int), PyData.depthAll (l.map dP) ≤ 2
  | [] => by simp [PyData.depthAll]
  | z :: zs => by
    have h := dep_pairs zs
    have h2 := dep_pair z
    simp only [List.map_cons, PyData.depthAll]
    omega
theorem sh_pairs (l : List (Int × Int)) : SeqAt.shaped (dPs l) = true := shaped_of (by simp only [dPs, PyData.canLay0]; exact lay_pairs l) (by have := dep_pairs l; simp only [dPs, PyData.depth]; omega)

/-! ### joints -/
def eo (js : List (Int × Int)) (b : Int) : List Int := (js.filter fun p => decide (p.1 = b)).map (·.2)
def wo (js : List (Int × Int)) (b : Int) : List Int := (js.filter fun p => decide (p.2 = b)).map (·.1)
theorem eo_snoc_same (js : List (Int × Int)) (w e : Int) : eo (js ++ [(w, e)]) w = eo js w ++ [e] := by simp [eo, List.filter_append]
theorem eo_snoc_ne (js : List (Int × Int)) {w e b : Int} (h : w ≠ b) : eo (js ++ [(w, e)]) b = eo js b := by simp [eo, List.filter_append, h]
theorem wo_snoc_same (js : List (Int × Int)) (w e : Int) : wo (js ++ [(w, e)]) e = wo js e ++ [w] := by simp [wo, List.filter_append]
theorem wo_snoc_ne (js : List (Int × Int)) {w e b : Int} (h : e ≠ b) : wo (js ++ [(w, e)]) b = wo js b := by simp [wo, List.filter_append, h]
theorem eo_len_le (js : List (Int × Int)) (b : Int) : (eo js b).length ≤ js.length := by
  unfold eo
  rw [List.length_map]
  exact List.length_filter_le _ _
theorem wo_len_le (js : List (Int × Int)) (b : Int) : (wo js b).length ≤ js.length := by
  unfold wo
  rw [List.length_map]
  exact List.length_filter_le _ _
theorem mem_eo {js : List (Int × Int)} {w e : Int} : e ∈ eo js w ↔ (w, e) ∈ js := by
  unfold eo
  rw [List.mem_map]
  constructor
  · rintro ⟨⟨a, b⟩, h, rfl⟩
    obtain ⟨h1, h2⟩ := List.mem_filter.mp h
    have h2 := of_decide_eq_true h2
    subst h2
    exact h1
  · intro h
    exact ⟨(w, e), List.mem_filter.mpr ⟨h, decide_eq_true rfl⟩, rfl⟩
/-- what a new joint must be -/
structure JNew (n : Int) (parks : List Int) (js : List (Int × Int)) (w e : Int) : Prop where
  lo : 0 ≤ w
  lt : w < e
  hi : e < n
  new : (w, e) ∉ js
  ew : w ∉ parks → (eo js w).length ≠ 2
  we : e ∉ parks → (wo js e).length ≠ 2
inductive JOk (n : Int) (parks : List Int) : List (Int × Int) → Prop
  | nil : JOk n parks []
  | snoc {js : List (Int × Int)} {w e : Int} : JOk n parks js → JNew n parks js w e → JOk n parks (js ++ [(w, e)])
theorem JOk.at {n : Int} {parks : List Int} {js : List (Int × Int)} (h : JOk n parks js) : ∀ {i : Nat} {p : Int × Int}, js[i]? = some p → JNew n parks (js.take i) p.1 p.2 := by
  induction h with
  | nil => intro i p h; simp at h
  | snoc hj hn ih =>
    rename_i js w e
    intro i p hp
    by_cases hi : i < js.length
    · rw [List.getElem?_append_left hi] at hp
      rw [List.take_append_of_le_length (Nat.le_of_lt hi)]
      exact ih hp
    · have hl := (List.getElem?_eq_some_iff.mp hp).1
      rw [List.length_append, List.length_singleton] at hl
      have ei : i = js.length := by omega
      subst ei
      rw [List.getElem?_append_right (Nat.le_refl _)] at hp
      simp at hp
      subst hp
      rw [List.take_append_of_le_length (Nat.le_refl _), List.take_length]
      exact hn
theorem JOk.mem {n : Int} {parks : List Int} {js : List (Int × Int)} (h : JOk n parks js) {p : Int × Int} (m : p ∈ js) : 0 ≤ p.1 ∧ p.1 < p.2 ∧ p.2 < n := by
  obtain ⟨i, hi, e⟩ := List.getElem_of_mem m
  have q := h.at (i := i) (p := p) (by rw [List.getElem?_eq_getElem hi, e])
  exact ⟨q.lo, q.lt, q.hi⟩
theorem JOk.yards {n : Int} {parks parks2 : List Int} {js : List (Int × Int)} (h : JOk n parks js) (hs : ∀ p ∈ parks, p ∈ parks2) : JOk n parks2 js := by
  induction h with
  | nil => exact .nil
  | snoc hj hn ih => exact .snoc ih ⟨hn.lo, hn.lt, hn.hi, hn.new, fun z => hn.ew fun y => z (hs _ y), fun z => hn.we fun y => z (hs _ y)⟩
structure Trk where
  lens : List Int
  joints : List (Int × Int)
  parks : List Int
structure TrkOk (t : Trk) : Prop where
  pos : 1 ≤ t.lens.length
  few : t.lens.length ≤ 200
  one : ∀ l ∈ t.lens, 1 ≤ l
  fewP : t.parks.length ≤ 200
  inP : ∀ b ∈ t.parks, 0 ≤ b ∧ b < (t.lens.length : Int)
  fewJ : t.joints.length ≤ 900
  js : JOk (t.lens.length : Int) t.parks t.joints
def dT (t : Trk) : PyData := .tuple [dI t.lens, dPs t.joints, dI t.parks]

/-! ### demands -/
def eastS : Str := "east"
def westS : Str := "west"
def wantD (parks : List Int) (js : List (Int × Int)) (w e : Int) : List PyData :=
  (if w ∉ parks ∧ (eo js w).length = 2 then [dTr w eastS e] else []) ++ (if e ∉ parks ∧ (wo js e).length = 2 then [dTr e westS w] else [])
/-- data whose sameness is asked: depth at most n -/
def Okd : Nat → PyData → Prop
  | _, .int _ => True
  | _, .str _ => True
  | n + 1, .list ds => ds.length ≤ 1000 ∧ ∀ d ∈ ds, Okd n d
  | n + 1, .tuple ds => ds.length ≤ 1000 ∧ ∀ d ∈ ds, Okd n d
  | _, _ => False
theorem ok_tr (a b : Int) (s : Str) : Okd 1 (dTr a s b) := by
  unfold dTr Okd
  refine ⟨by simp, fun d h => ?_⟩
  simp at h
  rcases h with rfl | rfl | rfl <;> simp [Okd]
theorem ok_pair (p : Int × Int) : Okd 1 (dP p) := by
  unfold dP Okd
  refine ⟨by simp, fun d h => ?_⟩
  simp at h
  rcases h with rfl | rfl <;> simp [Okd]
theorem ok_want (parks : List Int) (js : List (Int × Int)) (w e : Int) : Okd 2 (.list (wantD parks js w e)) := by
  unfold Okd
  refine ⟨?_, fun d h => ?_⟩
  · unfold wantD
    rw [List.length_append]
    split <;> split <;> simp
  · unfold wantD at h
    rcases List.mem_append.mp h with h | h
    · split at h
      · simp at h; subst h; exact ok_tr _ _ _
      · simp at h
    · split at h
      · simp at h; subst h; exact ok_tr _ _ _
      · simp at h
theorem ok_pairs (l : List (Int × Int)) (h : l.length ≤ 1000) : Okd 2 (dPs l) := by
  unfold Okd
  refine ⟨by rw [List.length_map]; exact h, fun d m => ?_⟩
  obtain ⟨p, _, rfl⟩ := List.mem_map.mp m
  exact ok_pair p

/-! ### sorted joints -/
def lexLe (p q : Int × Int) : Prop := p.1 < q.1 ∨ (p.1 = q.1 ∧ p.2 ≤ q.2)
theorem sort_uniq : ∀ {l m : List (Int × Int)}, l.Perm m → l.Pairwise lexLe → m.Pairwise lexLe → l = m
  | [], m, h, _, _ => (List.Perm.nil_eq h)
  | x :: l, [], h, _, _ => absurd h.length_eq (by simp)
  | x :: l, y :: m, h, hl, hm => by
    have e : x = y := by
      have h1 : x = y ∨ lexLe y x := by
        rcases List.mem_cons.mp (h.mem_iff.mp (List.mem_cons_self (a := x) (l := l))) with e | hx
        · exact .inl e
        · exact .inr ((List.pairwise_cons.mp hm).1 x hx)
      have h2 : y = x ∨ lexLe x y := by
        rcases List.mem_cons.mp (h.mem_iff.mpr (List.mem_cons_self (a := y) (l := m))) with e | hx
        · exact .inl e
        · exact .inr ((List.pairwise_cons.mp hl).1 y hx)
      rcases h1 with e | h1
      · exact e
      · rcases h2 with e | h2
        · exact e.symm
        · obtain ⟨a, b⟩ := x
          obtain ⟨c, d⟩ := y
          unfold lexLe at h1 h2
          simp only at h1 h2
          have : a = c := by omega
          have : b = d := by omega
          simp [*]
    subst e
    rw [sort_uniq h.cons_inv (List.pairwise_cons.mp hl).2 (List.pairwise_cons.mp hm).2]
/-- the joints by their western blocks -/
def fan (ess : List (List Int)) (n : Nat) : List (Int × Int) := (List.range n).flatMap fun b => ((ess.getD b []).map fun e => ((b : Int), e))
theorem fan_zero (ess : List (List Int)) : fan ess 0 = [] := rfl
theorem fan_succ (ess : List (List Int)) (n : Nat) : fan ess (n + 1) = fan ess n ++ (ess.getD n []).map fun e => ((n : Int), e) := by
  unfold fan
  rw [List.range_succ, List.flatMap_append]
  simp
structure Srt (f : Int → List Int) (n : Nat) (ess : List (List Int)) : Prop where
  len : ess.length = n
  at_ : ∀ (b : Nat) x, ess[b]? = some x → x.Perm (f (b : Int)) ∧ x.Pairwise (· ≤ ·)
theorem Srt.get {f : Int → List Int} {n : Nat} {ess : List (List Int)} (h : Srt f n ess) {b : Nat} (hb : b < n) : ∃ x, ess[b]? = some x ∧ ess.getD b [] = x ∧ x.Perm (f (b : Int)) ∧ x.Pairwise (· ≤ ·) := by
  have hb' : b < ess.length := by rw [h.len]; exact hb
  have e : ess[b]? = some ess[b] := List.getElem?_eq_getElem hb'
  refine ⟨ess[b], e, ?_, h.at_ b _ e⟩
  rw [List.getD_eq_getElem?_getD, e]
  rfl
theorem fan_sorted {f : Int → List Int} {ess : List (List Int)} {N : Nat} (h : Srt f N ess) : ∀ n, n ≤ N → (fan ess n).Pairwise lexLe ∧ ∀ p ∈ fan ess n, p.1 < (n : Int)
  | 0, _ => ⟨.nil, fun p hp => absurd hp (by simp [fan_zero])⟩
  | n + 1, hn => by
    obtain ⟨h1, h2⟩ := fan_sorted h n (by omega)
    obtain ⟨x, _, ex, _, hs⟩ := h.get (b := n) (by omega)
    rw [fan_succ, ex]
    refine ⟨List.pairwise_append.mpr ⟨h1, ?_, fun p hp q hq => ?_⟩, fun p hp => ?_⟩
    · exact List.pairwise_map.mpr (List.Pairwise.imp (fun {a b} hab => .inr ⟨rfl, hab⟩) hs)
    · obtain ⟨e, _, rfl⟩ := List.mem_map.mp hq
      exact .inl (h2 p hp)
    · rcases List.mem_append.mp hp with hp | hp
      · have := h2 p hp
        omega
      · obtain ⟨e, _, rfl⟩ := List.mem_map.mp hp
        show ((n : Nat) : Int) < ((n + 1 : Nat) : Int)
        omega
theorem fan_perm {js : List (Int × Int)} {ess : List (List Int)} {N : Nat} (h : Srt (eo js) N ess) : ∀ n, n ≤ N → (fan ess n).Perm (js.filter fun p => decide (0 ≤ p.1 ∧ p.1 < (n : Int)))
  | 0, _ => by
    have e : (js.filter fun p => decide (0 ≤ p.1 ∧ p.1 < ((0 : Nat) : Int))) = [] := List.filter_eq_nil_iff.mpr fun p _ q => by
      have := of_decide_eq_true q
      omega
    rw [e, fan_zero]
  | n + 1, hn => by
    obtain ⟨x, _, ex, hp, _⟩ := h.get (b := n) (by omega)
    rw [fan_succ, ex]
    have h1 := fan_perm h n (by omega)
    have h2 : (x.map fun e => ((n : Int), e)).Perm (js.filter fun p => decide (p.1 = (n : Int))) := by
      have e : ((js.filter fun p => decide (p.1 = (n : Int))).map (·.2)).map (fun e => ((n : Int), e)) = js.filter fun p => decide (p.1 = (n : Int)) := by
        rw [List.map_map]
        conv => rhs; rw [← List.map_id (js.filter fun p => decide (p.1 = (n : Int)))]
        refine List.map_congr_left fun p hp => ?_
        have := of_decide_eq_true (List.mem_filter.mp hp).2
        obtain ⟨a, b⟩ := p
        simp only at this
        subst this
        rfl
      have q := hp.map (fun e => ((n : Int), e))
      unfold eo at q
      rw [e] at q
      exact q
    refine (h1.append h2).trans ?_
    have h3 := List.filter_append_perm (fun p : Int × Int => decide (p.1 < (n : Int))) (js.filter fun p => decide (0 ≤ p.1 ∧ p.1 < ((n + 1 : Nat) : Int)))
    refine List.Perm.trans ?_ h3
    rw [List.filter_filter, List.filter_filter]
    have a1 : (js.filter fun p => decide (0 ≤ p.1 ∧ p.1 < (n : Int))) = js.filter fun p => decide (p.1 < (n : Int)) && decide (0 ≤ p.1 ∧ p.1 < ((n + 1 : Nat) : Int)) := by
      refine List.filter_congr fun p _ => ?_
      rw [Bool.eq_iff_iff]
      simp only [Bool.and_eq_true, decide_eq_true_eq]
      omega
    have a2 : (js.filter fun p => decide (p.1 = (n : Int))) = js.filter fun p => (!decide (p.1 < (n : Int))) && decide (0 ≤ p.1 ∧ p.1 < ((n + 1 : Nat) : Int)) := by
      refine List.filter_congr fun p _ => ?_
      rw [Bool.eq_iff_iff]
      simp only [Bool.and_eq_true, Bool.not_eq_true', decide_eq_true_eq, decide_eq_false_iff_not]
      omega
    rw [a1, a2]
theorem fan_all {n : Nat} {parks : List Int} {js : List (Int × Int)} {ess : List (List Int)} (h : Srt (eo js) n ess) (hj : JOk (n : Int) parks js) : (fan ess n).Perm js := by
  have e : (js.filter fun p => decide (0 ≤ p.1 ∧ p.1 < (n : Int))) = js := List.filter_eq_self.mpr fun p hp => by
    have := hj.mem hp
    exact decide_eq_true (by omega)
  have q := fan_perm h n (Nat.le_refl _)
  rw [e] at q
  exact q
end Lw

set_option Elab.async false
set_option linter.all false
set_option maxRecDepth 100000
set_option maxHeartbeats 4000000
/-! the promises -/
namespace Lw
open PySem L2
open Evl (Ex)
def Ret (G H : Hp) (P : VP) (Q : VK) : Prop := ∀ v G' H', Gr G G' H H' → P v G' → Q v H'
section
variable {K : PySem.W.Frag} {C : Addr}
/-! ### the law's helpers -/
def spCell (K : PySem.W.Frag) : Sp := fun vs H Q _ => ∃ (G : Hp) (l : Addr) (ns : List Int) (k : Int), Ex G H ∧ vs = [.ref l, .int k] ∧ SqL K G l (ns.map V.int) ∧ ns.length ≤ 63 ∧ 0 ≤ k ∧ k < 1000 ∧ Ret G H (IV fun _ => True) Q
theorem sa_cell {G : Hp} {l : Addr} {ns : List Int} {k : Int} (h : SqL K G l (ns.map V.int)) (hn : ns.length ≤ 63) (h0 : 0 ≤ k) (h1 : k < 1000) : SA (spCell K) [.ref l, .int k] G (IV fun _ => True) :=
  fun H e Q _ q => ⟨G, l, ns, k, e, rfl, h, hn, h0, h1, q⟩
def spDraw : Sp := fun vs H Q _ => ∃ (G : Hp) (c : Int) (k : Int) (n : Int), Ex G H ∧ vs = [.int c, .int k, .int n] ∧ 0 ≤ k ∧ k ≤ 2000 ∧ 1 ≤ n ∧ n ≤ 2000 ∧ Ret G H (IV fun z => 0 ≤ z ∧ z < n) Q
theorem sa_draw {G : Hp} {c k n : Int} (h0 : 0 ≤ k) (h1 : k ≤ 2000) (h2 : 1 ≤ n) (h3 : n ≤ 2000) : SA spDraw [.int c, .int k, .int n] G (IV fun z => 0 ≤ z ∧ z < n) :=
  fun H e Q _ q => ⟨G, c, k, n, e, rfl, h0, h1, h2, h3, q⟩
def spSame (K : PySem.W.Frag) (n : Nat) : Sp := fun vs H Q _ => ∃ (G : Hp) (x : V) (y : V) (d : PyData), Ex G H ∧ vs = [x, y] ∧ Dp K G x d ∧ Dp K G y d ∧ Okd n d ∧ Ret G H (XV (.bl true)) Q
theorem sa_same {G : Hp} {x y : V} {d : PyData} {n : Nat} (hx : Dp K G x d) (hy : Dp K G y d) (ho : Okd n d) : SA (spSame K n) [x, y] G (XV (.bl true)) := fun H e Q _ q => ⟨G, x, y, d, e, rfl, hx, hy, ho, q⟩
def TV (K : PySem.W.Frag) (m : Int) : VP := fun v G => ∃ t, TrkOk t ∧ (t.lens.length : Int) ≤ m ∧ Dp K G v (dT t)
def spTrack (K : PySem.W.Frag) : Sp := fun vs H Q _ => ∃ (G : Hp) (c : Int) (m : Int), Ex G H ∧ vs = [.int c, .int m] ∧ 2 ≤ m ∧ m ≤ 60 ∧ Ret G H (TV K m) Q
theorem sa_track {G : Hp} {c m : Int} (h1 : 2 ≤ m) (h2 : m ≤ 60) : SA (spTrack K) [.int c, .int m] G (TV K m) := fun H e Q _ q => ⟨G, c, m, e, rfl, h1, h2, q⟩
theorem mo_TV {m} : Mo (TV K m) := fun _ _ _ e ⟨t, h, l, d⟩ => ⟨t, h, l, dpx d e⟩
def spAnyT (K : PySem.W.Frag) : Sp := fun vs H Q _ => ∃ (G : Hp) (l : Addr) (ns : List Int) (m : Int), Ex G H ∧ vs = [.ref l, .int m] ∧ SqL K G l (ns.map V.int) ∧ ns.length ≤ 63 ∧ 2 ≤ m ∧ m ≤ 20 ∧ Ret G H (TV K (3 * m)) Q
def spWanted (K : PySem.W.Frag) : Sp := fun vs H Q _ => ∃ (G : Hp) (x : V) (t : Trk) (w : Int) (e : Int), Ex G H ∧ vs = [x, .int w, .int e] ∧ Dp K G x (dT t) ∧ t.joints.length ≤ 900 ∧ Ret G H (DV K (.list (wantD t.parks t.joints w e))) Q

/-! ### the layout -/
/-- the fields of a whole layout -/
structure FLd (fs : List (Str × V)) (n : Int) (l y e w : Addr) : Prop where
  size : fs.lookup ("size" : Str) = some (.int n)
  lens : fs.lookup ("_lengths" : Str) = some (.ref l)
  marks : fs.lookup ("_yard_marks" : Str) = some (.ref y)
  east : fs.lookup ("_east" : Str) = some (.ref e)
  west : fs.lookup ("_west" : Str) = some (.ref w)
  no : ∀ m : Str, m ≠ "size" → m ≠ "_lengths" → m ≠ "_yard_marks" → m ≠ "_east" → m ≠ "_west" → fs.lookup m = none
  few : fs.length ≤ 20
def marksOf (n : Nat) (parks : List Int) : List Bool := (List.range n).map fun b => decide (((b : Nat) : Int) ∈ parks)
theorem marks_at {n : Nat} {parks : List Int} {b : Nat} (h : b < n) : (marksOf n parks)[b]? = some (decide ((b : Int) ∈ parks)) := by
  unfold marksOf
  rw [List.getElem?_map, List.getElem?_range h]
  rfl
/-- a layout stands at p -/
def LayAt (K : PySem.W.Frag) (C : Addr) (G : Hp) (p : Addr) (n : Nat) (parks : List Int) (js : List (Int × Int)) : Prop := ∃ dx fs l y e w ess wss, G p = some (.ins C dx fs) ∧ FLd fs (n : Int) l y e w ∧
  Dp K G (.ref y) (.list ((marksOf n parks).map PyData.bool)) ∧ Dp K G (.ref e) (.list (ess.map dI)) ∧ Dp K G (.ref w) (.list (wss.map dI)) ∧ Srt (eo js) n ess ∧ Srt (wo js) n wss
theorem LayAt.ex {G G' : Hp} {p : Addr} {n : Nat} {parks : List Int} {js : List (Int × Int)} (h : LayAt K C G p n parks js) (e : Ex G G') : LayAt K C G' p n parks js := by
  obtain ⟨dx, fs, l, y, ea, w, ess, wss, h1, h2, h3, h4, h5, h6, h7⟩ := h
  exact ⟨dx, fs, l, y, ea, w, ess, wss, e _ _ h1, h2, dpx h3 e, dpx h4 e, dpx h5 e, h6, h7⟩
/-- an instance whose size is told -/
def SizeAt (C : Addr) (G : Hp) (p : Addr) (n : Int) : Prop := ∃ dx fs, G p = some (.ins C dx fs) ∧ fs.lookup ("size" : Str) = some (.int n)
theorem LayAt.size {G : Hp} {p : Addr} {n : Nat} {parks : List Int} {js : List (Int × Int)} (h : LayAt K C G p n parks js) : SizeAt C G p (n : Int) := by
  obtain ⟨dx, fs, l, y, ea, w, ess, wss, h1, h2, _⟩ := h
  exact ⟨dx, fs, h1, h2.size⟩
theorem LayAt.meth {G : Hp} {p : Addr} {n : Nat} {parks : List Int} {js : List (Int × Int)} (h : LayAt K C G p n parks js) {m : Str} (h1 : m ≠ "size" ∧ m ≠ "_lengths" ∧ m ≠ "_yard_marks" ∧ m ≠ "_east" ∧ m ≠ "_west") : ∃ dx fs, G p = some (.ins C dx fs) ∧ fs.lookup m = none := by
  obtain ⟨dx, fs, l, y, ea, w, ess, wss, h2, h3, _⟩ := h
  exact ⟨dx, fs, h2, h3.no m h1.1 h1.2.1 h1.2.2.1 h1.2.2.2.1 h1.2.2.2.2⟩
theorem SizeAt.ex {G G' : Hp} {p : Addr} {n : Int} (h : SizeAt C G p n) (e : Ex G G') : SizeAt C G' p n := by
  obtain ⟨dx, fs, h1, h2⟩ := h
  exact ⟨dx, fs, e _ _ h1, h2⟩
def spContains (C : Addr) : Sp := fun vs H Q _ => ∃ (G : Hp) (p : Addr) (n : Int) (b : Int), Ex G H ∧ vs = [.ref p, .int b] ∧ SizeAt C G p n ∧ Ret G H (XV (.bl (decide (0 ≤ b ∧ b < n)))) Q
def spCheck (C : Addr) : Sp := fun vs H Q _ => ∃ (G : Hp) (p : Addr) (n : Int) (b : Int), Ex G H ∧ vs = [.ref p, .int b] ∧ SizeAt C G p n ∧ 0 ≤ b ∧ b < n ∧ Ret G H (XV .non) Q
theorem sa_check {G : Hp} {p : Addr} {n b : Int} (h : SizeAt C G p n) (h0 : 0 ≤ b) (h1 : b < n) : SA (spCheck C) [.ref p, .int b] G (XV .non) := fun H e Q _ q => ⟨G, p, n, b, e, rfl, h, h0, h1, q⟩
def spChecks (K : PySem.W.Frag) (C : Addr) : Sp := fun vs H Q _ => ∃ (G : Hp) (p : Addr) (n : Int) (a : Addr) (bs : List Int), Ex G H ∧ vs = [.ref p, .ref a] ∧ SizeAt C G p n ∧ SqL K G a (bs.map V.int) ∧ (∀ b ∈ bs, 0 ≤ b ∧ b < n) ∧ Ret G H (XV .non) Q
theorem sa_checks {G : Hp} {p a : Addr} {n : Int} {bs : List Int} (h : SizeAt C G p n) (ha : SqL K G a (bs.map V.int)) (hb : ∀ b ∈ bs, 0 ≤ b ∧ b < n) : SA (spChecks K C) [.ref p, .ref a] G (XV .non) := fun H e Q _ q => ⟨G, p, n, a, bs, e, rfl, h, ha, hb, q⟩
/-- what the questions of a whole layout give -/
def spAsk (K : PySem.W.Frag) (C : Addr) (P : Nat → List Int → List (Int × Int) → Int → VP) : Sp := fun vs H Q _ => ∃ (G : Hp) (p : Addr) (n : Nat) (parks : List Int) (js : List (Int × Int)) (b : Int), Ex G H ∧ vs = [.ref p, .int b] ∧ LayAt K C G p n parks js ∧ 0 ≤ b ∧ b < (n : Int) ∧ Ret G H (P n parks js b) Q
theorem sa_ask {P : Nat → List Int → List (Int × Int) → Int → VP} {G : Hp} {p : Addr} {n : Nat} {parks : List Int} {js : List (Int × Int)} {b : Int} (h : LayAt K C G p n parks js) (h0 : 0 ≤ b) (h1 : b < (n : Int)) : SA (spAsk K C P) [.ref p, .int b] G (P n parks js b) :=
  fun H e Q _ q => ⟨G, p, n, parks, js, b, e, rfl, h, h0, h1, q⟩
def pYard : Nat → List Int → List (Int × Int) → Int → VP := fun _ parks _ b => XV (.bl (decide (b ∈ parks)))
/-- a new list of so many ints as the end has joints -/
def NL (K : PySem.W.Frag) (k : Nat) : VP := fun v G => ∃ l : List Int, l.length = k ∧ Dp K G v (dI l)
def pEast (K : PySem.W.Frag) : Nat → List Int → List (Int × Int) → Int → VP := fun _ _ js b => NL K (eo js b).length
def pWest (K : PySem.W.Frag) : Nat → List Int → List (Int × Int) → Int → VP := fun _ _ js b => NL K (wo js b).length
def spAskS (K : PySem.W.Frag) (C : Addr) (P : List Int → List (Int × Int) → Int → Bool → VP) : Sp := fun vs H Q _ => ∃ (G : Hp) (p : Addr) (n : Nat) (parks : List Int) (js : List (Int × Int)) (b : Int) (c : Bool), Ex G H ∧ vs = [.ref p, .int b, .str (if c = true then eastS else westS)] ∧ LayAt K C G p n parks js ∧ 0 ≤ b ∧ b < (n : Int) ∧ Ret G H (P parks js b c) Q
theorem sa_askS {P : List Int → List (Int × Int) → Int → Bool → VP} {G : Hp} {p : Addr} {n : Nat} {parks : List Int} {js : List (Int × Int)} {b : Int} (c : Bool) (h : LayAt K C G p n parks js) (h0 : 0 ≤ b) (h1 : b < (n : Int)) : SA (spAskS K C P) [.ref p, .int b, .str (if c = true then eastS else westS)] G (P parks js b c) :=
  fun H e Q _ q => ⟨G, p, n, parks, js, b, c, e, rfl, h, h0, h1, q⟩
def endN (js : List (Int × Int)) (b : Int) (c : Bool) : Nat := if c = true then (eo js b).length else (wo js b).length
def pBranch (K : PySem.W.Frag) : List Int → List (Int × Int) → Int → Bool → VP := fun _ js b c => NL K (endN js b c)
def isPt (parks : List Int) (js : List (Int × Int)) (b : Int) (c : Bool) : Bool := !decide (b ∈ parks) && decide (endN js b c = 2)
def pPoint : List Int → List (Int × Int) → Int → Bool → VP := fun parks js b c => XV (.bl (isPt parks js b c))
def spOpp : Sp := fun vs H Q _ => ∃ (G : Hp) (c : Bool), Ex G H ∧ vs = [.str (if c = true then eastS else westS)] ∧ Ret G H (XV (.str (if c = true then westS else eastS))) Q
theorem sa_opp {G : Hp} (c : Bool) : SA spOpp [.str (if c = true then eastS else westS)] G (XV (.str (if c = true then westS else eastS))) := fun H e Q _ q => ⟨G, c, e, rfl, q⟩
/-- a new list of data -/
def FL (K : PySem.W.Frag) (H0 : Hp) (ds : List PyData) : VP := fun v G => ∃ q xs, v = .ref q ∧ H0 q = none ∧ G q = some (.lst xs) ∧ DpAll K G xs ds
def spJd (K : PySem.W.Frag) (C : Addr) : Sp := fun vs H Q _ => ∃ (G : Hp) (p : Addr) (n : Nat) (parks : List Int) (js : List (Int × Int)) (w : Int) (e : Int) (f : Bool), Ex G H ∧ vs = [.ref p, .int (if f = true then w else e), .int (if f = true then e else w)] ∧ LayAt K C G p n parks js ∧ 0 ≤ w ∧ w < e ∧ e < (n : Int) ∧ Ret G H (FL K H (wantD parks js w e)) Q
theorem sa_jd {G : Hp} {p : Addr} {n : Nat} {parks : List Int} {js : List (Int × Int)} {w e : Int} (f : Bool) (h : LayAt K C G p n parks js) (h0 : 0 ≤ w) (h1 : w < e) (h2 : e < (n : Int)) (H : Hp) (ex : Ex G H) (Q : VK) (E : XK) (q : Ret G H (FL K H (wantD parks js w e)) Q) :
    spJd K C [.ref p, .int (if f = true then w else e), .int (if f = true then e else w)] H Q E := ⟨G, p, n, parks, js, w, e, f, ex, rfl, h, h0, h1, h2, q⟩
def spJoints (K : PySem.W.Frag) (C : Addr) : Sp := fun vs H Q _ => ∃ (G : Hp) (p : Addr) (n : Nat) (parks : List Int) (js : List (Int × Int)), Ex G H ∧ vs = [.ref p] ∧ LayAt K C G p n parks js ∧ JOk (n : Int) parks js ∧ n ≤ 200 ∧ js.length ≤ 900 ∧ Ret G H (fun v G' => ∃ l, l.Perm js ∧ l.Pairwise lexLe ∧ Dp K G' v (dPs l)) Q
def spMeet (K : PySem.W.Frag) (C : Addr) : Sp := fun vs H Q _ => ∃ (G : Hp) (p : Addr) (n : Nat) (parks : List Int) (js : List (Int × Int)) (w : Int) (e : Int) (f : Bool) (x : V), Ex G H ∧ vs = [.ref p, x, .int (if f = true then w else e), .int (if f = true then e else w)] ∧ LayAt K C G p n parks js ∧ 0 ≤ w ∧ w < e ∧ e < (n : Int) ∧ Dp K G x (.list (wantD parks js w e)) ∧ Ret G H (XV (.bl true)) Q
end
/-! ### names of the top -/
section
variable (P : Program) (w : World) (K : PySem.W.Frag) (mg : Str → Option Value) (base : Heap)
def Cal (x : Str) (k : Nat) (ps : List Str) (sp : Sp) : Prop := ∃ f fd, FnOk P w K mg base CX0 k f fd ps sp ∧ mg x = some (.ref f) ∧ PySem.W.keepIn K (.ref f) = true ∧ Binds K fd ps []
def CalM (C : Addr) (m : Str) (k : Nat) (ps : List Str) (sp : Sp) : Prop := ∃ f fd, FnOk P w K mg base CX0 k f fd ps sp ∧ Meth K C m f ∧ Binds K fd ps []
structure Blt : Prop where
  len : mg "len" = none
  abs : mg "abs" = none
  min : mg "min" = none
  range : mg "range" = none
  int : mg "int" = none
  str : mg "str" = none
  bool : mg "bool" = none
  list : mg "list" = none
  tuple : mg "tuple" = none
  sorted : mg "sorted" = none
  isinstance : mg "isinstance" = none
structure Cl (C : Addr) : Prop where
  cl : Cls K C
  size : NoAttr K C "size"
  lens : NoAttr K C "_lengths"
  marks : NoAttr K C "_yard_marks"
  east : NoAttr K C "_east"
  west : NoAttr K C "_west"
end
theorem hu65 {k : Nat} {A : Around} (r : Room k A) : A.units + 65 < cLine := by have := r.un; omega
theorem hu64 {k : Nat} {A : Around} (r : Room k A) : A.units + 64 < cLine := by have := r.un; omega
/-! a call by keywords alone -/
section
variable {X : Cx} {CX : CXT} {k : Nat} {f : Addr} {fd : FuncData} {ps ks : List Str} {sp : Sp} {E : XK} {x : Str} {p pos : Pos} {kws : List Keyword} {tk : TA} {g : List Value → List Value → List Value} {gV : List V → List V → List V}
theorem pe_callK0 (F : FnOk X.prog X.w X.K X.mg X.base CX k f fd ps sp) (hr : Room k X.A) (hg : Gl X x) (hm : X.mg x = some (.ref f)) (hk : PySem.W.keepIn X.K (.ref f) = true) (hb : KBinds X.K fd ps ks g gV) (hx : Passes CX X E) (hkw : PK X kws tk)
    (hall : (backToKw pos (keywordEach kws X.env)).all (·.1.isSome) = true := by rfl) (hks : (backToKw pos (keywordEach kws X.env)).filterMap (·.1) = ks := by rfl) (hdb : (x == ("__debug__" : Str)) = false := by decide)
    (hpl : ((backTo pos (starEach [] X.env)).any (·.1) || (backToKw pos (keywordEach kws X.env)).any (·.1.isNone)) = false := by rfl) :
    PE X (.Call (.Name x p) [] kws pos) (tCallK sp gV E tNil tk) := by
  refine ⟨fun pins s σ H Q I h => wpAny_Call_Name_kw (ld_glob I hg hm ?_ hdb)⟩
  refine PySem.W.callWith_KW0 (h₀ := X.base) I.ok.mod.kin hk hall (thn (hkw.run pos pins s σ H _ I h) fun ws s2 ⟨zs, H2, I2, rz, q2⟩ => ⟨I2.kIn, ?_⟩) hpl
  rw [hks]
  exact run_fnk (us := []) (vs := []) F hr hb hx I2 .nil rz q2
end
end Lw
namespace Lw
open PySem L2
open Evl (Ex)
section
variable {K : PySem.W.Frag} {σ : L2.St} {G G' H H' : Hp} {ta tb te tc : TE} {P : VP} {D : Ends} {u : TT}
theorem ex_eq {x y : V} {p : Bool → Prop} (ha : EF ta σ G (XV x)) (hb : EF tb σ G (XV y)) (hs : scal x y = true) (h : p (decide (x = y))) : EF (tOp rEq ta tb) σ G (BV p) :=
  ef_op mo_XV mo_XV ha hb fun a b G' _ pa pb => by
    cases (show a = x from pa)
    cases (show b = y from pb)
    exact fun H e Q k => ⟨hs, k _ G' H (.refl e) ⟨_, rfl, h⟩⟩
theorem ex_var {i : Nat} {v : V} (h : σ[i]? = some (some v)) : EF (tVar i) σ G (XV v) := ef_var h rfl
theorem ex_c {v : V} : EF (tC v) σ G (XV v) := ef_c rfl
theorem EF.iv {z : Int} (h : EF te σ G (XV (.int z))) : EF te σ G (IV (· = z)) := h.imp fun v _ _ p => ⟨z, p, rfl⟩
theorem EF.dv {v : V} {d : PyData} (h : EF te σ G (XV v)) (hd : Dp K G v d) : EF te σ G (DV K d) := h.imp fun x G' e p => by
  cases (show x = v from p)
  exact dpx hd e
theorem EF.bl {b : Bool} {p : Bool → Prop} (h : EF te σ G (XV (.bl b))) (hp : p b) : EF te σ G (BV p) := h.imp fun v _ _ q => ⟨b, q, hp⟩
/-- c <= x < y -/
theorem ef_chain {r r' : R2} {Pa Pb Pc : VP} {p q s : Bool → Prop} (mA : Mo Pa) (mB : Mo Pb) (mC : Mo Pc) (ha : EF ta σ G Pa) (hb : EF tb σ G Pb) (hc : EF tc σ G Pc)
    (h1 : ∀ x y G', Pa x G' → Pb y G' → RO r x y G' (BV p)) (h2 : p true → ∀ x y G', Pb x G' → Pc y G' → RO r' x y G' (BV q)) (ht : p true → ∀ b, q b → s b) (hf : p false → s false) : EF (tChain r r' ta tb tc) σ G (BV s) := fun H e Q k =>
  ha H e _ fun x G1 H1 g1 p1 => hb H1 (g1.up.trans g1.ok) _ fun y G2 H2 g2 p2 => by
    obtain ⟨G3, e1, e2, g3⟩ := g1.join g2
    refine h1 x y G3 (mA x _ _ e1 p1) (mB y _ _ e2 p2) H2 g3.ok _ fun v G4 H4 g4 p4 => ?_
    obtain ⟨b, rfl, pb⟩ := p4
    refine ⟨b, rfl, ?_⟩
    have g5 := g3.trans g4
    cases b with
    | true =>
      rw [if_pos rfl]
      refine hc H4 (g5.up.trans g5.ok) _ fun z G6 H6 g6 p6 => ?_
      obtain ⟨G7, f1, f2, g7⟩ := g5.join g6
      refine h2 pb y z G7 (mB y _ _ (e2.trans (g4.up.trans f1)) p2) (mC z _ _ f2 p6) H6 g7.ok _ fun v G8 H8 g8 p8 => ?_
      obtain ⟨c, rfl, pc⟩ := p8
      exact k _ G8 H8 (g7.trans g8) ⟨c, rfl, ht pb c pc⟩
    | false =>
      rw [if_neg Bool.false_ne_true]
      exact k _ G4 H4 g5 ⟨false, rfl, hf pb⟩
theorem east_ne : ¬ westS = eastS := by unfold westS eastS; decide +kernel
theorem side_dec (c : Bool) : decide (V.str (if c = true then eastS else westS) = V.str eastS) = c := by
  cases c with
  | true => simp
  | false =>
    rw [if_neg Bool.false_ne_true]
    exact decide_eq_false fun z => east_ne (V.str.inj z)
/-- x not in o, o of an own class -/
theorem eb_notIn {C : Addr} {sp : Sp} {E : XK} {a : Addr} {x : V} {b : Bool} {s : Bool → Prop} (ha : EF ta σ G (XV x)) (hb : EF tb σ G (XV (.ref a))) (hI : ∃ dx fs, G a = some (.ins C dx fs)) (hsp : ∀ G', Ex G G' → SA sp [.ref a, x] G' (XV (.bl b))) (hs : s (!b)) :
    EF (tOp (rInOwn true C sp E) ta tb) σ G (BV s) := ef_op mo_XV mo_XV ha hb fun v u G' e1 pa pb => by
  cases (show v = x from pa)
  cases (show u = .ref a from pb)
  obtain ⟨dx, fs, h⟩ := hI
  refine fun H e Q k => ⟨a, dx, fs, rfl, e _ _ (e1 _ _ h), hsp G' e1 H e _ E fun v2 G2 H2 g2 p2 => ?_⟩
  exact ⟨b, p2, k _ G2 H2 g2 ⟨!b, rfl, hs⟩⟩
/-- over a list that is known -/
theorem st_forK {xs : List V} {tl : TE} {a : Addr} {g : TG} {tu : TS} (hG : Ex G H) (h : EF tl σ G (XV (.ref a))) (hx : SqL K G a xs) (W : Nat → L2.St → Hp → Prop) (h0 : ∀ H', Ex H H' → W 0 σ H') (hl : ∀ i σ' H', W i σ' H' → Ex G H')
    (hs : ∀ i x σ' H', xs[i]? = some x → W i σ' H' → g x σ' H' fun σ2 H2 => tu { D with nx := W (i + 1), ct := W (i + 1), bk := D.nx } σ2 H2) (hd : ∀ σ' H', W xs.length σ' H' → D.nx σ' H') : tFor (iList K tl) g tu D σ H :=
  h H hG _ fun v G1 H1 g1 e => ⟨a, e, ⟨xs, Evl.ex_l (hG.trans g1.hp) hx⟩, for_list W (h0 H1 g1.hp) (fun i σ' H' _ w => Evl.ex_l (hl i σ' H' w) hx) hs hd⟩
theorem ex_ixT {a : Addr} {xs : List V} {i : Nat} {v : V} (ha : EF ta σ G (XV (.ref a))) (hb : EF tb σ G (XV (.int (i : Int)))) (hs : SqT K G a xs) (hv : xs[i]? = some v) : EF (tOp (rIxT K) ta tb) σ G (XV v) :=
  ef_op mo_XV mo_XV ha hb fun x y G' e1 pa pb => by
    cases (show x = .ref a from pa)
    cases (show y = .int (i : Int) from pb)
    exact fun H e Q k => ⟨a, xs, (i : Int), v, rfl, rfl, Evl.ex_t (e1.trans e) hs, atI_of rfl hv, k v G' H (.refl e) rfl⟩
theorem ex_ixL {a : Addr} {xs : List V} {i : Nat} {z : Int} {v : V} (ha : EF ta σ G (XV (.ref a))) (hb : EF tb σ G (XV (.int z))) (ez : z = (i : Int)) (hs : SqL K G a xs) (hv : xs[i]? = some v) : EF (tOp (rIxL K) ta tb) σ G (XV v) :=
  ef_op mo_XV mo_XV ha hb fun x y G' e1 pa pb => by
    cases (show x = .ref a from pa)
    cases (show y = .int z from pb)
    exact fun H e Q k => ⟨a, xs, z, v, rfl, rfl, Evl.ex_l (e1.trans e) hs, atI_of ez hv, k v G' H (.refl e) rfl⟩
/-- calls whose arguments are known values -/
theorem ex_call1 {sp : Sp} {E : XK} {x : V} {P : VP} (ha : EF ta σ G (XV x)) (h : ∀ G', Ex G G' → SA sp [x] G' P) : EF (tCall sp [] E (tCons ta tNil)) σ G P := ef_call (ea_one ha) fun vs G' e hv => by
  obtain ⟨a, rfl, pa⟩ := hv
  cases (show a = x from pa)
  exact h G' e
theorem ex_call2 {sp : Sp} {E : XK} {x y : V} {P : VP} (ha : EF ta σ G (XV x)) (hb : EF tb σ G (XV y)) (h : ∀ G', Ex G G' → SA sp [x, y] G' P) : EF (tCall sp [] E (tCons ta (tCons tb tNil))) σ G P := ef_call (ea_two mo_XV mo_XV ha hb) fun vs G' e hv => by
  obtain ⟨a, b, rfl, pa, pb⟩ := hv
  cases (show a = x from pa)
  cases (show b = y from pb)
  exact h G' e
theorem ex_call3 {sp : Sp} {E : XK} {x y z : V} {P : VP} (ha : EF ta σ G (XV x)) (hb : EF tb σ G (XV y)) (hc : EF tc σ G (XV z)) (h : ∀ G', Ex G G' → SA sp [x, y, z] G' P) : EF (tCall sp [] E (tCons ta (tCons tb (tCons tc tNil)))) σ G P := ef_call (ea_three mo_XV mo_XV mo_XV ha hb hc) fun vs G' e hv => by
  obtain ⟨a, b, c, rfl, pa, pb, pc⟩ := hv
  cases (show a = x from pa)
  cases (show b = y from pb)
  cases (show c = z from pc)
  exact h G' e
theorem ex_meth1 {C a : Addr} {m : Str} {sp : Sp} {E : XK} {to : TE} {y : V} {P : VP} (ho : EF to σ G (XV (.ref a))) (hI : ∃ dx fs, G a = some (.ins C dx fs) ∧ fs.lookup m = none) (hb : EF tb σ G (XV y)) (h : ∀ G', Ex G G' → SA sp [.ref a, y] G' P) :
    EF (tMeth C m sp [] E to (tCons tb tNil)) σ G P := ef_meth ho hI (ea_one hb) fun vs G' e hv => by
  obtain ⟨b, rfl, pb⟩ := hv
  cases (show b = y from pb)
  exact h G' e
theorem ex_meth2 {C a : Addr} {m : Str} {sp : Sp} {E : XK} {to : TE} {y z : V} {P : VP} (ho : EF to σ G (XV (.ref a))) (hI : ∃ dx fs, G a = some (.ins C dx fs) ∧ fs.lookup m = none) (hb : EF tb σ G (XV y)) (hc : EF tc σ G (XV z)) (h : ∀ G', Ex G G' → SA sp [.ref a, y, z] G' P) :
    EF (tMeth C m sp [] E to (tCons tb (tCons tc tNil))) σ G P := ef_meth ho hI (ea_two mo_XV mo_XV hb hc) fun vs G' e hv => by
  obtain ⟨b, c, rfl, pb, pc⟩ := hv
  cases (show b = y from pb)
  cases (show c = z from pc)
  exact h G' e
theorem ex_meth0 {C a : Addr} {m : Str} {sp : Sp} {E : XK} {to : TE} {P : VP} (ho : EF to σ G (XV (.ref a))) (hI : ∃ dx fs, G a = some (.ins C dx fs) ∧ fs.lookup m = none) (h : ∀ G', Ex G G' → SA sp [.ref a] G' P) :
    EF (tMeth C m sp [] E to tNil) σ G P := ef_meth ho hI ea_nil fun vs G' e hv => by
  cases (show vs = [] from hv)
  exact h G' e
theorem en_len {k : Nat} (ha : EF ta σ G (NL K k)) : EF (tCB (Evl.rLenS K) (tCons ta tNil)) σ G (XV (.int (k : Int))) := fun H e Q q => ha H e _ fun x G1 H1 g1 ⟨l, hl, hx⟩ => by
  obtain ⟨a, xs, rfl, hs, hall⟩ := dp_lst hx
  refine ⟨a, xs, rfl, .inl (Evl.ex_l g1.ok hs), q _ G1 H1 g1 ?_⟩
  show V.int _ = V.int _
  rw [dpa_len hall, List.length_map, hl]
end
end Lw
namespace Lw
open PySem L2
open Evl (Ex)
theorem Gr.fresh {G G' H H' : Hp} {q : Addr} {o : HO} (g : Gr G G' H H') (h : G q = none) (h' : G' q = some o) : H q = none := by
  cases e : H q with
  | none => rfl
  | some u =>
    have z := g.2.2.2 q (ne_none_of e) h
    rw [h'] at z
    cases z
theorem perm2 {α : Type} {x y : α} : ∀ {l : List α}, l.Perm [x, y] → l = [x, y] ∨ l = [y, x]
  | [], h => absurd h.length_eq (by simp)
  | [a], h => absurd h.length_eq (by simp)
  | a :: b :: c :: l, h => absurd h.length_eq (by simp)
  | [a, b], h => by
    have m := h.mem_iff.mp (List.mem_cons_self (a := a) (l := [b]))
    have one : ∀ {u v : α}, [u].Perm [v] → u = v := fun p => by
      have := p.mem_iff.mp (List.mem_cons_self ..)
      simpa using this
    rcases List.mem_cons.mp m with e | m
    · subst e
      have e2 := one h.cons_inv
      rw [e2]
      exact .inl rfl
    · have e : a = y := by simpa using m
      subst e
      have h2 : [a, b].Perm [a, x] := h.trans (List.Perm.swap a x [])
      have e2 := one h2.cons_inv
      rw [e2]
      exact .inr rfl
/-- the first int of a tuple -/
def keyOf (G : Hp) (v : V) : Int := match v with
  | .ref t => (match G t with | some (.tup (.int i :: _)) => i | _ => 0)
  | _ => 0
def TrAt (G : Hp) (v : V) (a : Int) (s : Str) (b : Int) : Prop := ∃ t, v = .ref t ∧ G t = some (.tup [.int a, .str s, .int b])
theorem TrAt.ex {G G' : Hp} {v : V} {a b : Int} {s : Str} (h : TrAt G v a s b) (e : Ex G G') : TrAt G' v a s b := by
  obtain ⟨t, h1, h2⟩ := h
  exact ⟨t, h1, e _ _ h2⟩
theorem TrAt.key {G : Hp} {v : V} {a b : Int} {s : Str} (h : TrAt G v a s b) : keyOf G v = a := by
  obtain ⟨t, rfl, h⟩ := h
  unfold keyOf
  show (match G t with | some (.tup (.int i :: _)) => i | _ => 0) = a
  rw [h]
theorem TrAt.dp {K : PySem.W.Frag} {G : Hp} {v : V} {a b : Int} {s : Str} (h : TrAt G v a s b) : Dp K G v (dTr a s b) := by
  obtain ⟨t, rfl, h⟩ := h
  exact dp_mkT h (.cons (.int a) (.cons (.str s) (.cons (.int b) .nil)))
def mm (c : Bool) (v : V) : List V := if c = true then [v] else []
def sd (f : Bool) : Str := if f = true then eastS else westS
/-- sorted of the two demands -/
theorem two_sorted {K : PySem.W.Frag} {G : Hp} {parks : List Int} {js : List (Int × Int)} {w e : Int} {f : Bool} {v1 v2 : V} (hwe : w < e) (h1 : isPt parks js (if f = true then w else e) f = true → TrAt G v1 (if f = true then w else e) (sd f) (if f = true then e else w))
    (h2 : isPt parks js (if f = true then e else w) (!f) = true → TrAt G v2 (if f = true then e else w) (sd (!f)) (if f = true then w else e)) {ys : List V} (hp : ys.Perm (mm (isPt parks js (if f = true then w else e) f) v1 ++ mm (isPt parks js (if f = true then e else w) (!f)) v2))
    (hs : ys.Pairwise fun x y => ¬ keyOf G y < keyOf G x) : DpAll K G ys (wantD parks js w e) := by
  have key : wantD parks js w e = (if isPt parks js w true = true then [dTr w eastS e] else []) ++ (if isPt parks js e false = true then [dTr e westS w] else []) := by
    unfold wantD isPt endN
    congr 1 <;> (congr 1; simp)
  have one : ∀ {u v : V}, u ∈ ([v] : List V) → u = v := fun m => by simpa using m
  have perm1 : ∀ {v : V}, ys.Perm [v] → ys = [v] := fun {v} p => by
    have hl := p.length_eq
    match ys, hl with
    | [u], _ =>
      have := p.mem_iff.mp (List.mem_cons_self ..)
      rw [one this]
  rw [key]
  cases f with
  | true =>
    simp only [if_true, Bool.not_true] at h1 h2 hp
    unfold mm at hp
    by_cases c1 : isPt parks js w true = true
    · have t1 := h1 c1
      rw [if_pos c1] at hp ⊢
      by_cases c2 : isPt parks js e false = true
      · have t2 := h2 c2
        rw [if_pos c2] at hp ⊢
        rcases perm2 hp with e1 | e1
        · rw [e1]
          exact .cons t1.dp (.cons t2.dp .nil)
        · rw [e1] at hs
          have q := (List.pairwise_cons.mp hs).1 v1 (List.mem_cons_self ..)
          rw [t1.key, t2.key] at q
          exact absurd hwe q
      · rw [if_neg c2] at hp ⊢
        rw [perm1 hp]
        exact .cons t1.dp .nil
    · rw [if_neg c1] at hp ⊢
      by_cases c2 : isPt parks js e false = true
      · have t2 := h2 c2
        rw [if_pos c2] at hp ⊢
        rw [perm1 hp]
        exact .cons t2.dp .nil
      · rw [if_neg c2] at hp ⊢
        rw [List.Perm.eq_nil hp]
        exact .nil
  | false =>
    simp only [Bool.false_eq_true, if_false, Bool.not_false] at h1 h2 hp
    unfold mm at hp
    by_cases c1 : isPt parks js w true = true
    · have t1 := h2 c1
      rw [if_pos c1] at hp ⊢
      by_cases c2 : isPt parks js e false = true
      · have t2 := h1 c2
        rw [if_pos c2] at hp ⊢
        rcases perm2 hp with e1 | e1
        · rw [e1] at hs
          have q := (List.pairwise_cons.mp hs).1 v2 (List.mem_cons_self ..)
          rw [t1.key, t2.key] at q
          exact absurd hwe q
        · rw [e1]
          exact .cons t1.dp (.cons t2.dp .nil)
      · rw [if_neg c2] at hp ⊢
        rw [perm1 hp]
        exact .cons t1.dp .nil
    · rw [if_neg c1] at hp ⊢
      by_cases c2 : isPt parks js e false = true
      · have t2 := h1 c2
        rw [if_pos c2] at hp ⊢
        rw [perm1 hp]
        exact .cons t2.dp .nil
      · rw [if_neg c2] at hp ⊢
        rw [List.Perm.eq_nil hp]
        exact .nil
theorem Gr.app {G G' H H3 H4 : Hp} {q : Addr} {o : HO} (g : Gr G G' H3 H4) (eH : Ex H H3) (hq : H q = none) (g' : G' q = none) : Gr G G' H (upd H4 q o) :=
  ⟨g.up, ex_off g.ok g', ex_off (eH.trans g.hp) hq, fun a h ga => g.2.2.2 a (exNe eH h) ga⟩
theorem Gr.wide {G G' H H3 H4 : Hp} (g : Gr G G' H3 H4) (eH : Ex H H3) : Gr G G' H H4 := ⟨g.up, g.ok, eH.trans g.hp, fun a h ga => g.2.2.2 a (exNe eH h) ga⟩
theorem sa_opp' {G : Hp} (f : Bool) : SA spOpp [.str (sd f)] G (XV (.str (sd (!f)))) := by
  have h := sa_opp (G := G) f
  cases f <;> exact h
theorem mm_yes {c : Bool} {v : V} (h : true = c) : mm c v = [v] := by
  unfold mm
  rw [if_pos h.symm]
theorem mm_no {c : Bool} {v : V} (h : false = c) : mm c v = [] := by
  unfold mm
  rw [if_neg (by rw [← h]; exact Bool.false_ne_true)]
theorem EA.imp {ta : TA} {σ : L2.St} {G : Hp} {R S : List V → Hp → Prop} (h : EA ta σ G R) (k : ∀ vs G', Ex G G' → R vs G' → S vs G') : EA ta σ G S := fun H e Q q => h H e Q fun vs G' H' g p => q vs G' H' g (k vs G' g.up p)
theorem take_next {α : Type} : ∀ {l : List α} {k : Nat} {x : α}, l[k]? = some x → l.take (k + 1) = l.take k ++ [x]
  | [], k, x, h => by simp at h
  | a :: l, 0, x, h => by
    have e : a = x := Option.some.inj h
    subst e
    rfl
  | a :: l, k + 1, x, h => by
    show a :: l.take (k + 1) = a :: (l.take k ++ [x])
    rw [take_next (l := l) (k := k) (x := x) h]
theorem Srt.len_at {js : List (Int × Int)} {n : Nat} {ess : List (List Int)} (h : Srt (eo js) n ess) (i : Nat) : (ess.getD i []).length ≤ js.length := by
  by_cases hi : i < n
  · obtain ⟨x, _, e, hp, _⟩ := h.get hi
    rw [e, hp.length_eq]
    exact eo_len_le js _
  · rw [List.getD_eq_getElem?_getD, List.getElem?_eq_none (by rw [h.len]; omega)]
    exact Nat.zero_le _
theorem fan_len {js : List (Int × Int)} {n : Nat} {ess : List (List Int)} (h : Srt (eo js) n ess) {i : Nat} (hi : i ≤ n) : (fan ess i).length ≤ js.length := by
  rw [(fan_perm h i hi).length_eq]
  exact List.length_filter_le _ _
end Lw

set_option Elab.async false
set_option linter.all false
set_option maxRecDepth 100000
set_option maxHeartbeats 4000000
/-! a layout that is being made -/
namespace Lw
open PySem L2
open Evl (Ex)
def outH (H : Hp) (x : Addr) : Hp := fun a => if a = x then none else H a
theorem out_self {H : Hp} {x : Addr} : outH H x x = none := if_pos rfl
theorem out_ne {H : Hp} {x a : Addr} (h : a ≠ x) : outH H x a = H a := if_neg h
theorem out_ex {H : Hp} {x : Addr} : Ex (outH H x) H := fun a o h => by
  by_cases e : a = x
  · rw [e, out_self] at h
    cases h
  · rw [out_ne e] at h
    exact h
theorem ex_out {G H : Hp} {x : Addr} (e : Ex G H) (h : G x = none) : Ex G (outH H x) := fun a o q => by
  rw [out_ne (ne_of_none q h)]
  exact e a o q
open Classical in
/-- what is known of the objects in S, and G -/
noncomputable def pick (S : List Addr) (G H : Hp) : Hp := fun a => if a ∈ S then H a else G a
theorem pick_in {S : List Addr} {G H : Hp} {a : Addr} (h : a ∈ S) : pick S G H a = H a := if_pos h
theorem pick_gr {S : List Addr} {G Hs H : Hp} (hS : ∀ a ∈ S, Hs a = none) (e0 : Ex G Hs) (e : Ex Hs H) : Gr G (pick S G H) Hs H := by
  have no : ∀ a o, G a = some o → a ∉ S := fun a o q m => by
    have z := e0 a o q
    rw [hS a m] at z
    cases z
  refine ⟨fun a o q => ?_, fun a o q => ?_, e, fun a h g => ?_⟩
  · unfold pick
    rw [if_neg (no a o q)]
    exact q
  · unfold pick at q
    split at q
    · exact q
    · exact e a o (e0 a o q)
  · unfold pick
    rw [if_neg (fun m => h (hS a m))]
    exact g
structure AddSt (C : Addr) (H : Hp) (x : Addr) (n : Nat) (parks : List Int) (js : List (Int × Int)) (dx : Addr) (fs : List (Str × V)) (l ym e w : Addr) (ea wa : List Addr) : Prop where
  ins : H x = some (.ins C dx fs)
  fld : FLd fs (n : Int) l ym e w
  marks : H ym = some (.lst ((marksOf n parks).map V.bl))
  east : H e = some (.lst (ea.map V.ref))
  west : H w = some (.lst (wa.map V.ref))
  le : ea.length = n
  lw : wa.length = n
  ae : ∀ (b : Nat) a, ea[b]? = some a → H a = some (.lst ((eo js (b : Int)).map V.int))
  aw : ∀ (b : Nat) a, wa[b]? = some a → H a = some (.lst ((wo js (b : Int)).map V.int))
  nd : (ea ++ wa).Nodup
section
variable {K : PySem.W.Frag} {C : Addr} {H H' : Hp} {x : Addr} {n : Nat} {parks : List Int} {js : List (Int × Int)} {dx : Addr} {fs : List (Str × V)} {l ym e w : Addr} {ea wa : List Addr}
theorem AddSt.ex (s : AddSt C H x n parks js dx fs l ym e w ea wa) (h : Ex H H') : AddSt C H' x n parks js dx fs l ym e w ea wa :=
  ⟨h _ _ s.ins, s.fld, h _ _ s.marks, h _ _ s.east, h _ _ s.west, s.le, s.lw, fun b a q => h _ _ (s.ae b a q), fun b a q => h _ _ (s.aw b a q), s.nd⟩
theorem AddSt.size (s : AddSt C H x n parks js dx fs l ym e w ea wa) : SizeAt C H x (n : Int) := ⟨dx, fs, s.ins, s.fld.size⟩
theorem refs_ints {as : List Addr} {zs : List Int} (h : as.map V.ref = zs.map V.int) : as = [] := by
  cases as with
  | nil => rfl
  | cons a as =>
    cases zs with
    | nil => cases h
    | cons z zs => cases h
theorem bls_ints {bs : List Bool} {zs : List Int} (h : bs.map V.bl = zs.map V.int) : bs = [] := by
  cases bs with
  | nil => rfl
  | cons a as =>
    cases zs with
    | nil => cases h
    | cons z zs => cases h
theorem marks_len : (marksOf n parks).length = n := by
  unfold marksOf
  rw [List.length_map, List.length_range]
/-- an inner list is no other object of the layout -/
theorem AddSt.inner (s : AddSt C H x n parks js dx fs l ym e w ea wa) (h0 : 0 < n) {a : Addr} {zs : List Int} (ha : H a = some (.lst (zs.map V.int))) : x ≠ a ∧ ym ≠ a ∧ e ≠ a ∧ w ≠ a := by
  refine ⟨fun z => ?_, fun z => ?_, fun z => ?_, fun z => ?_⟩
  · have q := s.ins
    rw [z, ha] at q
    cases q
  · have q := s.marks
    rw [z, ha] at q
    have q2 := bls_ints (HO.lst.inj (Option.some.inj q)).symm
    have := marks_len (n := n) (parks := parks)
    rw [q2] at this
    simp at this
    omega
  · have q := s.east
    rw [z, ha] at q
    have q2 := refs_ints (HO.lst.inj (Option.some.inj q)).symm
    have := s.le
    rw [q2] at this
    simp at this
    omega
  · have q := s.west
    rw [z, ha] at q
    have q2 := refs_ints (HO.lst.inj (Option.some.inj q)).symm
    have := s.lw
    rw [q2] at this
    simp at this
    omega
theorem nd_ne {as bs : List Addr} (h : (as ++ bs).Nodup) {i j : Nat} {a b : Addr} (ha : as[i]? = some a) (hb : bs[j]? = some b) : a ≠ b := by
  have q := (List.nodup_append.mp h).2.2
  exact q a (List.mem_of_getElem? ha) b (List.mem_of_getElem? hb)
theorem AddSt.step (s : AddSt C H x n parks js dx fs l ym e w ea wa) {i j : Nat} {a a2 : Addr} (hi : ea[i]? = some a) (hj : wa[j]? = some a2) (h1 : H' a = some (.lst ((eo js (i : Int) ++ [(j : Int)]).map V.int))) (h2 : H' a2 = some (.lst ((wo js (j : Int) ++ [(i : Int)]).map V.int)))
    (hk : ∀ b o, b ≠ a → b ≠ a2 → H b = some o → H' b = some o) : AddSt C H' x n parks (js ++ [((i : Int), (j : Int))]) dx fs l ym e w ea wa := by
  have h0 : 0 < n := by
    have := (List.getElem?_eq_some_iff.mp hi).1
    have := s.le
    omega
  obtain ⟨n1, n2, n3, n4⟩ := s.inner h0 (s.ae i a hi)
  obtain ⟨m1, m2, m3, m4⟩ := s.inner h0 (s.aw j a2 hj)
  refine ⟨hk _ _ n1 m1 s.ins, s.fld, hk _ _ n2 m2 s.marks, hk _ _ n3 m3 s.east, hk _ _ n4 m4 s.west, s.le, s.lw, fun b c hc => ?_, fun b c hc => ?_, s.nd⟩
  · by_cases hb : i = b
    · subst hb
      rw [hi] at hc
      cases hc
      rw [eo_snoc_same]
      exact h1
    · rw [eo_snoc_ne js (by omega)]
      refine hk _ _ (fun z => hb ?_) (nd_ne s.nd hc hj) (s.ae b c hc)
      subst z
      exact nd_ix (List.nodup_append.mp s.nd).1 hi hc
  · by_cases hb : j = b
    · subst hb
      rw [hj] at hc
      cases hc
      rw [wo_snoc_same]
      exact h2
    · rw [wo_snoc_ne js (by omega)]
      refine hk _ _ (fun z => ?_) (fun z => hb ?_) (s.aw b c hc)
      · exact nd_ne s.nd hi hc z.symm
      · subst z
        exact nd_ix (List.nodup_append.mp s.nd).2.1 hj hc
end
def spAdd (C : Addr) : Sp := fun vs H Q _ => ∃ (x : Addr) (n : Nat) (parks : List Int) (js : List (Int × Int)) (dx : Addr) (fs : List (Str × V)) (l ym e w : Addr) (ea wa : List Addr) (u v : Int), vs = [.ref x, .int u, .int v] ∧ AddSt C H x n parks js dx fs l ym e w ea wa ∧ JNew (n : Int) parks js u v ∧ js.length ≤ 900 ∧
  ∀ H', AddSt C H' x n parks (js ++ [(u, v)]) dx fs l ym e w ea wa → (∀ a o, a ∉ ea → a ∉ wa → H a = some o → H' a = some o) → Q .non H'
def spInit (K : PySem.W.Frag) (C : Addr) : Sp := fun vs H Q _ => ∃ (G : Hp) (x dx : Addr) (lens : List Int) (js : List (Int × Int)) (parks : List Int) (a1 a2 a3 : Addr), vs = [.ref x, .ref a1, .ref a2, .ref a3] ∧ Ex G H ∧ G x = none ∧ H x = some (.ins C dx []) ∧
  Dp K G (.ref a1) (dI lens) ∧ Dp K G (.ref a2) (dPs js) ∧ Dp K G (.ref a3) (dI parks) ∧ 1 ≤ lens.length ∧ lens.length ≤ 200 ∧ (∀ z ∈ lens, 1 ≤ z) ∧ (∀ b ∈ parks, 0 ≤ b ∧ b < (lens.length : Int)) ∧ JOk (lens.length : Int) parks js ∧ js.length ≤ 900 ∧
  ∀ G' H', Gr G G' (outH H x) H' → LayAt K C G' x lens.length parks js → Q .non H'
section
variable {K : PySem.W.Frag} {σ : L2.St} {G H : Hp} {ta tb te : TE} {P : VP} {D : Ends}
theorem ex_fld {C dx a : Addr} {fs : List (Str × V)} {f : Str} {v : V} (ho : EF ta σ G (XV (.ref a))) (hI : G a = some (.ins C dx fs)) (hc : Cls K C) (hn : NoAttr K C f) (hl : fs.lookup f = some v) : EF (tFld K ta f) σ G (XV v) := ef_fld ho hI hc hn hl rfl
theorem ex_lenL {a : Addr} {xs : List V} (ha : EF ta σ G (XV (.ref a))) (hs : SqL K G a xs) : EF (tCB (Evl.rLenS K) (tCons ta tNil)) σ G (XV (.int (xs.length : Int))) := fun H e Q q => ha H e _ fun x G1 H1 g1 p => by
  cases (show x = .ref a from p)
  exact ⟨a, xs, rfl, .inl (Evl.ex_l (g1.up.trans g1.ok) hs), q _ G1 H1 g1 rfl⟩
theorem st_fld {C dx x : Addr} {fs : List (Str × V)} {f : Str} {tv : TE} (hi : H x = some (.ins C dx fs)) (hv : EF tv σ H P) (ho : EF ta σ H (XV (.ref x))) (hc : Cls K C) (hn : NoAttr K C f) (hl : fs.length < 1000)
    (k : ∀ y G' H', Ex H G' → Ex G' H' → P y G' → D.nx σ (upd H' x (.ins C dx (putF f y fs)))) : sFld K ta tv f D σ H := hv H (Ex.refl H) _ fun y G1 H1 g1 p1 => ho H1 g1.hp _ fun z G2 H2 g2 p2 => by
  refine ⟨x, C, dx, fs, p2, g2.hp _ _ (g1.hp _ _ hi), hc, hn, hl, ?_⟩
  exact k y G1 H2 g1.up (g1.ok.trans g2.hp) p1
theorem ef_sortI {a : Addr} {ns : List Int} (ha : EF ta σ G (XV (.ref a))) (hs : SqL K G a (ns.map V.int)) : EF (tCB (rSortedI K) (tCons ta tNil)) σ G fun v G' => ∃ (p : Addr) (ns' : List Int), v = .ref p ∧ G p = none ∧ G' p = some (.lst (ns'.map V.int)) ∧ ns'.Perm ns ∧ ns'.Pairwise (· ≤ ·) := fun H e Q q => ha H e _ fun x G1 H1 g1 p => by
  cases (show x = .ref a from p)
  refine ⟨a, ns, rfl, Evl.ex_l (g1.up.trans g1.ok) hs, fun ns' p2 h1 h2 h3 => ?_⟩
  exact q _ _ _ (g1.trans (.new g1.ok h3)) ⟨p2, ns', rfl, none_back (g1.up.trans g1.ok) h3, upd_same, h1, h2⟩
theorem putF_len (f : Str) (v : V) : ∀ fs : List (Str × V), (putF f v fs).length ≤ fs.length + 1
  | [] => Nat.le_refl _
  | (g, x) :: r => by
    unfold putF
    split
    · simp
    · have := putF_len f v r
      simp
      omega
theorem fld5 {n : Int} {l y e w : Addr} : FLd (putF "_west" (.ref w) (putF "_east" (.ref e) (putF "_yard_marks" (.ref y) (putF "_lengths" (.ref l) (putF "size" (.int n) []))))) n l y e w ∧ (putF "_west" (.ref w) (putF "_east" (.ref e) (putF "_yard_marks" (.ref y) (putF "_lengths" (.ref l) (putF "size" (.int n) []))))).length ≤ 5 := by
  refine ⟨⟨?_, ?_, ?_, ?_, ?_, fun m h1 h2 h3 h4 h5 => ?_, ?_⟩, ?_⟩
  · rw [lookup_putF, if_neg (by decide +kernel), lookup_putF, if_neg (by decide +kernel), lookup_putF, if_neg (by decide +kernel), lookup_putF, if_neg (by decide +kernel), lookup_putF, if_pos rfl]
  · rw [lookup_putF, if_neg (by decide +kernel), lookup_putF, if_neg (by decide +kernel), lookup_putF, if_neg (by decide +kernel), lookup_putF, if_pos rfl]
  · rw [lookup_putF, if_neg (by decide +kernel), lookup_putF, if_neg (by decide +kernel), lookup_putF, if_pos rfl]
  · rw [lookup_putF, if_neg (by decide +kernel), lookup_putF, if_pos rfl]
  · rw [lookup_putF, if_pos rfl]
  · rw [lookup_putF, if_neg h5, lookup_putF, if_neg h4, lookup_putF, if_neg h3, lookup_putF, if_neg h2, lookup_putF, if_neg h1]
    rfl
  all_goals
    have q1 := putF_len "size" (.int n) []
    have q2 := putF_len "_lengths" (.ref l) (putF "size" (.int n) [])
    have q3 := putF_len "_yard_marks" (.ref y) (putF "_lengths" (.ref l) (putF "size" (.int n) []))
    have q4 := putF_len "_east" (.ref e) (putF "_yard_marks" (.ref y) (putF "_lengths" (.ref l) (putF "size" (.int n) [])))
    have q5 := putF_len "_west" (.ref w) (putF "_east" (.ref e) (putF "_yard_marks" (.ref y) (putF "_lengths" (.ref l) (putF "size" (.int n) []))))
    rw [List.length_nil] at q1
    omega
theorem FLd.putE {fs : List (Str × V)} {n : Int} {l y e w e2 : Addr} (h : FLd fs n l y e w) (hl : fs.length ≤ 19) : FLd (putF "_east" (.ref e2) fs) n l y e2 w := by
  refine ⟨?_, ?_, ?_, ?_, ?_, fun m h1 h2 h3 h4 h5 => ?_, ?_⟩
  · rw [lookup_putF, if_neg (by decide +kernel)]; exact h.size
  · rw [lookup_putF, if_neg (by decide +kernel)]; exact h.lens
  · rw [lookup_putF, if_neg (by decide +kernel)]; exact h.marks
  · rw [lookup_putF, if_pos rfl]
  · rw [lookup_putF, if_neg (by decide +kernel)]; exact h.west
  · rw [lookup_putF, if_neg h4]; exact h.no m h1 h2 h3 h4 h5
  · have := putF_len "_east" (.ref e2) fs; omega
theorem FLd.putW {fs : List (Str × V)} {n : Int} {l y e w w2 : Addr} (h : FLd fs n l y e w) (hl : fs.length ≤ 19) : FLd (putF "_west" (.ref w2) fs) n l y e w2 := by
  refine ⟨?_, ?_, ?_, ?_, ?_, fun m h1 h2 h3 h4 h5 => ?_, ?_⟩
  · rw [lookup_putF, if_neg (by decide +kernel)]; exact h.size
  · rw [lookup_putF, if_neg (by decide +kernel)]; exact h.lens
  · rw [lookup_putF, if_neg (by decide +kernel)]; exact h.marks
  · rw [lookup_putF, if_neg (by decide +kernel)]; exact h.east
  · rw [lookup_putF, if_pos rfl]
  · rw [lookup_putF, if_neg h5]; exact h.no m h1 h2 h3 h4 h5
  · have := putF_len "_west" (.ref w2) fs; omega
/-- the addresses among values -/
def adrs (vs : List V) : List Addr := vs.filterMap fun v => match v with | .ref a => some a | _ => none
theorem mem_adrs {vs : List V} {a : Addr} : a ∈ adrs vs ↔ V.ref a ∈ vs := by
  unfold adrs
  rw [List.mem_filterMap]
  constructor
  · rintro ⟨v, hv, e⟩
    cases v with
    | ref b =>
      have e2 : b = a := Option.some.inj e
      subst e2
      exact hv
    | _ => cases e
  · intro h
    exact ⟨_, h, rfl⟩
theorem sq_pick {S : List Addr} {G H : Hp} {a : Addr} {xs : List V} (m : a ∈ S) (h : SqL K H a xs) : SqL K (pick S G H) a xs := by
  have e : pick S G H a = H a := pick_in m
  rcases h with (h | ⟨o, h⟩) | h
  · exact .inl (.inl (by rw [e]; exact h))
  · exact .inl (.inr ⟨o, by rw [e]; exact h⟩)
  · exact .inr h
theorem dpa_pick {S : List Addr} {G H : Hp} : ∀ {acc : List V} {ess : List (List Int)}, (∀ a, V.ref a ∈ acc → a ∈ S) → DpAll K H acc (ess.map dI) → DpAll K (pick S G H) acc (ess.map dI)
  | [], [], _, _ => .nil
  | v :: acc, z :: ess, hm, h => by
    cases h with
    | cons h1 h2 =>
      refine .cons ?_ (dpa_pick (fun a m => hm a (List.mem_cons_of_mem _ m)) h2)
      obtain ⟨a, xs, rfl, hs, hd⟩ := dp_lst h1
      rw [dpa_ints_eq hd] at hs
      exact .lst (sq_pick (hm a (List.mem_cons_self ..)) hs) (dpa_ints z)
  | [], _ :: _, _, h => nomatch h
  | _ :: _, [], _, h => nomatch h
theorem sq_upd {H : Hp} {a x : Addr} {o : HO} {xs : List V} (m : a ≠ x) (h : SqL K H a xs) : SqL K (upd H x o) a xs := by
  have e : upd H x o a = H a := upd_ne m
  rcases h with (h | ⟨o, h⟩) | h
  · exact .inl (.inl (by rw [e]; exact h))
  · exact .inl (.inr ⟨o, by rw [e]; exact h⟩)
  · exact .inr h
theorem dpa_upd {H : Hp} {x : Addr} {o : HO} : ∀ {acc : List V} {ess : List (List Int)}, (∀ a, V.ref a ∈ acc → a ≠ x) → DpAll K H acc (ess.map dI) → DpAll K (upd H x o) acc (ess.map dI)
  | [], [], _, _ => .nil
  | v :: acc, z :: ess, hm, h => by
    cases h with
    | cons h1 h2 =>
      refine .cons ?_ (dpa_upd (fun a m => hm a (List.mem_cons_of_mem _ m)) h2)
      obtain ⟨a, xs, rfl, hs, hd⟩ := dp_lst h1
      rw [dpa_ints_eq hd] at hs
      exact .lst (sq_upd (hm a (List.mem_cons_self ..)) hs) (dpa_ints z)
  | [], _ :: _, _, h => nomatch h
  | _ :: _, [], _, h => nomatch h
end
end Lw

set_option Elab.async false
set_option linter.all false
set_option maxRecDepth 100000
set_option maxHeartbeats 4000000
/-! ints of any size, types, sameness -/
namespace Lw
open PySem L2
open Evl (Ex)
def rAbsI : List V → Hp → VK → Prop := fun xs H Q => ∃ i, xs = [.int i] ∧ Q (.int (if i < 0 then -i else i)) H
def rIntI : List V → Hp → VK → Prop := fun xs H Q => (∃ i, xs = [.int i] ∧ Q (.int i) H) ∨ ∃ k, xs = [.bl k] ∧ Q (.int (if k then 1 else 0)) H
def rMinI : List V → Hp → VK → Prop := fun xs H Q => ∃ i j, xs = [.int i, .int j] ∧ Q (.int (if j < i then j else i)) H
def rIsNone : R2 := fun x y H Q => y = .non ∧ Q (.bl (decide (x = .non))) H
section
variable {K : PySem.W.Frag} {σ : L2.St} {G H : Hp} {ta tb te : TE} {P : VP} {D : Ends} {p q s : Int → Prop}
theorem ei_abs (ha : EF ta σ G (IV p)) : EF (tCB rAbsI (tCons ta tNil)) σ G (IV fun _ => True) := fun H e Q k => ha H e _ fun x G1 H1 g1 ⟨z, ez, _⟩ => ⟨z, by rw [ez], k _ G1 H1 g1 ⟨_, rfl, trivial⟩⟩
theorem ei_int (ha : EF ta σ G (IV p)) : EF (tCB rIntI (tCons ta tNil)) σ G (IV p) := fun H e Q k => ha H e _ fun x G1 H1 g1 ⟨z, ez, hz⟩ => .inl ⟨z, by rw [ez], k _ G1 H1 g1 ⟨_, rfl, hz⟩⟩
theorem ei_min (ha : EF ta σ G (IV p)) (hb : EF tb σ G (IV q)) (h : ∀ a b, p a → q b → s (if b < a then b else a)) : EF (tCB rMinI (tCons ta (tCons tb tNil))) σ G (IV s) := fun H e Q k => (ea_two mo_IV mo_IV ha hb) H e _ fun vs G1 H1 g1 ⟨x, y, ev, ⟨a, ea, pa⟩, ⟨b, eb, pb⟩⟩ =>
  ⟨a, b, by rw [ev, ea, eb], k _ G1 H1 g1 ⟨_, rfl, h a b pa pb⟩⟩
theorem ei_mod {n : Int} (ha : EF ta σ G (IV p)) (hb : EF tb σ G (IV (· = n))) (hn : 0 < n) (h : ∀ a, p a → s (a % n)) : EF (tOp (rI (fun _ j => 0 < j) fun i j => .int (i % j)) ta tb) σ G (IV s) :=
  ei_opC ha hb (fun a b _ hb => by rw [hb]; exact hn) fun a b G' pa pb => ⟨_, rfl, by rw [pb]; exact h a pa⟩
theorem ei_div {n : Int} (ha : EF ta σ G (IV p)) (hb : EF tb σ G (IV (· = n))) (hn : 0 < n) (hm : n < 1000000) (h : ∀ a, p a → s (a / n)) : EF (tOp (rI CDiv fun i j => .int (i / j)) ta tb) σ G (IV s) :=
  ei_opC ha hb (fun a b _ hb => by rw [hb]; exact ⟨hn, by omega⟩) fun a b G' pa pb => ⟨_, rfl, by rw [pb]; exact h a pa⟩
theorem ei_mul (ha : EF ta σ G (IV p)) (hb : EF tb σ G (IV q)) (hc : ∀ a, p a → -1000000000000 < a ∧ a < 1000000000000) (h : ∀ a b, p a → q b → s (a * b)) : EF (tOp (rI CMul fun i j => .int (i * j)) ta tb) σ G (IV s) :=
  ei_opC ha hb (fun a b pa _ => .inl (by have := hc a pa; omega)) fun a b G' pa pb => ⟨_, rfl, h a b pa pb⟩
/-- a comparison of ints -/
theorem ec_int {f : Int → Int → Bool} {s : Bool → Prop} (ha : EF ta σ G (IV p)) (hb : EF tb σ G (IV q)) (h : ∀ a b, p a → q b → s (f a b)) : EF (tOp (rI0 fun i j => .bl (f i j)) ta tb) σ G (BV s) := ei_op0 ha hb fun a b _ pa pb => ⟨_, rfl, h a b pa pb⟩
theorem iv_any (h : EF te σ G (IV p)) : EF te σ G (IV fun _ => True) := h.imp fun v _ _ ⟨z, e, _⟩ => ⟨z, e, trivial⟩
theorem EF.ivp {z : Int} (h : EF te σ G (XV (.int z))) (hz : p z) : EF te σ G (IV p) := h.imp fun v _ _ e => ⟨z, e, hz⟩
/-- a call whose arguments are ints -/
theorem ei_draw {E : XK} {tc tk tn : TE} {n : Int} (hc : EF tc σ G (IV fun _ => True)) (hk : EF tk σ G (IV fun z => 0 ≤ z ∧ z ≤ 2000)) (hn : EF tn σ G (IV (· = n))) (h1 : 1 ≤ n) (h2 : n ≤ 2000) : EF (tCall spDraw [] E (tCons tc (tCons tk (tCons tn tNil)))) σ G (IV fun z => 0 ≤ z ∧ z < n) :=
  ef_call (ea_three mo_IV mo_IV mo_IV hc hk hn) fun vs G' _ ⟨x, y, z, ev, ⟨a, ea, _⟩, ⟨b, eb, hb⟩, ⟨c, ec, hc⟩⟩ => by
    subst ev ea eb ec
    subst hc
    exact sa_draw hb.1 hb.2 h1 h2
/-! what a value's type is -/
inductive Ki where | i | s | l | t
def nameK : Ki → String | .i => "int" | .s => "str" | .l => "list" | .t => "tuple"
def kiOf : PyData → Option Ki | .int _ => some .i | .str _ => some .s | .list _ => some .l | .tuple _ => some .t | _ => none
theorem ty_sl {a : Addr} {xs : List V} (h : SqL K G a xs) : TyX K G (.ref a) (.type "list") := by
  rcases h with (h | ⟨o, h⟩) | ⟨o, its, n, h1, h2, _⟩
  · exact .base (.lst h)
  · exact .base (.frz h)
  · exact .kList h1 h2
theorem ty_st {a : Addr} {xs : List V} (h : SqT K G a xs) : TyX K G (.ref a) (.type "tuple") := by
  rcases h with (h | ⟨o, h⟩) | ⟨o, its, n, h1, h2, _⟩
  · exact .base (.tup h)
  · exact .fTuple h
  · exact .kTuple h1 h2
theorem ty_of {v : V} {d : PyData} {k : Ki} (h : Dp K G v d) (hk : kiOf d = some k) : TyX K G v (.type (nameK k)) := by
  cases h with
  | non => cases hk
  | bl b => cases hk
  | int z => cases hk; exact .base (.int z)
  | str z => cases hk; exact .base (.str z)
  | lst hs _ => cases hk; exact ty_sl hs
  | tup hs _ => cases hk; exact ty_st hs
theorem ex_isi {v : V} {d : PyData} {k : Ki} {c : String} {r : Bool} (ha : EF ta σ G (XV v)) (hb : EF tb σ G (XV (.ty c))) (hd : Dp K G v d) (hk : kiOf d = some k) (hr : kitB (nameK k) c = some r) : EF (tCB (rIsi K) (tCons ta (tCons tb tNil))) σ G (XV (.bl r)) :=
  ef_cb (ea_two mo_XV mo_XV ha hb) fun vs G' e ⟨x, y, ev, hx, hy⟩ => by
    subst ev
    cases (show x = v from hx)
    cases (show y = .ty c from hy)
    exact fun H e2 Q q => ⟨v, .ty c, _, _, r, rfl, .ty c, ty_of (dpx hd (e.trans e2)) hk, kit_ty hr, q _ G' H (.refl e2) rfl⟩
theorem ex_isN {v : V} (ha : EF ta σ G (XV v)) (hb : EF tb σ G (XV .non)) : EF (tOp rIsNone ta tb) σ G (XV (.bl (decide (v = .non)))) := ef_op mo_XV mo_XV ha hb fun x y G' _ hx hy => by
  cases (show x = v from hx)
  cases (show y = .non from hy)
  exact fun H e Q k => ⟨rfl, k _ G' H (.refl e) rfl⟩
theorem ex_isC {v : V} {c : Bool} (ha : EF ta σ G (XV v)) (hb : EF tb σ G (XV (.bl c))) : EF (tOp (rIsC c) ta tb) σ G (XV (.bl (decide (v = .bl c)))) := ef_op mo_XV mo_XV ha hb fun x y G' _ hx hy => by
  cases (show x = v from hx)
  cases (show y = .bl c from hy)
  exact fun H e Q k => ⟨rfl, k _ G' H (.refl e) rfl⟩
theorem okd_ki {n : Nat} {d : PyData} (h : Okd n d) : ∃ k, kiOf d = some k := by
  cases d with
  | int z => exact ⟨_, rfl⟩
  | str z => exact ⟨_, rfl⟩
  | list z => exact ⟨_, rfl⟩
  | tuple z => exact ⟨_, rfl⟩
  | _ => cases n <;> exact h.elim
theorem dp_not {v : V} {d : PyData} {k : Ki} (h : Dp K G v d) (hk : kiOf d = some k) : v ≠ .non ∧ ∀ b, v ≠ .bl b := by
  cases h with
  | non => cases hk
  | bl b => cases hk
  | int z => exact ⟨(fun z => nomatch z), (fun b z => nomatch z)⟩
  | str z => exact ⟨(fun z => nomatch z), (fun b z => nomatch z)⟩
  | lst hs _ => exact ⟨(fun z => nomatch z), (fun b z => nomatch z)⟩
  | tup hs _ => exact ⟨(fun z => nomatch z), (fun b z => nomatch z)⟩
/-- a list or a tuple -/
def SqA (K : PySem.W.Frag) (G : Hp) (v : V) (xs : List V) : Prop := ∃ a, v = .ref a ∧ (SqL K G a xs ∨ SqT K G a xs)
theorem SqA.ex {G' : Hp} {v : V} {xs : List V} (h : SqA K G v xs) (e : Ex G G') : SqA K G' v xs := by
  obtain ⟨a, rfl, h⟩ := h
  exact ⟨a, rfl, h.elim (fun h => .inl (Evl.ex_l e h)) fun h => .inr (Evl.ex_t e h)⟩
theorem ex_lenA {v : V} {xs : List V} (ha : EF ta σ G (XV v)) (hs : SqA K G v xs) : EF (tCB (Evl.rLenS K) (tCons ta tNil)) σ G (XV (.int (xs.length : Int))) := fun H e Q q => ha H e _ fun x G1 H1 g1 p => by
  cases (show x = v from p)
  obtain ⟨a, rfl, h⟩ := hs.ex (g1.up.trans g1.ok)
  exact ⟨a, xs, rfl, h, q _ G1 H1 g1 rfl⟩
theorem ex_ixA {v : V} {xs : List V} {i : Nat} {u : V} (ha : EF ta σ G (XV v)) (hb : EF tb σ G (XV (.int (i : Int)))) (hs : SqA K G v xs) (hu : xs[i]? = some u) : EF (tOp (rIx K) ta tb) σ G (XV u) := ef_op mo_XV mo_XV ha hb fun x y G' e1 hx hy => by
  cases (show x = v from hx)
  cases (show y = .int (i : Int) from hy)
  refine fun H e Q k => ?_
  obtain ⟨a, rfl, h⟩ := hs.ex (e1.trans e)
  rcases h with h | h
  · exact .inl ⟨a, xs, _, u, rfl, rfl, h, atI_of rfl hu, k _ G' H (.refl e) rfl⟩
  · exact .inr (.inl ⟨a, xs, _, u, rfl, rfl, h, atI_of rfl hu, k _ G' H (.refl e) rfl⟩)
end
end Lw

set_option Elab.async false
set_option linter.all false
set_option maxRecDepth 100000
set_option maxHeartbeats 4000000
/-! how many of a list of pairs have this number; drawn lists -/
namespace Lw
open PySem L2
open Evl (Ex)
section
variable {K : PySem.W.Frag} {σ : L2.St} {G H : Hp} {ta tb te tl : TE} {P : VP}
/-- the i-th of a pair of ints -/
theorem ei_pair {q : Int × Int} {v : V} {i : Nat} {z : Int} (ha : EF ta σ G (XV v)) (hv : Dp K G v (dP q)) (hb : EF tb σ G (XV (.int (i : Int)))) (hz : ([PyData.int q.1, .int q.2])[i]? = some (.int z)) : EF (tOp (rIxT K) ta tb) σ G (XV (.int z)) := by
  obtain ⟨a, xs, rfl, hs, hd⟩ := dp_tup hv
  obtain ⟨u, hu, du⟩ := dpa_get' hd hz
  cases du
  exact ex_ixT ha hb hs hu
theorem ef_cnt {a : Addr} {xs : List V} {js : List (Int × Int)} {j so i0 : Nat} {o : Int} {sel : Int × Int → Int} (hsel : ∀ p : Int × Int, ([PyData.int p.1, .int p.2])[i0]? = some (.int (sel p))) (h : EF tl σ G (XV (.ref a))) (hs : SqL K G a xs) (hx : DpAll K G xs (js.map dP)) (hlen : js.length ≤ 1000)
    (hw : ∀ x, wipe ((wipe σ [j]).set j (some x)) [j] = wipe σ [j]) (h1 : ∀ x, ((wipe σ [j]).set j (some x))[j]? = some (some x)) (h2 : ∀ x, ((wipe σ [j]).set j (some x))[so]? = some (some (.int o))) :
    EF (tCB (Evl.rLenS K) (tCons (tLc (iList K tl) (gName j) (tTest (tOp rEq (tOp (rIxT K) (tVar j) (tC (.int (i0 : Int)))) (tVar so))) (tVar j) [j]) tNil)) σ G (XV (.int (((js.filter fun p => decide (sel p = o)).length : Nat) : Int))) := by
  have hl : xs.length = js.length := by rw [dpa_len hx, List.length_map]
  have inner : EF (tLc (iList K tl) (gName j) (tTest (tOp rEq (tOp (rIxT K) (tVar j) (tC (.int (i0 : Int)))) (tVar so))) (tVar j) [j]) σ G fun v G' => ∃ q ys, v = .ref q ∧ G' q = some (.lst ys) ∧ ys.length = (js.filter fun p => decide (sel p = o)).length := by
    refine ef_lcL (xs := xs) (fun i acc G' => acc.length = ((js.take i).filter fun p => decide (sel p = o)).length) (h.imp fun v G' e p => ⟨a, p, Evl.ex_l e hs⟩) (by omega) hw (fun G' _ => rfl) (fun i x acc G' e1 hi hI => ?_) (fun p acc G' h1 h2 e1 _ hI => ⟨p, acc, rfl, upd_same, ?_⟩)
    · obtain ⟨d, hd, dx⟩ := dpa_get (dpax hx e1) hi
      rw [List.getElem?_map] at hd
      obtain ⟨q, hq, rfl⟩ := Option.map_eq_some_iff.mp hd
      refine ec_if (p := (· = decide (sel q = o))) (et_test (ei_eq (EF.iv (ei_pair (ef_var (h1 x) rfl) dx ex_c (hsel q))) (EF.iv (ef_var (h2 x) rfl)) fun a b ha hb => by rw [ha, hb])) (fun hb => ?_) (fun hb => ?_)
      · refine ef_var (h1 x) ?_
        rw [take_next hq, List.filter_append, List.length_append, List.length_append, hI, List.filter_cons, if_pos hb.symm]
        rfl
      · rw [take_next hq, List.filter_append, List.length_append, hI, List.filter_cons, if_neg (by rw [← hb]; exact Bool.false_ne_true)]
        rfl
    · rw [hI, hl, List.take_length]
  refine ef_cb (ea_one inner) fun vs G' e ⟨x, ev, p, ys, ex, hp, hy⟩ => ?_
  subst ev ex
  exact fun H e2 Q q => ⟨p, ys, rfl, .inl (Evl.sq_of (e2 _ _ hp)), q _ G' H (.refl e2) (by show V.int _ = V.int _; rw [hy])⟩
theorem eo_len (js : List (Int × Int)) (o : Int) : (js.filter fun p => decide (p.1 = o)).length = (eo js o).length := by
  unfold eo
  rw [List.length_map]
theorem wo_len (js : List (Int × Int)) (o : Int) : (js.filter fun p => decide (p.2 = o)).length = (wo js o).length := by
  unfold wo
  rw [List.length_map]
/-- a new list of ints of which p holds -/
def DL (p : List Int → Prop) : VP := fun v G' => ∃ (q : Addr) (ns : List Int), v = .ref q ∧ G' q = some (.lst (ns.map V.int)) ∧ p ns
theorem ef_lens {ta : TA} {j : Nat} {n : Int} (h : EA ta σ G fun us _ => us = [.int n]) (hn : 0 ≤ n ∧ n ≤ 1000) (hw : ∀ x, wipe ((wipe σ [j]).set j (some x)) [j] = wipe σ [j]) (he : ∀ (i : Nat) G', Ex G G' → (i : Int) < n → EF te ((wipe σ [j]).set j (some (.int (i : Int)))) G' (IV fun z => 1 ≤ z)) :
    EF (tLc (iRng1 ta) (gName j) tYes te [j]) σ G (DL fun ns => (ns.length : Int) = n ∧ ∀ z ∈ ns, 1 ≤ z) := by
  refine ef_lcR1 (n := n) (fun i xs G' => ∃ ns : List Int, xs = ns.map V.int ∧ ns.length = i ∧ ∀ z ∈ ns, 1 ≤ z) h ⟨hn.1, by omega⟩ hw (fun G' _ => ⟨[], rfl, rfl, fun z m => nomatch m⟩) (fun i xs G' e1 hi ⟨ns, ex, hl, hp⟩ => ec_all ((he i G' e1 hi).imp fun v G2 _ ⟨z, ez, hz⟩ => ⟨ns ++ [z], by rw [ex, ez, List.map_append]; rfl, by rw [List.length_append, hl]; rfl, fun y m => ?_⟩)) (fun p xs G' h1 h2 _ _ ⟨ns, ex, hl, hp⟩ => ⟨p, ns, rfl, by rw [upd_same, ex], by omega, hp⟩)
  rcases List.mem_append.mp m with m | m
  · exact hp y m
  · have e : y = z := by simpa using m
    rw [e]
    exact hz
theorem ef_parks {ta : TA} {j : Nat} {n : Int} {t : TT} (h : EA ta σ G fun us _ => us = [.int n]) (hn : 0 ≤ n ∧ n ≤ 1000) (hw : ∀ x, wipe ((wipe σ [j]).set j (some x)) [j] = wipe σ [j]) (hj : ∀ x, ((wipe σ [j]).set j (some x))[j]? = some (some x)) (ht : ∀ (i : Nat) G', Ex G G' → (i : Int) < n → ET t ((wipe σ [j]).set j (some (.int (i : Int)))) G' fun _ => True) :
    EF (tLc (iRng1 ta) (gName j) t (tVar j) [j]) σ G (DL fun ns => (ns.length : Int) ≤ n ∧ ∀ z ∈ ns, 0 ≤ z ∧ z < n) := by
  refine ef_lcR1 (n := n) (fun i xs G' => ∃ ns : List Int, xs = ns.map V.int ∧ ns.length ≤ i ∧ ∀ z ∈ ns, 0 ≤ z ∧ z < n) h ⟨hn.1, by omega⟩ hw (fun G' _ => ⟨[], rfl, Nat.le_refl _, fun z m => nomatch m⟩) (fun i xs G' e1 hi ⟨ns, ex, hl, hp⟩ => ec_if (ht i G' e1 hi) (fun _ => ef_var (hj _) ⟨ns ++ [(i : Int)], by rw [ex, List.map_append]; rfl, by rw [List.length_append]; exact Nat.succ_le_succ hl, fun y m => ?_⟩) (fun _ => ⟨ns, ex, by omega, hp⟩)) (fun p xs G' h1 h2 _ _ ⟨ns, ex, hl, hp⟩ => ⟨p, ns, rfl, by rw [upd_same, ex], by omega, hp⟩)
  rcases List.mem_append.mp m with m | m
  · exact hp y m
  · have e : y = (i : Int) := by simpa using m
    rw [e]
    omega
theorem dl_dp {p : List Int → Prop} {v : V} (h : DL p v G) : ∃ q ns, v = .ref q ∧ G q = some (.lst (ns.map V.int)) ∧ p ns ∧ Dp K G v (dI ns) := by
  obtain ⟨q, ns, ev, hq, hp⟩ := h
  exact ⟨q, ns, ev, hq, hp, by rw [ev]; exact dp_mkL hq (dpa_ints ns)⟩
/-- the state of the loops that draw joints: p the list -/
def JSt (K : PySem.W.Frag) (G1 H1 H' : Hp) (p : Addr) (n : Int) (parks : List Int) (most : Nat) (R : List (Int × Int) → Prop) : Prop := ∃ G' xs js, Gr G1 G' H1 H' ∧ G' p = none ∧ H' p = some (.lst xs) ∧ DpAll K G' xs (js.map dP) ∧ JOk n parks js ∧ js.length ≤ most ∧ R js
theorem JSt.up {G1 H1 H' H2 : Hp} {p : Addr} {n : Int} {parks : List Int} {m m' : Nat} {R R' : List (Int × Int) → Prop} (h : JSt K G1 H1 H' p n parks m R) (e : Ex H' H2) (hm : m ≤ m') (hR : ∀ js, R js → R' js) : JSt K G1 H1 H2 p n parks m' R' := by
  obtain ⟨G', xs, js, g, gp, hp, hx, hj, hl, r⟩ := h
  exact ⟨G', xs, js, g.then e, gp, e _ _ hp, hx, hj, Nat.le_trans hl hm, hR js r⟩
theorem Gr.put {G G' H H' : Hp} {p : Addr} {o : HO} (g : Gr G G' H H') (hp : H p = none) (gp : G' p = none) : Gr G G' H (upd H' p o) := ⟨g.up, ex_off g.ok gp, ex_off g.hp hp, g.2.2.2⟩
/-- 5 * block + d -/
theorem ei_k5 {j : Nat} {b d : Int} (h : σ[j]? = some (some (.int b))) (h0 : 0 ≤ b ∧ b ≤ 300) (hd : 0 ≤ d ∧ d ≤ 100) : EF (tOp (rI0 fun i j => .int (i + j)) (tOp (rI CMul fun i j => .int (i * j)) (tC (.int 5)) (tVar j)) (tC (.int d))) σ G (IV (· = 5 * b + d)) :=
  ei_add (p := (· = 5 * b)) (q := (· = d)) (ei_mul (p := (· = 5)) (q := (· = b)) (EF.iv ex_c) (EF.iv (ex_var h)) (fun a ha => by omega) fun a b ha hb => by rw [ha, hb]) (EF.iv ex_c) fun a b ha hb => by rw [ha, hb]
theorem EF.ivw {p q : Int → Prop} (h : EF te σ G (IV p)) (k : ∀ z, p z → q z) : EF te σ G (IV q) := h.imp fun v _ _ ⟨z, e, hz⟩ => ⟨z, e, k z hz⟩
/-- no joint more at a plain end that has two -/
theorem et_crowd {parks : List Int} {o : Int} {m : Nat} {b : Bool} {ta tb tc : TE} (hp : EF ta σ G (XV (.int o))) (hq : EF tb σ G (DV K (dI parks))) (hc : EF tc σ G (XV (.int (m : Int)))) :
    ET (tAnd (tTest (tOp (rNotInD K) ta tb)) (tTest (tOp rEq tc (tC (.int 2))))) σ G (· = (!decide (o ∈ parks) && decide (m = 2))) :=
  et_and (p := (· = !decide (o ∈ parks))) (q := (· = decide (m = 2))) (et_test ((ed_niD (d := .int o) (ds := parks.map PyData.int) (EF.dv hp (.int o)) hq (sh_int _) (sh_ints _)).imp fun v _ _ ⟨b, e, hb⟩ => ⟨b, e, by rw [hb, any_int]⟩)) (fun _ => et_test (ei_eq (EF.iv hc) (EF.iv ex_c) fun x y hx hy => by
    rw [hx, hy]
    by_cases h : m = 2
    · rw [h]; rfl
    · rw [decide_eq_false h, decide_eq_false (by omega)])) (fun h b hb => by rw [← h, hb]; rfl) (fun h => by rw [← h]; rfl)
end
end Lw

set_option Elab.async false
set_option linter.all false
set_option maxRecDepth 100000
set_option maxHeartbeats 4000000
/-! sorted of pairs by what they are; a new layout; a call by keywords -/
namespace Lw
open PySem L2
open Evl (Ex)
open PyProof.Rows
/-- the pair that a value is -/
def keyP (h : Heap) (v : Value) : Int × Int := match v with
  | .ref t => (match h.get? t with
    | some o => (match o.data with
      | .seq arr _ => (match arr.toList with | [.int x _, .int y _] => (x, y) | _ => (0, 0))
      | _ => (0, 0))
    | none => (0, 0))
  | _ => (0, 0)
theorem keyP_of {h : Heap} {t : Addr} {o : Obj} {x y : Int} {t1 t2 : Tok} {n : Nat} (ho : h.get? t = some o) (hd : o.data = .seq #[.int x t1, .int y t2] n) : keyP h (.ref t) = (x, y) := by
  unfold keyP
  simp only [ho, hd]
def rSortPD (K : PySem.W.Frag) : List V → Hp → VK → Prop := fun vs H Q => ∃ (G : Hp) (a : Addr) (xs : List V) (js : List (Int × Int)), Ex G H ∧ vs = [V.ref a] ∧ SqL K H a xs ∧ DpAll K G xs (js.map dP) ∧
  ∀ (ys : List V) (js' : List (Int × Int)) (p : Addr), DpAll K G ys (js'.map dP) → js'.Perm js → js'.Pairwise lexLe → H p = none → Q (.ref p) (upd H p (.lst ys))
section
variable {X : Cx}
theorem pair_facts {pins : List (Addr × Obj)} {σ : L2.St} {G H : Hp} {s : Shared} (I : Inv X pins σ H s) (e : Ex G H) : ∀ {xs : List V} {js : List (Int × Int)} {its : List Value}, DpAll X.K G xs (js.map dP) → Vals xs its →
    its.map (keyP s.heap) = js ∧ ∀ v ∈ its, Srt.IsPair s.heap v (keyP s.heap v).1 (keyP s.heap v).2 ∧ ∃ t, v = .ref t ∧ Dp X.K G (.ref t) (dP (keyP s.heap v))
  | [], [], _, _, .nil => ⟨rfl, fun v m => nomatch m⟩
  | x :: xs, q :: js, _, h, .cons rx rt => by
    rename_i v its
    cases h with
    | cons h1 h2 =>
      obtain ⟨e1, e2⟩ := pair_facts I e (js := js) h2 rt
      obtain ⟨t, ys, rfl, hs, hd⟩ := dp_tup h1
      have eys : ys = [.int q.1, .int q.2] := dpa_ints_eq (zs := [q.1, q.2]) hd
      have hs' := hs
      rw [eys] at hs'
      cases (show v = Value.ref t from rx)
      obtain ⟨its2, r2, ⟨o, ho, hc, n, hdt⟩, _⟩ := I.tuple (Evl.ex_t e hs')
      obtain ⟨u1, u2, rfl, ri, rj⟩ := vals2 r2
      obtain ⟨t1, rfl⟩ := ri
      obtain ⟨t2, rfl⟩ := rj
      have kq : keyP s.heap (.ref t) = q := keyP_of ho hdt
      refine ⟨by rw [List.map_cons, e1, kq], fun v m => ?_⟩
      rcases List.mem_cons.mp m with e3 | m
      · subst e3
        rw [kq]
        exact ⟨⟨t, o, t1, t2, n, rfl, ho, hc, hdt⟩, t, rfl, h1⟩
      · exact e2 v m
  | [], _ :: _, _, h, _ => nomatch h
  | _ :: _, [], _, h, _ => nomatch h
theorem dpa_map {K : PySem.W.Frag} {H : Hp} {f : Value → V} {k : Value → Int × Int} : ∀ {out : List Value}, (∀ v ∈ out, Dp K H (f v) (dP (k v))) → DpAll K H (out.map f) ((out.map k).map dP)
  | [], _ => .nil
  | v :: out, h => .cons (h v (List.mem_cons_self ..)) (dpa_map fun u m => h u (List.mem_cons_of_mem _ m))
theorem cr_sortPD : CallR X (.builtin "sorted") (rSortPD X.K) := by
  intro pins s σ H vs us Q I r h
  obtain ⟨G, a, xs, js, eG, rfl, hs, hx, q⟩ := h
  obtain ⟨its, rv, hl, hz⟩ := I.list hs
  obtain ⟨u, eu, ru⟩ := vals1 r
  subst eu
  cases (show u = Value.ref a from ru)
  obtain ⟨ek, hp⟩ := pair_facts I eG hx rv
  have hlen := rv.length
  refine SrtO.sorted_pairsO (k := keyP s.heap) hl.isList (by omega) (fun v m => (hp v m).1) fun h' d out h1 h2 kp hd hn => ?_
  have ho : ∀ v ∈ out, ∃ t, v = Value.ref t := fun v m => by
    obtain ⟨t, e, _⟩ := (hp v (h2.perm.mem_iff.mp m)).2
    exact ⟨t, e⟩
  have hd2 : ∀ v ∈ out, Dp X.K G (backV v) (dP (keyP s.heap v)) := fun v m => by
    obtain ⟨t, e, z⟩ := (hp v (h2.perm.mem_iff.mp m)).2
    subst e
    exact z
  obtain ⟨n, hn⟩ := hn
  have hj : (out.map (keyP s.heap)).Perm js := by
    rw [← ek]
    exact h2.perm.map _
  have hsz : (out.map backV).length ≤ sizeLine := by
    rw [List.length_map, h2.perm.length_eq, ← hlen]
    exact hz
  refine ⟨.ref d, upd H d (.lst (out.map backV)), I.laid (t' := s.toks) kp hd ⟨hsz, out, n, vals_back ho, hn⟩, rfl, q _ _ d (dpa_map hd2) hj ?_ (I.hok.fresh hd)⟩
  refine List.pairwise_map.mpr (List.Pairwise.imp (fun {x y} hxy => ?_) h1)
  have z := SrtO.lexB_no.mp hxy
  unfold lexLe
  omega
end
section
variable {K : PySem.W.Frag} {σ : L2.St} {G H : Hp} {ta tb te tc td : TE} {P : VP}
theorem ef_sortPD {a : Addr} {xs : List V} {js : List (Int × Int)} (ha : EF ta σ G (XV (.ref a))) (hs : SqL K G a xs) (hx : DpAll K G xs (js.map dP)) : EF (tCB (rSortPD K) (tCons ta tNil)) σ G fun v G' => ∃ l : List (Int × Int), l.Perm js ∧ l.Pairwise lexLe ∧ Dp K G' v (dPs l) := fun H e Q q => ha H e _ fun x G1 H1 g1 p => by
  cases (show x = .ref a from p)
  refine ⟨G1, a, xs, js, g1.ok, rfl, Evl.ex_l (g1.up.trans g1.ok) hs, dpax hx g1.up, fun ys js' p2 h1 h2 h3 h4 => ?_⟩
  exact q _ _ _ (g1.trans (.new g1.ok h4)) ⟨js', h2, h3, dp_mkL upd_same (dpax h1 (ex_in (none_back g1.ok h4)))⟩
theorem Gr.low {G G' H H2 H' : Hp} (g : Gr G G' H2 H') (e : Ex H H2) : Gr G G' H H' := ⟨g.up, g.ok, e.trans g.hp, fun a h ga => g.2.2.2 a (exNe e h) ga⟩
theorem sa_jd' {C : Addr} {p : Addr} {n : Nat} {parks : List Int} {js : List (Int × Int)} {w e : Int} (f : Bool) (h : LayAt K C G p n parks js) (h0 : 0 ≤ w) (h1 : w < e) (h2 : e < (n : Int)) : SA (spJd K C) [.ref p, .int (if f = true then w else e), .int (if f = true then e else w)] G (FL K G (wantD parks js w e)) :=
  fun H ex Q E q => sa_jd f h h0 h1 h2 H ex Q E fun v G' H' g ⟨r, xs, ev, hr, hg, hd⟩ => q v G' H' g ⟨r, xs, ev, none_back ex hr, hg, hd⟩
theorem sa_wanted {x : V} {t : Trk} {w e : Int} (hx : Dp K G x (dT t)) (ht : t.joints.length ≤ 900) : SA (spWanted K) [x, .int w, .int e] G (DV K (.list (wantD t.parks t.joints w e))) := fun H ex Q _ q => ⟨G, x, t, w, e, ex, rfl, hx, ht, q⟩
theorem sa_meet1 {C : Addr} {p : Addr} {n : Nat} {parks : List Int} {js : List (Int × Int)} {w e : Int} {x : V} (h : LayAt K C G p n parks js) (h0 : 0 ≤ w) (h1 : w < e) (h2 : e < (n : Int)) (hx : Dp K G x (.list (wantD parks js w e))) : SA (spMeet K C) [.ref p, x, .int w, .int e] G (XV (.bl true)) := fun H ex Q _ q => ⟨G, p, n, parks, js, w, e, true, x, ex, rfl, h, h0, h1, h2, hx, q⟩
theorem sa_meet2 {C : Addr} {p : Addr} {n : Nat} {parks : List Int} {js : List (Int × Int)} {w e : Int} {x : V} (h : LayAt K C G p n parks js) (h0 : 0 ≤ w) (h1 : w < e) (h2 : e < (n : Int)) (hx : Dp K G x (.list (wantD parks js w e))) : SA (spMeet K C) [.ref p, x, .int e, .int w] G (XV (.bl true)) := fun H ex Q _ q => ⟨G, p, n, parks, js, w, e, false, x, ex, rfl, h, h0, h1, h2, hx, q⟩
theorem ef_callK0 {sp : Sp} {gV : List V → List V → List V} {E : XK} {tk : TA} {R : List V → Hp → Prop} (h : EA tk σ G R) (hr : ∀ zs G', Ex G G' → R zs G' → SA sp (gV [] zs) G' P) : EF (tCallK sp gV E tNil tk) σ G P := fun H e Q q =>
  h H e _ fun zs G1 H1 g1 p1 => hr zs G1 g1.up p1 H1 g1.ok Q E fun v G2 H2 g2 p2 => q v G2 H2 (g1.trans g2) p2
theorem ef_make {C : Addr} {E : XK} {t tk : TA} {lens : List Int} {js : List (Int × Int)} {parks : List Int} (h : EA t σ G fun vs G' => ∃ a1 a2, vs = [.ref a1, .ref a2] ∧ Dp K G' (.ref a1) (dI lens) ∧ Dp K G' (.ref a2) (dPs js)) (hk : EA tk σ G fun zs G' => ∃ a3, zs = [.ref a3] ∧ Dp K G' (.ref a3) (dI parks))
    (n1 : 1 ≤ lens.length) (n2 : lens.length ≤ 200) (hl : ∀ z ∈ lens, 1 ≤ z) (hp : ∀ b ∈ parks, 0 ≤ b ∧ b < (lens.length : Int)) (hJ : JOk (lens.length : Int) parks js) (hj : js.length ≤ 900) :
    EF (tMakeK C 2 1 (spInit K C) (fun vs zs => vs ++ zs) E t tk) σ G fun v G' => ∃ x, v = .ref x ∧ LayAt K C G' x lens.length parks js := fun H e Q q =>
  h H e _ fun vs G1 H1 g1 ⟨a1, a2, ev, d1, d2⟩ => hk H1 (g1.up.trans g1.ok) _ fun zs G2 H2 g2 ⟨a3, ez, d3⟩ => by
    obtain ⟨G3, f1, f2, g3⟩ := g1.join g2
    subst ev ez
    refine ⟨rfl, rfl, fun x dx hx hdx hne => ?_⟩
    have ex2 : Ex H2 (outH (upd (upd H2 dx (.own x)) x (.ins C dx [])) x) := fun a o ha => by
      rw [out_ne (ne_of_none ha hx), upd_ne (ne_of_none ha hx), upd_ne (ne_of_none ha hdx)]
      exact ha
    refine ⟨G3, x, dx, lens, js, parks, a1, a2, a3, rfl, g3.ok.trans (ex2.trans out_ex), none_back g3.ok hx, upd_same, dpx d1 f1, dpx d2 f1, dpx d3 f2, n1, n2, hl, hp, hJ, hj, fun G' H' g hL => ⟨rfl, ?_⟩⟩
    exact q _ G' H' (g3.trans (g.low ex2)) ⟨x, rfl, hL⟩
theorem mo_lay {C : Addr} {n : Nat} {parks : List Int} {js : List (Int × Int)} : Mo (fun v G => ∃ x, v = .ref x ∧ LayAt K C G x n parks js) := fun v G G' e ⟨x, ev, h⟩ => ⟨x, ev, h.ex e⟩
theorem mo_srt {js : List (Int × Int)} : Mo (fun v G => ∃ l : List (Int × Int), l.Perm js ∧ l.Pairwise lexLe ∧ Dp K G v (dPs l)) := fun v G G' e ⟨l, h1, h2, h3⟩ => ⟨l, h1, h2, dpx h3 e⟩
theorem st_clear {l : Addr} {xs : List V} {D : Ends} (hG : Ex G H) (hl : H l = some (.lst xs)) (ho : EF ta σ G (XV (.ref l))) (k : ∀ H', Ex H H' → D.nx σ (upd H' l (.lst []))) : tDrop (tBM0 K "list" rClear ta) D σ H := ho H hG _ fun v1 G1 H1 g1 p1 => by
  cases (show v1 = .ref l from p1)
  exact ⟨.inl ⟨rfl, xs, Evl.sq_of (g1.hp _ _ hl)⟩, l, xs, rfl, rfl, g1.hp _ _ hl, k H1 g1.hp⟩
end
end Lw

set_option Elab.async false
set_option linter.all false
set_option maxRecDepth 100000
set_option maxHeartbeats 4000000
/-! ends as lists, the other branch, triples -/
namespace Lw
open PySem L2
open Evl (Ex)
section
variable {K : PySem.W.Frag} {C : Addr}
def ends (js : List (Int × Int)) (b : Int) (c : Bool) : List Int := if c = true then eo js b else wo js b
theorem ends_len (js : List (Int × Int)) (b : Int) (c : Bool) : (ends js b c).length = endN js b c := by cases c <;> rfl
/-- a new list of these ints, in some order -/
def PL (K : PySem.W.Frag) (l0 : List Int) : VP := fun v G => ∃ l : List Int, l.Perm l0 ∧ Dp K G v (dI l)
def qEast (K : PySem.W.Frag) : Nat → List Int → List (Int × Int) → Int → VP := fun _ _ js b => PL K (eo js b)
def qWest (K : PySem.W.Frag) : Nat → List Int → List (Int × Int) → Int → VP := fun _ _ js b => PL K (wo js b)
def qBranch (K : PySem.W.Frag) : List Int → List (Int × Int) → Int → Bool → VP := fun _ js b c => PL K (ends js b c)
theorem pl_nl {js : List (Int × Int)} {b : Int} {c : Bool} {v : V} {G : Hp} (h : PL K (ends js b c) v G) : NL K (endN js b c) v G := by
  obtain ⟨l, h1, h2⟩ := h
  exact ⟨l, by rw [h1.length_eq, ends_len], h2⟩
end
end Lw

set_option Elab.async false
set_option linter.all false
set_option maxRecDepth 100000
set_option maxHeartbeats 4000000
/-! list(reversed(a list)) -/
namespace Lw
open PySem PySem.Spec PyProof.Rows L2
open Evl (Ex)
section
variable {prog : Program} {w : World} {A : Around} {E : Value → Shared → Prop} {s : Shared}
theorem rev_extend {R : Result → Shared → Prop} {it l S : Addr} {items : Array Value} (hh : A.handled = none) (hit : s.heap.IsRevIter it l ((items.size : Int) - 1)) (hl : s.heap.IsList l items) (hne : l ≠ it) (hn : items.size ≤ sizeLine) (hSi : S ≠ it) (hSl : S ≠ l) (res : Value) (c₀ : Nat)
    (hS : s.heap.get? S = some { cls := .type "list", data := .seq #[] c₀ })
    (hR : ∀ h' tk acc' c', (∀ b o, b ≠ S → b ≠ it → s.heap.get? b = some o → h'.get? b = some o) → h'.get? S = some { cls := .type "list", dict := none, data := .seq acc' c', slots := #[] } → ItemsOf (fun i v => items[items.size - 1 - i]? = some v) acc' items.size → R (.ok (.ret res)) { s with heap := h', toks := tk }) :
    wpAny (model prog w) A.in1 (Builtin.List.listExtendWith (.ref S) (.ref it) res)
      (fun fin s' => match fin with | .done f => R (.ok f) s' | .again c' => c'.quiet = true ∧ codeAny (model prog w) A c' R s') (fun e s' => R (.error e) s') s := by
  have W := (Walks.listRev (prog := prog) (w := w) (A := A.in1) hh it l hne items).toS
  have hSf : S ∉ [it, l] := by simp only [List.mem_cons, List.not_mem_nil, or_false, not_or]; exact ⟨hSi, hSl⟩
  have hT : s.TypeIs (.ref it) "list_reverseiterator" := Heap.IsRevIter.typeIs hit
  have h1 : Builtin.List.listSameRef (.ref S) (.ref it) = false := by simp [Builtin.List.listSameRef, hSi]
  unfold Builtin.List.listExtendWith
  refine wpAny_bind (wpAny_typeOf hT ?_)
  rw [if_neg (by rw [h1]; decide)]
  refine wpAny_bind (wpAny_pyIter_revIter hit ?_)
  refine wpAny_bind (wpAny_holding ?_)
  unfold Builtin.List.listLengthHint
  refine wpAny_bind (wpAny_specialOf hT RT.nolen_lri ?_)
  show wpAny _ A.in1 (specialOf (Value.ref it) (Str.ofString "__length_hint__") >>= _) _ _ _
  refine wpAny_bind (wpAny_specialOf hT RT.hint_lri ?_)
  generalize hid : ("list_reverseiterator.__length_hint__" : String) = id0
  wp_delta
  rw [show splitId id0 = some ("list_reverseiterator", "__length_hint__") from by subst hid; decide +kernel]
  subst hid
  refine wpAny_bind (wpAny_isInstance (b := true) hT (by rw [isSubtype_type]; kernel_rfl) ?_)
  refine wpAny_pure ?_
  rw [if_neg (by decide)]
  have e0 : ((items.size : Nat) : Int) - 1 - ((0 : Nat) : Int) = (items.size : Int) - 1 := by omega
  refine wpAny_pure ⟨plainId_quiet F.plain_extend_loop _, codeAny_extend_loopS W hn _ hSf _ items.size 0 _ _ _ rfl (Nat.zero_le _) ⟨Nat.zero_le _, by rw [e0]; exact hit, hl⟩ hS (ItemsOf.nil _) fun s' acc' c' hm hS' hacc => ?_⟩
  rw [Moved.eq_with hm]
  refine hR s'.heap s'.toks acc' c' (fun b o hb hb2 e => hm.heap b o (fun hmem => ?_) e) hS' hacc
  rcases List.mem_cons.mp hmem with e' | hmem
  · exact hb e'
  · exact hb2 (List.mem_singleton.mp hmem)
theorem rev_init {R : Result → Shared → Prop} {it l S : Addr} {items : Array Value} (hh : A.handled = none) (hit : s.heap.IsRevIter it l ((items.size : Int) - 1)) (hl : s.heap.IsList l items) (hne : l ≠ it) (hn : items.size ≤ sizeLine) (hSi : S ≠ it) (hSl : S ≠ l)
    (hS : s.heap.get? S = some { cls := .type "list", data := .seq #[] })
    (hR : ∀ h' tk acc' c', (∀ b o, b ≠ S → b ≠ it → s.heap.get? b = some o → h'.get? b = some o) → h'.get? S = some { cls := .type "list", dict := none, data := .seq acc' c', slots := #[] } → ItemsOf (fun i v => items[items.size - 1 - i]? = some v) acc' items.size → R (.ok (.ret .none)) { s with heap := h', toks := tk }) :
    wpAny (model prog w) A.in1 (Builtin.«list.__init__» ⟨[.ref S, .ref it], []⟩)
      (fun fin s' => match fin with | .done f => R (.ok f) s' | .again c' => c'.quiet = true ∧ codeAny (model prog w) A c' R s') (fun e s' => R (.error e) s') s := by
  show wpAny _ _ (do let old ← Builtin.List.listItems (.ref S); Builtin.List.listUpdate (.ref S) (fun _ => #[]); letGo old.toList.reverse; Builtin.List.listExtendWith (.ref S) (.ref it) .none) _ _ s
  refine wpAny_bind ?_
  unfold Builtin.List.listItems
  refine wpAny_bind (wpAny_seqItems hS rfl (wpAny_pure ?_))
  show wpAny _ _ (updateSeq S (fun _ => #[]) >>= fun _ => letGo (#[] : Array Value).toList.reverse >>= fun _ => Builtin.List.listExtendWith (.ref S) (.ref it) .none) _ _ s
  refine wpAny_bind (wpAny_updateSeq hS rfl ?_)
  have hS₂ := Heap.get?_update_self (Obj.mapSeq (fun _ => (#[] : Array Value))) hS rfl
  have oth : ∀ b o, b ≠ S → s.heap.get? b = some o → (s.heap.update S (Obj.mapSeq (fun _ => (#[] : Array Value)))).get? b = some o :=
    fun b o hb e => (Heap.get?_update_other _ _ (Ne.symm hb)).trans e
  refine wpAny_bind (wpAny_letGo ?_)
  obtain ⟨ol, hol, c1, c2⟩ := id hl
  refine rev_extend hh (hit.at fun o e => oth it o (Ne.symm hSi) e) ⟨ol, oth l ol (Ne.symm hSl) hol, c1, c2⟩ hne hn hSi hSl .none _ hS₂ (fun h' tk acc' c' hk hS' hacc => ?_)
  exact hR h' tk acc' c' (fun b o hb hb2 e => hk b o hb hb2 (oth b o hb e)) hS' hacc
theorem call_list_rev {it l : Addr} {items : Array Value} {Q : Value → Shared → Prop} (hh : A.handled = none) (hit : s.heap.IsRevIter it l ((items.size : Int) - 1)) (hl : s.heap.IsList l items) (hne : l ≠ it) (hn : items.size ≤ sizeLine)
    (hQ : ∀ (h' : Heap) (tk : Nat) (acc : Array Value) c', (∀ b o, b ≠ it → s.heap.get? b = some o → h'.get? b = some o) → h'.get? s.heap.objs.size = some { cls := .type "list", dict := none, data := .seq acc c', slots := #[] } → ItemsOf (fun i v => items[items.size - 1 - i]? = some v) acc items.size →
      Q (.ref s.heap.objs.size) { s with heap := h', toks := tk }) :
    wpAny (model prog w) A (call (.type "list") [.ref it]) Q E s := by
  refine callType_codes (Q₁ := fun obj s₁ => obj = .ref s.heap.objs.size ∧ s₁ = { s with heap := s.heap.push { cls := .type "list", data := .seq #[] } }) PySem.F.called_list (PySem.F.typeCall_list_1 _) PySem.F.entry_list_init
    (code_list_new _ ⟨rfl, rfl⟩) fun obj s₁ h₁ => ?_
  obtain ⟨rfl, rfl⟩ := h₁
  have hS : (s.heap.push { cls := .type "list", data := .seq #[] }).get? s.heap.objs.size = some { cls := .type "list", data := .seq #[] } := Heap.get?_push_size _ rfl
  obtain ⟨oi, hoi, _⟩ := id hit
  obtain ⟨ol, hol, _⟩ := id hl
  refine ⟨⟨_, hS, rfl⟩, PySem.F.args_list_init_2 _ _, rev_init (A := A.in1) hh (hit.at fun o e => Heap.get?_push_of_some _ e) (hl.push _) hne hn (Nat.ne_of_gt (Heap.lt_size hoi)) (Nat.ne_of_gt (Heap.lt_size hol)) hS (fun h' tk acc' c' hk hS' hacc => ?_)⟩
  exact ⟨rfl, hQ h' tk acc' c' (fun b o hb e => hk b o (Nat.ne_of_lt (Heap.lt_size e)) hb (Heap.get?_push_of_some _ e)) hS' hacc⟩
end
/-- list(reversed(x)), x a list: a new list -/
def tLstRev (K : PySem.W.Frag) (te : TE) : TE := fun σ H Q => te σ H fun v H1 => ∃ (a : Addr) (xs : List V), v = .ref a ∧ SqL K H1 a xs ∧ ∀ q, H1 q = none → Q (.ref q) (upd H1 q (.lst xs.reverse))
section
variable {X : Cx}
theorem pe_lstRev {e : Expr} {te : TE} {p p2 pos pos2 : Pos} (hc : X.calm = true) (hg : Gl X "list") (hm : X.mg "list" = none) (hg2 : Gl X "reversed") (hm2 : X.mg "reversed" = none) (he : PE X e te)
    (hs : starEach [e] X.env = (false, eval e X.env) :: starEach [] X.env := by rfl)
    (hs2 : starEach [.Call (.Name "reversed" p2) [e] [] pos2] X.env = (false, eval (.Call (.Name "reversed" p2) [e] [] pos2) X.env) :: starEach [] X.env := by rfl) :
    PE X (.Call (.Name "list" p) [.Call (.Name "reversed" p2) [e] [] pos2] [] pos) (tLstRev X.K te) := by
  refine ⟨fun pins s σ H Q I h => ?_⟩
  refine Call_ (ld_blt I hg hm boot_list (PyProof.Rows.callWith_type1 (args_cons (Call_ (ld_blt I hg2 hm2 PyProof.Rows.boot_reversed (PyProof.Rows.callWith_type1 (args_cons (thn (he.run pins s σ H _ I h) fun u s1 ⟨v, H1, I1, r1, q1⟩ => args_nil ?_) hs) hs rfl))) hs2) hs2 rfl))
  obtain ⟨a, xs, ev, hq, q⟩ := q1
  subst ev
  obtain rfl : u = Value.ref a := r1
  obtain ⟨its, rv, p', hz⟩ := I1.list hq
  refine call_reversed_list p'.isList (args_nil ?_)
  have k0 : ∀ b o, s1.heap.get? b = some o → (s1.heap.push (revObj a ((its.toArray.size : Int) - 1))).get? b = some o := fun b o e => Heap.get?_push_of_some _ e
  have hl := p'.isList
  obtain ⟨ol, hol, _⟩ := id hl
  have hne : a ≠ s1.heap.objs.size := Nat.ne_of_lt (Heap.lt_size hol)
  have hn : its.toArray.size ≤ sizeLine := by rw [List.size_toArray, ← rv.length]; exact hz
  refine call_list_rev (s := { s1 with heap := s1.heap.push (revObj a ((its.toArray.size : Int) - 1)) }) (I1.ok.hd hc) ⟨_, Heap.get?_push_size _ rfl, rfl, rfl⟩ (hl.push _) hne hn fun h' tk acc c' hk hS hi => ?_
  have hs1 : ∀ b o, s1.heap.get? b = some o → h'.get? b = some o := fun b o e => hk b o (Nat.ne_of_lt (Heap.lt_size e)) (Heap.get?_push_of_some _ e)
  have hle : s1.heap.objs.size ≤ (s1.heap.push (revObj a ((its.toArray.size : Int) - 1))).objs.size := by rw [Heap.size_push]; omega
  refine ⟨.ref (s1.heap.push (revObj a ((its.toArray.size : Int) - 1))).objs.size, upd H1 (s1.heap.push (revObj a ((its.toArray.size : Int) - 1))).objs.size (.lst xs.reverse), I1.laid (t' := tk) hs1 hle ⟨by rw [List.length_reverse]; exact hz, acc.toList, c', RT.vals_rev rv hi, ?_⟩, rfl, q _ (I1.hok.fresh hle)⟩
  rw [Array.toArray_toList]
  exact hS
end
end Lw

set_option Elab.async false
set_option linter.all false
set_option maxRecDepth 100000
set_option maxHeartbeats 4000000
/-! sorted of triples (int, "east" or "west", int) -/
namespace Lw
open PySem L2
open Evl (Ex)
open PyProof.Rows
abbrev T3 := Int × Bool × Int
def dT3 (t : T3) : PyData := dTr t.1 (sd t.2.1) t.2.2
def k3 (t : T3) : Int := 2 * t.1 + (if t.2.1 = true then 0 else 1)
theorem k3_eq {s t : T3} (h : k3 s = k3 t) : s.1 = t.1 ∧ s.2.1 = t.2.1 := by
  obtain ⟨a, f, b⟩ := s
  obtain ⟨c, g, d⟩ := t
  unfold k3 at h
  cases f <;> cases g <;> simp at h ⊢ <;> omega
theorem sd_inj {f g : Bool} : sd f = sd g ↔ f = g := by
  constructor
  · intro h
    cases f <;> cases g
    · rfl
    · exact absurd h east_ne
    · exact absurd h.symm east_ne
    · rfl
  · intro h
    rw [h]
theorem sd_lt (f g : Bool) (h : f ≠ g) : decide ((sd f).cps.toList < (sd g).cps.toList) = f := by
  cases f <;> cases g
  · exact absurd rfl h
  · unfold sd eastS westS; decide +kernel
  · unfold sd eastS westS; decide +kernel
  · exact absurd rfl h
section
variable {prog : Program} {w : World} {A : Around} {E : Value → Shared → Prop} {s : Shared}
def IsT3 (h : Heap) (v : Value) (x : T3) : Prop := ∃ a o t u z m, v = .ref a ∧ h.get? a = some o ∧ o.cls = .type "tuple" ∧ o.data = .seq #[.int x.1 t, .str (sd x.2.1) u, .int x.2.2 z] m
theorem IsT3.keeps {h h' : Heap} {v : Value} {x : T3} (p : IsT3 h v x) (k : ∀ b o, h.get? b = some o → o.cls = .type "tuple" → h'.get? b = some o) : IsT3 h' v x := by
  obtain ⟨a, o, t, y, z, m, e, ho, hc, hd⟩ := p
  exact ⟨a, o, t, y, z, m, e, k a o ho hc, hc, hd⟩
theorem t3_firsts {h : Heap} {k : Value → T3} : ∀ {vs : List Value}, (∀ v ∈ vs, IsT3 h v (k v)) → ∃ fs : List Value, PySem.W.KatTups h vs fs ∧ fs.length = vs.length ∧ ∀ f ∈ fs, ∃ x t, f = Value.int x t
  | [], _ => ⟨[], PySem.W.KatTups.nil, rfl, fun _ hm => by simp at hm⟩
  | v :: vs, hp => by
    obtain ⟨fs, h1, h2, h3⟩ := t3_firsts (k := k) (vs := vs) fun v' hm => hp v' (List.mem_cons_of_mem _ hm)
    have hv := hp v (List.mem_cons_self ..)
    generalize k v = x at hv
    obtain ⟨a, o, t, y, z, m, e, ho, hc, hd⟩ := hv
    subst e
    refine ⟨.int x.1 t :: fs, PySem.W.KatTups.cons ho hc hd rfl h1, by rw [List.length_cons, List.length_cons, h2], fun f hm => ?_⟩
    rcases List.mem_cons.mp hm with rfl | hm
    · exact ⟨x.1, t, rfl⟩
    · exact h3 f hm
theorem t3_cmp {vs : List Value} {k : Value → T3} (hp : ∀ v ∈ vs, IsT3 s.heap v (k v)) (hi : ∀ v ∈ vs, ∀ u ∈ vs, k3 (k v) = k3 (k u) → k v = k u) : SrtO.Cmp prog w A s (tuples' true) (fun p => p.1 ∈ vs) (SrtO.lt2 (ltK fun v => k3 (k v))) := by
  intro p q hm hm'
  have h1 := hp _ hm
  have h2 := hp _ hm'
  have hin := hi _ hm _ hm'
  show wpAny (model prog w) A (keyLt' (tuples' true) p.1 q.1) (fun r s' => s' = s ∧ r = decide (k3 (k p.1) < k3 (k q.1))) (fun _ _ => False) s
  generalize k p.1 = x at h1 hin ⊢
  generalize k q.1 = x' at h2 hin ⊢
  obtain ⟨a, o, t, u, z, m, e, ho, hc, hd⟩ := h1
  obtain ⟨a', o', t', u', z', m', e', ho', hc', hd'⟩ := h2
  rw [e, e']
  refine PySem.W.kat_lt ho hd ho' hd' ?_
  show PySem.W.KatLex prog w A true (decide (3 < 3)) _ [(.int x.1 t, .int x'.1 t'), (.str (sd x.2.1) u, .str (sd x'.2.1) u'), (.int x.2.2 z, .int x'.2.2 z')] 0 s
  refine PySem.W.kat_cons (SeqAt.EqAt.int_int x.1 t x'.1 t' prog w _ _ ?_)
  refine PySem.W.kat_go (fun e1 => ?_) (fun e1 => ?_)
  · have e1' : x.1 = x'.1 := by simpa using e1
    refine PySem.W.kat_yes (PySem.W.kat_cons (SeqAt.EqAt.str_str (sd x.2.1) u (sd x'.2.1) u' prog w _ _ ?_))
    refine PySem.W.kat_go (fun e2 => ?_) (fun e2 => ?_)
    · have e2' : x.2.1 = x'.2.1 := sd_inj.mp (by simpa using e2)
      have ee : x = x' := hin (by unfold k3; rw [e1', e2'])
      subst ee
      refine PySem.W.kat_yes (PySem.W.kat_cons (SeqAt.EqAt.int_int x.2.2 z x.2.2 z' prog w _ _ ?_))
      refine PySem.W.kat_go (fun _ => ?_) (fun e1 => absurd e1 (by simp))
      exact PySem.W.kat_yes (PySem.W.kat_nil ⟨rfl, (decide_eq_false (Int.lt_irrefl _)).symm⟩)
    · have e2' : x.2.1 ≠ x'.2.1 := fun c => absurd e2 (by rw [c]; simp)
      refine PySem.W.kat_no (oneLt_any_str ⟨rfl, ?_⟩)
      rw [sd_lt _ _ e2']
      unfold k3
      rw [e1']
      cases hx : x.2.1 <;> cases hx' : x'.2.1
      · rw [hx, hx'] at e2'; exact absurd rfl e2'
      · exact (decide_eq_false (by simp; omega)).symm
      · exact (decide_eq_true (by simp; omega)).symm
      · rw [hx, hx'] at e2'; exact absurd rfl e2'
  · have e1' : x.1 ≠ x'.1 := fun c => absurd e1 (by rw [c]; simp)
    refine PySem.W.kat_no (PyProof.Rows.oneLt_int ⟨rfl, ?_⟩)
    unfold k3
    by_cases c : x.1 < x'.1
    · rw [decide_eq_true c, decide_eq_true (by split <;> split <;> omega)]
    · rw [decide_eq_false c, decide_eq_false (by split <;> split <;> omega)]
theorem t3_sortable {a : Addr} {vs : List Value} {k : Value → T3} (h0 : 0 < vs.length) (hp : ∀ v ∈ vs, IsT3 s.heap v (k v)) (hi : ∀ v ∈ vs, ∀ u ∈ vs, k3 (k v) = k3 (k u) → k v = k u) (ha : ∀ o, s.heap.get? a = some o → o.cls ≠ .type "tuple") : SrtO.SortableO prog w A s a vs (ltK fun v => k3 (k v)) := by
  intro h' keep
  have hp' : ∀ v ∈ vs, IsT3 h' v (k v) := fun v hm => (hp v hm).keeps fun b o e c => keep b o (fun z => by subst z; exact ha o e c) e
  obtain ⟨fs, h1, h2, h3⟩ := t3_firsts hp'
  refine ⟨tuples' true, fun Q E hq => ?_, t3_cmp hp' hi⟩
  refine PySem.W.kat_kind (T := .type "int") h1 (by omega) (fun f hm => ?_) (by rfl) ?_
  · obtain ⟨x, t, rfl⟩ := h3 f hm
    exact PySem.W.Looks.now
  · have e : (Value.type "int" != Value.type "tuple") = true := by first | decide +kernel | rfl | decide
    rw [e]
    exact hq
theorem sorted_t3 {l : Addr} {vs : List Value} {k : Value → T3} {Q : Value → Shared → Prop} (hl : s.heap.IsList l vs.toArray) (hz : vs.length ≤ sizeLine) (hp : ∀ v ∈ vs, IsT3 s.heap v (k v)) (hi : ∀ v ∈ vs, ∀ u ∈ vs, k3 (k v) = k3 (k u) → k v = k u)
    (h : ∀ (h' : Heap) (d : Addr) (out : List Value), SrtO.Srtd (ltK fun v => k3 (k v)) out → SrtO.Stb (ltK fun v => k3 (k v)) out vs → (∀ b o, s.heap.get? b = some o → h'.get? b = some o) → s.heap.objs.size ≤ d → (∃ n, h'.get? d = some (seqObj "list" out.toArray n)) → Q (.ref d) { s with heap := h' }) :
    wpAny (model prog w) A (call (.builtin "sorted") [.ref l]) Q E s := by
  refine SrtO.sorted_ord (ltK_swo fun v => k3 (k v)) hl hz (fun h2 h₁ a ha kk => ?_) fun out hs hb => ?_
  · refine t3_sortable (s := { s with heap := h₁ }) (by omega) (fun v hm => (hp v hm).keeps fun b o e _ => (kk b o e).2) hi fun o e => ?_
    have e' : some o = some (seqObj "list" vs.toArray 0) := e.symm.trans ha
    cases e'
    intro c
    exact absurd (Value.type.inj c) (by decide)
  · exact h _ _ out hs hb (fun b o e => sortedAll_old e) (Nat.le_succ _) (sortedAll_at s.heap vs out.toArray)
end
/-- the triple that a value is -/
def keyT3 (h : Heap) (v : Value) : T3 := match v with
  | .ref t => (match h.get? t with
    | some o => (match o.data with
      | .seq arr _ => (match arr.toList with | [.int x _, .str y _, .int z _] => (x, decide (y = eastS), z) | _ => (0, true, 0))
      | _ => (0, true, 0))
    | none => (0, true, 0))
  | _ => (0, true, 0)
theorem keyT3_of {h : Heap} {t : Addr} {o : Obj} {x : T3} {t1 t2 t3 : Tok} {n : Nat} (ho : h.get? t = some o) (hd : o.data = .seq #[.int x.1 t1, .str (sd x.2.1) t2, .int x.2.2 t3] n) : keyT3 h (.ref t) = x := by
  unfold keyT3
  simp only [ho, hd]
  obtain ⟨a, f, b⟩ := x
  have e : decide (sd f = eastS) = f := by
    cases f
    · exact decide_eq_false east_ne
    · exact decide_eq_true rfl
  rw [e]
def rSort3 (K : PySem.W.Frag) : List V → Hp → VK → Prop := fun vs H Q => ∃ (G : Hp) (a : Addr) (xs : List V) (l : List T3), Ex G H ∧ vs = [V.ref a] ∧ SqL K H a xs ∧ DpAll K G xs (l.map dT3) ∧ (∀ s ∈ l, ∀ t ∈ l, k3 s = k3 t → s = t) ∧
  ∀ (ys : List V) (l' : List T3) (p : Addr), DpAll K G ys (l'.map dT3) → l'.Perm l → l'.Pairwise (fun s t => k3 s ≤ k3 t) → H p = none → Q (.ref p) (upd H p (.lst ys))
section
variable {X : Cx}
theorem t3_facts {pins : List (Addr × Obj)} {σ : L2.St} {G H : Hp} {s : Shared} (I : Inv X pins σ H s) (e : Ex G H) : ∀ {xs : List V} {js : List T3} {its : List Value}, DpAll X.K G xs (js.map dT3) → Vals xs its →
    its.map (keyT3 s.heap) = js ∧ ∀ v ∈ its, IsT3 s.heap v (keyT3 s.heap v) ∧ ∃ t, v = .ref t ∧ Dp X.K G (.ref t) (dT3 (keyT3 s.heap v))
  | [], [], _, _, .nil => ⟨rfl, fun v m => nomatch m⟩
  | x :: xs, q :: js, _, h, .cons rx rt => by
    rename_i v its
    cases h with
    | cons h1 h2 =>
      obtain ⟨e1, e2⟩ := t3_facts I e (js := js) h2 rt
      obtain ⟨t, ys, rfl, hs, hd⟩ := dp_tup h1
      have eys : ys = [.int q.1, .str (sd q.2.1), .int q.2.2] := by
        cases hd with
        | cons a1 r1 => cases r1 with
          | cons a2 r2 => cases r2 with
            | cons a3 r3 =>
              cases r3
              cases a1
              cases a2
              cases a3
              rfl
      have hs' := hs
      rw [eys] at hs'
      cases (show v = Value.ref t from rx)
      obtain ⟨its2, r2, ⟨o, ho, hc, n, hdt⟩, _⟩ := I.tuple (Evl.ex_t e hs')
      obtain ⟨u1, us2, rfl, ri, r3⟩ : ∃ u1 us2, its2 = u1 :: us2 ∧ RelV (.int q.1) u1 ∧ Vals [.str (sd q.2.1), .int q.2.2] us2 := by
        cases r2 with
        | cons p q => exact ⟨_, _, rfl, p, q⟩
      obtain ⟨u2, u3, rfl, rj, rz⟩ := vals2 r3
      obtain ⟨t1, rfl⟩ := ri
      obtain ⟨t2, rfl⟩ := rj
      obtain ⟨t3, rfl⟩ := rz
      have kq : keyT3 s.heap (.ref t) = q := keyT3_of ho hdt
      refine ⟨by rw [List.map_cons, e1, kq], fun v m => ?_⟩
      rcases List.mem_cons.mp m with e3 | m
      · subst e3
        rw [kq]
        exact ⟨⟨t, o, t1, t2, t3, n, rfl, ho, hc, hdt⟩, t, rfl, h1⟩
      · exact e2 v m
  | [], _ :: _, _, h, _ => nomatch h
  | _ :: _, [], _, h, _ => nomatch h
theorem dpa_map3 {K : PySem.W.Frag} {H : Hp} {f : Value → V} {k : Value → T3} : ∀ {out : List Value}, (∀ v ∈ out, Dp K H (f v) (dT3 (k v))) → DpAll K H (out.map f) ((out.map k).map dT3)
  | [], _ => .nil
  | v :: out, h => .cons (h v (List.mem_cons_self ..)) (dpa_map3 fun u m => h u (List.mem_cons_of_mem _ m))
theorem cr_sort3 : CallR X (.builtin "sorted") (rSort3 X.K) := by
  intro pins s σ H vs us Q I r h
  obtain ⟨G, a, xs, js, eG, rfl, hs, hx, hi, q⟩ := h
  obtain ⟨its, rv, hl, hz⟩ := I.list hs
  obtain ⟨u, eu, ru⟩ := vals1 r
  subst eu
  cases (show u = Value.ref a from ru)
  obtain ⟨ek, hp⟩ := t3_facts I eG hx rv
  have hlen := rv.length
  have hmem : ∀ v ∈ its, keyT3 s.heap v ∈ js := fun v m => by
    rw [← ek]
    exact List.mem_map.mpr ⟨v, m, rfl⟩
  refine sorted_t3 (k := keyT3 s.heap) hl.isList (by omega) (fun v m => (hp v m).1) (fun v m u m' e => hi _ (hmem v m) _ (hmem u m') e) fun h' d out h1 h2 kp hd hn => ?_
  have ho : ∀ v ∈ out, ∃ t, v = Value.ref t := fun v m => by
    obtain ⟨t, e, _⟩ := (hp v (h2.perm.mem_iff.mp m)).2
    exact ⟨t, e⟩
  have hd2 : ∀ v ∈ out, Dp X.K G (backV v) (dT3 (keyT3 s.heap v)) := fun v m => by
    obtain ⟨t, e, z⟩ := (hp v (h2.perm.mem_iff.mp m)).2
    subst e
    exact z
  obtain ⟨n, hn⟩ := hn
  have hj : (out.map (keyT3 s.heap)).Perm js := by
    rw [← ek]
    exact h2.perm.map _
  have hsz : (out.map backV).length ≤ sizeLine := by
    rw [List.length_map, h2.perm.length_eq, ← hlen]
    exact hz
  refine ⟨.ref d, upd H d (.lst (out.map backV)), I.laid (t' := s.toks) kp hd ⟨hsz, out, n, vals_back ho, hn⟩, rfl, q _ _ d (dpa_map3 hd2) hj ?_ (I.hok.fresh hd)⟩
  refine List.pairwise_map.mpr (List.Pairwise.imp (fun {x y} hxy => ?_) h1)
  have z := of_decide_eq_false hxy
  exact Int.not_lt.mp z
end
section
variable {K : PySem.W.Frag} {σ : L2.St} {G H : Hp} {ta tb te tc td : TE} {P : VP}
def STn (K : PySem.W.Frag) (G0 : Hp) (l0 : List T3) : VP := fun v G => ∃ (a : Addr) (xs : List V) (l : List T3), v = .ref a ∧ G0 a = none ∧ G a = some (.lst xs) ∧ l.Perm l0 ∧ l.Pairwise (fun s t => k3 s ≤ k3 t) ∧ DpAll K G xs (l.map dT3)
theorem ef_sort3 {a : Addr} {xs : List V} {js : List T3} (ha : EF ta σ G (XV (.ref a))) (hs : SqL K G a xs) (hx : DpAll K G xs (js.map dT3)) (hi : ∀ s ∈ js, ∀ t ∈ js, k3 s = k3 t → s = t) : EF (tCB (rSort3 K) (tCons ta tNil)) σ G (STn K G js) := fun H e Q q => ha H e _ fun x G1 H1 g1 p => by
  cases (show x = .ref a from p)
  refine ⟨G1, a, xs, js, g1.ok, rfl, Evl.ex_l (g1.up.trans g1.ok) hs, dpax hx g1.up, hi, fun ys js' p2 h1 h2 h3 h4 => ?_⟩
  exact q _ _ _ (g1.trans (.new g1.ok h4)) ⟨p2, ys, js', rfl, none_back (g1.up.trans g1.ok) h4, upd_same, h2, h3, dpax h1 (ex_in (none_back g1.ok h4))⟩
end
theorem sort3_uniq : ∀ {l m : List T3}, (∀ s ∈ l, ∀ t ∈ l, k3 s = k3 t → s = t) → l.Perm m → l.Pairwise (fun s t => k3 s ≤ k3 t) → m.Pairwise (fun s t => k3 s ≤ k3 t) → l = m
  | [], m, _, h, _, _ => (List.Perm.nil_eq h)
  | x :: l, [], _, h, _, _ => absurd h.length_eq (by simp)
  | x :: l, y :: m, hi, h, hl, hm => by
    have e : x = y := by
      have my : y ∈ x :: l := h.mem_iff.mpr (List.mem_cons_self (a := y) (l := m))
      have h1 : x = y ∨ k3 y ≤ k3 x := by
        rcases List.mem_cons.mp (h.mem_iff.mp (List.mem_cons_self (a := x) (l := l))) with e | hx
        · exact .inl e
        · exact .inr ((List.pairwise_cons.mp hm).1 x hx)
      have h2 : y = x ∨ k3 x ≤ k3 y := by
        rcases List.mem_cons.mp my with e | hx
        · exact .inl e
        · exact .inr ((List.pairwise_cons.mp hl).1 y hx)
      rcases h1 with e | h1
      · exact e
      · rcases h2 with e | h2
        · exact e.symm
        · exact hi x (List.mem_cons_self ..) y my (by omega)
    subst e
    rw [sort3_uniq (fun s hs t ht => hi s (List.mem_cons_of_mem _ hs) t (List.mem_cons_of_mem _ ht)) h.cons_inv (List.pairwise_cons.mp hl).2 (List.pairwise_cons.mp hm).2]
end Lw

set_option Elab.async false
set_option linter.all false
set_option maxRecDepth 100000
set_option maxHeartbeats 4000000
/-! what the flanks demand -/
namespace Lw
open PySem L2
open Evl (Ex)
/-- the other of two -/
def oth (l : List Int) (b : Int) : Int := (l.filter fun z => decide (z ≠ b)).headD 0
theorem two_of {l : List Int} {b : Int} (hn : l.Nodup) (h2 : l.length = 2) (hb : b ∈ l) : l.Perm [b, oth l b] ∧ oth l b ≠ b ∧ oth l b ∈ l := by
  match l, h2 with
  | [x, y], _ =>
    have hxy : x ≠ y := by simpa using hn
    rcases List.mem_cons.mp hb with e | hb
    · subst e
      have e1 : oth [b, y] b = y := by
        have : y ≠ b := fun z => hxy z.symm
        simp [oth, this]
      rw [e1]
      exact ⟨.refl _, fun z => hxy z.symm, by simp⟩
    · have e : b = y := by simpa using hb
      subst e
      have e1 : oth [x, b] b = x := by simp [oth, hxy]
      rw [e1]
      exact ⟨.swap _ _ _, hxy, by simp⟩
theorem jok_nd {n : Int} {parks : List Int} {js : List (Int × Int)} (h : JOk n parks js) : ∀ b, (eo js b).Nodup ∧ (wo js b).Nodup ∧ (b ∉ parks → (eo js b).length ≤ 2 ∧ (wo js b).length ≤ 2) := by
  induction h with
  | nil => intro b; exact ⟨.nil, .nil, fun _ => ⟨Nat.zero_le _, Nat.zero_le _⟩⟩
  | snoc hj hn ih =>
    rename_i js w e
    intro b
    obtain ⟨i1, i2, i3⟩ := ih b
    have nd : ∀ {l : List Int} {z : Int}, l.Nodup → z ∉ l → (l ++ [z]).Nodup := fun {l z} h1 h2 => List.nodup_append.mpr ⟨h1, by simp, fun x hx y hy => by
      have e : y = z := by simpa using hy
      rw [e]
      exact fun c => h2 (c ▸ hx)⟩
    have we : w ≠ e := by have := hn.lt; omega
    by_cases c1 : w = b
    · subst c1
      rw [eo_snoc_same, wo_snoc_ne js (fun z => we z.symm)]
      refine ⟨nd i1 (fun m => hn.new (mem_eo.mp m)), i2, fun hp => ⟨?_, (i3 hp).2⟩⟩
      have := hn.ew hp
      have := (i3 hp).1
      rw [List.length_append, List.length_singleton]
      omega
    · rw [eo_snoc_ne js c1]
      by_cases c2 : e = b
      · subst c2
        rw [wo_snoc_same]
        refine ⟨i1, nd i2 (fun m => hn.new ?_), fun hp => ⟨(i3 hp).1, ?_⟩⟩
        · unfold wo at m
          obtain ⟨⟨x, y⟩, hm, ex⟩ := List.mem_map.mp m
          obtain ⟨h1, h2⟩ := List.mem_filter.mp hm
          have h2 := of_decide_eq_true h2
          simp only at ex h2
          subst ex h2
          exact h1
        · have := hn.we hp
          have := (i3 hp).2
          rw [List.length_append, List.length_singleton]
          omega
      · rw [wo_snoc_ne js c2]
        exact ⟨i1, i2, i3⟩
theorem mem_wo {js : List (Int × Int)} {w e : Int} : w ∈ wo js e ↔ (w, e) ∈ js := by
  unfold wo
  rw [List.mem_map]
  constructor
  · rintro ⟨⟨a, b⟩, h, rfl⟩
    obtain ⟨h1, h2⟩ := List.mem_filter.mp h
    have h2 := of_decide_eq_true h2
    subst h2
    exact h1
  · intro h
    exact ⟨(w, e), List.mem_filter.mpr ⟨h, decide_eq_true rfl⟩, rfl⟩
/-- a joint from b to o on the side c -/
def jt (js : List (Int × Int)) (b : Int) (c : Bool) (o : Int) : Prop := if c = true then (b, o) ∈ js else (o, b) ∈ js
theorem mem_ends {js : List (Int × Int)} {b o : Int} {c : Bool} : o ∈ ends js b c ↔ jt js b c o := by
  cases c
  · exact mem_wo
  · exact mem_eo
theorem jt_back {js : List (Int × Int)} {b o : Int} {c : Bool} (h : jt js b c o) : jt js o (!c) b := by
  cases c <;> exact h
theorem ends_nd {n : Int} {parks : List Int} {js : List (Int × Int)} (h : JOk n parks js) (b : Int) (c : Bool) : (ends js b c).Nodup ∧ (b ∉ parks → (ends js b c).length ≤ 2) := by
  obtain ⟨h1, h2, h3⟩ := jok_nd h b
  cases c
  · exact ⟨h2, fun z => (h3 z).2⟩
  · exact ⟨h1, fun z => (h3 z).1⟩
theorem jt_in {n : Int} {parks : List Int} {js : List (Int × Int)} (h : JOk n parks js) {b o : Int} {c : Bool} (hj : jt js b c o) : 0 ≤ o ∧ o < n ∧ 0 ≤ b ∧ b < n := by
  cases c
  · have := h.mem (p := (o, b)) hj
    simp only at this
    omega
  · have := h.mem (p := (b, o)) hj
    simp only at this
    omega
/-- what one demand at a joint asks of a flank -/
def fl1 (parks : List Int) (js : List (Int × Int)) (way : List Int) (t : T3) : List T3 :=
  let o := oth (ends js t.1 t.2.1) t.2.2
  if isPt parks js o (!t.2.1) = true then
    (let a := oth (ends js o (!t.2.1)) t.1
    if o ∉ way ∧ a ∉ way then [(o, !t.2.1, a)] else [])
  else []
def jd3 (parks : List Int) (js : List (Int × Int)) (w e : Int) : List T3 := (if isPt parks js w true = true then [(w, true, e)] else []) ++ (if isPt parks js e false = true then [(e, false, w)] else [])
theorem jd3_want (parks : List Int) (js : List (Int × Int)) (w e : Int) : (jd3 parks js w e).map dT3 = wantD parks js w e := by
  have k1 : (isPt parks js w true = true ↔ (w ∉ parks ∧ (eo js w).length = 2)) := by unfold isPt endN; simp
  have k2 : (isPt parks js e false = true ↔ (e ∉ parks ∧ (wo js e).length = 2)) := by unfold isPt endN; simp
  unfold jd3 wantD
  rw [List.map_append]
  congr 1
  · by_cases c : isPt parks js w true = true
    · rw [if_pos c, if_pos (k1.mp c)]; rfl
    · rw [if_neg c, if_neg fun z => c (k1.mpr z)]; rfl
  · by_cases c : isPt parks js e false = true
    · rw [if_pos c, if_pos (k2.mp c)]; rfl
    · rw [if_neg c, if_neg fun z => c (k2.mpr z)]; rfl
def flD (parks : List Int) (js : List (Int × Int)) (way : List Int) (w e : Int) : List T3 := (jd3 parks js w e).flatMap (fl1 parks js way)
theorem isPt_spec {parks : List Int} {js : List (Int × Int)} {b : Int} {c : Bool} : isPt parks js b c = true ↔ b ∉ parks ∧ (ends js b c).length = 2 := by
  unfold isPt
  rw [← ends_len]
  simp
/-- the demands of a joint: points, and joints there -/
theorem jd3_mem {parks : List Int} {js : List (Int × Int)} {w e : Int} (h : (w, e) ∈ js) {t : T3} (m : t ∈ jd3 parks js w e) : isPt parks js t.1 t.2.1 = true ∧ jt js t.1 t.2.1 t.2.2 := by
  unfold jd3 at m
  rcases List.mem_append.mp m with m | m
  · split at m
    · rename_i c
      have e1 : t = (w, true, e) := by simpa using m
      subst e1
      exact ⟨c, h⟩
    · simp at m
  · split at m
    · rename_i c
      have e1 : t = (e, false, w) := by simpa using m
      subst e1
      exact ⟨c, h⟩
    · simp at m
theorem fl1_len (parks : List Int) (js : List (Int × Int)) (way : List Int) (t : T3) : (fl1 parks js way t).length ≤ 1 ∧ ∀ u ∈ fl1 parks js way t, u.2.1 = !t.2.1 := by
  unfold fl1
  simp only
  split
  · split
    · exact ⟨by simp, fun u hu => by rw [List.mem_singleton.mp hu]⟩
    · exact ⟨by simp, fun u hu => by simp at hu⟩
  · exact ⟨by simp, fun u hu => by simp at hu⟩
theorem flD_two (parks : List Int) (js : List (Int × Int)) (way : List Int) (w e : Int) : ∃ l1 l2 : List T3, flD parks js way w e = l1 ++ l2 ∧ l1.length ≤ 1 ∧ l2.length ≤ 1 ∧ (∀ u ∈ l1, u.2.1 = false) ∧ ∀ u ∈ l2, u.2.1 = true := by
  refine ⟨if isPt parks js w true = true then fl1 parks js way (w, true, e) else [], if isPt parks js e false = true then fl1 parks js way (e, false, w) else [], ?_, ?_, ?_, ?_, ?_⟩
  · unfold flD jd3
    rw [List.flatMap_append]
    congr 1 <;> split <;> simp
  · split
    · exact (fl1_len _ _ _ _).1
    · simp
  · split
    · exact (fl1_len _ _ _ _).1
    · simp
  · split
    · exact (fl1_len _ _ _ _).2
    · simp
  · split
    · exact (fl1_len _ _ _ _).2
    · simp
theorem one_mem {l : List T3} (h : l.length ≤ 1) {s t : T3} (hs : s ∈ l) (ht : t ∈ l) : s = t := by
  match l, h with
  | [], _ => simp at hs
  | [x], _ =>
    have e1 : s = x := by simpa using hs
    have e2 : t = x := by simpa using ht
    rw [e1, e2]
theorem flD_inj (parks : List Int) (js : List (Int × Int)) (way : List Int) (w e : Int) : ∀ s ∈ flD parks js way w e, ∀ t ∈ flD parks js way w e, k3 s = k3 t → s = t := by
  obtain ⟨l1, l2, e1, h1, h2, f1, f2⟩ := flD_two parks js way w e
  rw [e1]
  intro s hs t ht h
  have hk := (k3_eq h).2
  rcases List.mem_append.mp hs with hs | hs <;> rcases List.mem_append.mp ht with ht | ht
  · exact one_mem h1 hs ht
  · rw [f1 s hs, f2 t ht] at hk; cases hk
  · rw [f2 s hs, f1 t ht] at hk; cases hk
  · exact one_mem h2 hs ht
theorem flD_len (parks : List Int) (js : List (Int × Int)) (way : List Int) (w e : Int) : (flD parks js way w e).length ≤ 2 := by
  obtain ⟨l1, l2, e1, h1, h2, _, _⟩ := flD_two parks js way w e
  rw [e1, List.length_append]
  omega

/-! what the law's own rows are -/
def rowW (parks : List Int) (js : List (Int × Int)) (way : List Int) (w e : Int) (p : Int × Int) : List T3 :=
  if p.1 = w ∧ p.2 ≠ e ∧ w ∉ parks ∧ p.2 ∉ parks then js.flatMap (fun q => if q.2 = p.2 ∧ q.1 ≠ w ∧ p.2 ∉ way ∧ q.1 ∉ way then [(p.2, false, q.1)] else []) else []
def rowE (parks : List Int) (js : List (Int × Int)) (way : List Int) (w e : Int) (p : Int × Int) : List T3 :=
  if p.2 = e ∧ p.1 ≠ w ∧ e ∉ parks ∧ p.1 ∉ parks then js.flatMap (fun q => if q.1 = p.1 ∧ q.2 ≠ e ∧ p.1 ∉ way ∧ q.2 ∉ way then [(p.1, true, q.2)] else []) else []
def rows (parks : List Int) (js : List (Int × Int)) (way : List Int) (w e : Int) : List T3 := js.flatMap fun p => rowW parks js way w e p ++ rowE parks js way w e p
theorem fm_eo {js : List (Int × Int)} {w : Int} {F : Int → List T3} : js.flatMap (fun p => if p.1 = w then F p.2 else []) = (eo js w).flatMap F := by
  induction js with
  | nil => rfl
  | cons p js ih =>
    rw [List.flatMap_cons, ih]
    unfold eo
    rw [List.filter_cons]
    by_cases h : p.1 = w
    · rw [if_pos h, if_pos (decide_eq_true h), List.map_cons, List.flatMap_cons]
    · rw [if_neg h, if_neg (by rw [decide_eq_false h]; exact Bool.false_ne_true)]
      rfl
theorem fm_wo {js : List (Int × Int)} {w : Int} {F : Int → List T3} : js.flatMap (fun p => if p.2 = w then F p.1 else []) = (wo js w).flatMap F := by
  induction js with
  | nil => rfl
  | cons p js ih =>
    rw [List.flatMap_cons, ih]
    unfold wo
    rw [List.filter_cons]
    by_cases h : p.2 = w
    · rw [if_pos h, if_pos (decide_eq_true h), List.map_cons, List.flatMap_cons]
    · rw [if_neg h, if_neg (by rw [decide_eq_false h]; exact Bool.false_ne_true)]
      rfl
theorem fm_ite {α : Type} {p q : α → Prop} [DecidablePred p] [DecidablePred q] {F : α → List T3} {l : List α} : l.flatMap (fun x => if p x ∧ q x then F x else []) = l.flatMap (fun x => if p x then (if q x then F x else []) else []) := by
  congr 1
  funext x
  by_cases h : p x
  · by_cases h2 : q x
    · rw [if_pos ⟨h, h2⟩, if_pos h, if_pos h2]
    · rw [if_neg (fun z => h2 z.2), if_pos h, if_neg h2]
  · rw [if_neg (fun z => h z.1), if_neg h]
/-- over the ends: all but b -/
theorem fm_two {l : List Int} {b : Int} {F : Int → List T3} (hn : l.Nodup) (h2 : l.length ≤ 2) (hb : b ∈ l) : l.flatMap (fun z => if z ≠ b then F z else []) = if l.length = 2 then F (oth l b) else [] := by
  match l, h2 with
  | [], _ => simp at hb
  | [x], _ =>
    have e : b = x := by simpa using hb
    subst e
    simp
  | [x, y], _ =>
    have hxy : x ≠ y := by simpa using hn
    rcases List.mem_cons.mp hb with e | hb
    · subst e
      have : y ≠ b := fun z => hxy z.symm
      simp [oth, this]
    · have e : b = y := by simpa using hb
      subst e
      simp [oth, hxy]
theorem fm_perm {α : Type} {F G : α → List T3} : ∀ (l : List α), (l.flatMap fun x => F x ++ G x).Perm (l.flatMap F ++ l.flatMap G)
  | [] => .refl _
  | x :: l => by
    rw [List.flatMap_cons, List.flatMap_cons, List.flatMap_cons]
    have h := fm_perm (F := F) (G := G) l
    have h1 : (F x ++ G x ++ l.flatMap fun x => F x ++ G x).Perm (F x ++ G x ++ (l.flatMap F ++ l.flatMap G)) := h.append_left _
    refine h1.trans ?_
    have e1 : F x ++ G x ++ (l.flatMap F ++ l.flatMap G) = F x ++ (G x ++ l.flatMap F ++ l.flatMap G) := by simp
    have e2 : F x ++ l.flatMap F ++ (G x ++ l.flatMap G) = F x ++ (l.flatMap F ++ G x ++ l.flatMap G) := by simp
    rw [e1, e2]
    exact ((List.perm_append_comm).append_right _).append_left _
theorem fl1_none {parks : List Int} {js : List (Int × Int)} {way : List Int} {b br : Int} {f : Bool} (h : oth (ends js b f) br ∈ parks) : fl1 parks js way (b, f, br) = [] := by
  unfold fl1
  simp only
  rw [if_neg fun z => (isPt_spec.mp z).1 h]
theorem rowsW {n : Int} {parks : List Int} {js : List (Int × Int)} {way : List Int} {w e : Int} (hJ : JOk n parks js) (hj : (w, e) ∈ js) : js.flatMap (rowW parks js way w e) = if isPt parks js w true = true then fl1 parks js way (w, true, e) else [] := by
  by_cases hw : w ∈ parks
  · have e0 : js.flatMap (rowW parks js way w e) = [] := by
      have : rowW parks js way w e = fun _ => [] := by
        funext p
        unfold rowW
        rw [if_neg fun z => z.2.2.1 hw]
      rw [this]
      simp
    rw [e0, if_neg fun z => (isPt_spec.mp z).1 hw]
  · have s1 : js.flatMap (rowW parks js way w e) = (eo js w).flatMap (fun o => if o ≠ e then (if o ∉ parks then (wo js o).flatMap (fun a => if a ≠ w then (if o ∉ way ∧ a ∉ way then [(o, false, a)] else []) else []) else []) else []) := by
      rw [← fm_eo]
      congr 1
      funext p
      unfold rowW
      by_cases c1 : p.1 = w
      · rw [if_pos c1]
        by_cases c2 : p.2 ≠ e
        · rw [if_pos c2]
          by_cases c3 : p.2 ∉ parks
          · rw [if_pos c3, if_pos ⟨c1, c2, hw, c3⟩, ← fm_wo]
            congr 1
            funext q
            by_cases d1 : q.2 = p.2
            · rw [if_pos d1]
              by_cases d2 : q.1 ≠ w
              · rw [if_pos d2]
                by_cases d3 : p.2 ∉ way ∧ q.1 ∉ way
                · rw [if_pos d3, if_pos ⟨d1, d2, d3⟩]
                · rw [if_neg d3, if_neg fun z => d3 z.2.2]
              · rw [if_neg d2, if_neg fun z => d2 z.2.1]
            · rw [if_neg d1, if_neg fun z => d1 z.1]
          · rw [if_neg c3, if_neg fun z => c3 z.2.2.2]
        · rw [if_neg c2, if_neg fun z => c2 z.2.1]
      · rw [if_neg c1, if_neg fun z => c1 z.1]
    have nd := ends_nd hJ w true
    have hb : e ∈ ends js w true := mem_ends.mpr hj
    rw [s1]
    have s2 := fm_two (F := fun o => if o ∉ parks then (wo js o).flatMap (fun a => if a ≠ w then (if o ∉ way ∧ a ∉ way then [((o, false, a) : T3)] else []) else []) else []) nd.1 (nd.2 hw) hb
    refine s2.trans ?_
    by_cases c : (ends js w true).length = 2
    · rw [if_pos c, if_pos (isPt_spec.mpr ⟨hw, c⟩)]
      obtain ⟨_, _, ho⟩ := two_of nd.1 c hb
      unfold fl1
      simp only [Bool.not_true, Bool.not_false]
      generalize oth (ends js w true) e = o at ho
      by_cases c3 : o ∈ parks
      · rw [if_neg (fun z => z c3), if_neg fun z => (isPt_spec.mp z).1 c3]
      · rw [if_pos c3]
        have nd2 := ends_nd hJ o false
        have hb2 : w ∈ ends js o false := mem_ends.mpr (jt_back (mem_ends.mp ho))
        refine (fm_two (F := fun a => if o ∉ way ∧ a ∉ way then [((o, false, a) : T3)] else []) nd2.1 (nd2.2 c3) hb2).trans ?_
        by_cases c4 : (ends js o false).length = 2
        · rw [if_pos c4, if_pos (isPt_spec.mpr ⟨c3, c4⟩)]
        · rw [if_neg c4, if_neg fun z => c4 (isPt_spec.mp z).2]
    · rw [if_neg c, if_neg fun z => c (isPt_spec.mp z).2]
theorem rowsE {n : Int} {parks : List Int} {js : List (Int × Int)} {way : List Int} {w e : Int} (hJ : JOk n parks js) (hj : (w, e) ∈ js) : js.flatMap (rowE parks js way w e) = if isPt parks js e false = true then fl1 parks js way (e, false, w) else [] := by
  by_cases hw : e ∈ parks
  · have e0 : js.flatMap (rowE parks js way w e) = [] := by
      have : rowE parks js way w e = fun _ => [] := by
        funext p
        unfold rowE
        rw [if_neg fun z => z.2.2.1 hw]
      rw [this]
      simp
    rw [e0, if_neg fun z => (isPt_spec.mp z).1 hw]
  · have s1 : js.flatMap (rowE parks js way w e) = (wo js e).flatMap (fun o => if o ≠ w then (if o ∉ parks then (eo js o).flatMap (fun a => if a ≠ e then (if o ∉ way ∧ a ∉ way then [(o, true, a)] else []) else []) else []) else []) := by
      rw [← fm_wo]
      congr 1
      funext p
      unfold rowE
      by_cases c1 : p.2 = e
      · rw [if_pos c1]
        by_cases c2 : p.1 ≠ w
        · rw [if_pos c2]
          by_cases c3 : p.1 ∉ parks
          · rw [if_pos c3, if_pos ⟨c1, c2, hw, c3⟩, ← fm_eo]
            congr 1
            funext q
            by_cases d1 : q.1 = p.1
            · rw [if_pos d1]
              by_cases d2 : q.2 ≠ e
              · rw [if_pos d2]
                by_cases d3 : p.1 ∉ way ∧ q.2 ∉ way
                · rw [if_pos d3, if_pos ⟨d1, d2, d3⟩]
                · rw [if_neg d3, if_neg fun z => d3 z.2.2]
              · rw [if_neg d2, if_neg fun z => d2 z.2.1]
            · rw [if_neg d1, if_neg fun z => d1 z.1]
          · rw [if_neg c3, if_neg fun z => c3 z.2.2.2]
        · rw [if_neg c2, if_neg fun z => c2 z.2.1]
      · rw [if_neg c1, if_neg fun z => c1 z.1]
    have nd := ends_nd hJ e false
    have hb : w ∈ ends js e false := mem_ends.mpr hj
    rw [s1]
    have s2 := fm_two (F := fun o => if o ∉ parks then (eo js o).flatMap (fun a => if a ≠ e then (if o ∉ way ∧ a ∉ way then [((o, true, a) : T3)] else []) else []) else []) nd.1 (nd.2 hw) hb
    refine s2.trans ?_
    by_cases c : (ends js e false).length = 2
    · rw [if_pos c, if_pos (isPt_spec.mpr ⟨hw, c⟩)]
      obtain ⟨_, _, ho⟩ := two_of nd.1 c hb
      unfold fl1
      simp only [Bool.not_true, Bool.not_false]
      generalize oth (ends js e false) w = o at ho
      by_cases c3 : o ∈ parks
      · rw [if_neg (fun z => z c3), if_neg fun z => (isPt_spec.mp z).1 c3]
      · rw [if_pos c3]
        have nd2 := ends_nd hJ o true
        have hb2 : e ∈ ends js o true := mem_ends.mpr (jt_back (mem_ends.mp ho))
        refine (fm_two (F := fun a => if o ∉ way ∧ a ∉ way then [((o, true, a) : T3)] else []) nd2.1 (nd2.2 c3) hb2).trans ?_
        by_cases c4 : (ends js o true).length = 2
        · rw [if_pos c4, if_pos (isPt_spec.mpr ⟨c3, c4⟩)]
        · rw [if_neg c4, if_neg fun z => c4 (isPt_spec.mp z).2]
    · rw [if_neg c, if_neg fun z => c (isPt_spec.mp z).2]
theorem rows_perm {n : Int} {parks : List Int} {js : List (Int × Int)} {way : List Int} {w e : Int} (hJ : JOk n parks js) (hj : (w, e) ∈ js) : (rows parks js way w e).Perm (flD parks js way w e) := by
  unfold rows
  refine (fm_perm js).trans ?_
  have e1 : js.flatMap (fun x => rowW parks js way w e x) = js.flatMap (rowW parks js way w e) := rfl
  have e2 : js.flatMap (fun x => rowE parks js way w e x) = js.flatMap (rowE parks js way w e) := rfl
  rw [e1, e2, rowsW hJ hj, rowsE hJ hj]
  have e3 : flD parks js way w e = (if isPt parks js w true = true then fl1 parks js way (w, true, e) else []) ++ (if isPt parks js e false = true then fl1 parks js way (e, false, w) else []) := by
    unfold flD jd3
    rw [List.flatMap_append]
    congr 1 <;> split <;> simp
  rw [e3]
end Lw

set_option Elab.async false
set_option linter.all false
set_option maxRecDepth 100000
set_option maxHeartbeats 4000000
/-! promises of the flanks -/
namespace Lw
open PySem L2
open Evl (Ex)
section
variable {K : PySem.W.Frag} {C : Addr}
def spOth (K : PySem.W.Frag) (C : Addr) : Sp := fun vs H Q _ => ∃ (G : Hp) (p : Addr) (n : Nat) (parks : List Int) (js : List (Int × Int)) (b : Int) (c : Bool) (br o : Int), Ex G H ∧ vs = [.ref p, .int b, .str (sd c), .int br] ∧ LayAt K C G p n parks js ∧ 0 ≤ b ∧ b < (n : Int) ∧ (ends js b c).Perm [br, o] ∧ o ≠ br ∧ Ret G H (XV (.int o)) Q
theorem sa_oth {G : Hp} {p : Addr} {n : Nat} {parks : List Int} {js : List (Int × Int)} {b : Int} {c : Bool} {br o : Int} (h : LayAt K C G p n parks js) (h0 : 0 ≤ b) (h1 : b < (n : Int)) (hp : (ends js b c).Perm [br, o]) (hn : o ≠ br) : SA (spOth K C) [.ref p, .int b, .str (sd c), .int br] G (XV (.int o)) := fun H e Q _ q => ⟨G, p, n, parks, js, b, c, br, o, e, rfl, h, h0, h1, hp, hn, q⟩
def spFl (K : PySem.W.Frag) (C : Addr) : Sp := fun vs H Q _ => ∃ (G : Hp) (p : Addr) (n : Nat) (parks : List Int) (js : List (Int × Int)) (w e : Int) (f : Bool) (wy : Addr) (way : List Int), Ex G H ∧ vs = [.ref p, .int (if f = true then w else e), .int (if f = true then e else w), .ref wy] ∧ LayAt K C G p n parks js ∧ JOk (n : Int) parks js ∧ (w, e) ∈ js ∧ Dp K G (.ref wy) (dI way) ∧ Ret G H (STn K G (flD parks js way w e)) Q
theorem sa_fl {G : Hp} {p : Addr} {n : Nat} {parks : List Int} {js : List (Int × Int)} {w e : Int} {wy : Addr} {way : List Int} (f : Bool) (h : LayAt K C G p n parks js) (hJ : JOk (n : Int) parks js) (hj : (w, e) ∈ js) (hy : Dp K G (.ref wy) (dI way)) : SA (spFl K C) [.ref p, .int (if f = true then w else e), .int (if f = true then e else w), .ref wy] G (STn K G (flD parks js way w e)) := fun H ex Q _ q => ⟨G, p, n, parks, js, w, e, f, wy, way, ex, rfl, h, hJ, hj, hy, q⟩
/-- a list of these triples, sorted -/
def SW (K : PySem.W.Frag) (l0 : List T3) : VP := fun v G => ∃ l : List T3, l.Perm l0 ∧ l.Pairwise (fun s t => k3 s ≤ k3 t) ∧ Dp K G v (.list (l.map dT3))
theorem mo_SW {l0 : List T3} : Mo (SW K l0) := fun v G G' e ⟨l, h1, h2, h3⟩ => ⟨l, h1, h2, dpx h3 e⟩
def spWant8 (K : PySem.W.Frag) : Sp := fun vs H Q _ => ∃ (G : Hp) (x : V) (t : Trk) (w : Int) (e : Int) (y : V) (way : List Int), Ex G H ∧ vs = [x, .int w, .int e, y] ∧ Dp K G x (dT t) ∧ TrkOk t ∧ (w, e) ∈ t.joints ∧ Dp K G y (dI way) ∧ Ret G H (SW K (flD t.parks t.joints way w e)) Q
theorem sa_want8 {G : Hp} {x y : V} {t : Trk} {w e : Int} {way : List Int} (hx : Dp K G x (dT t)) (ht : TrkOk t) (hj : (w, e) ∈ t.joints) (hy : Dp K G y (dI way)) : SA (spWant8 K) [x, .int w, .int e, y] G (SW K (flD t.parks t.joints way w e)) := fun H ex Q _ q => ⟨G, x, t, w, e, y, way, ex, rfl, hx, ht, hj, hy, q⟩
/-- neighbours of a way are joined -/
def WayOk (js : List (Int × Int)) (way : List Int) : Prop := ∀ (i : Nat) (a b : Int), way[i]? = some a → way[i + 1]? = some b → (a, b) ∈ js ∨ (b, a) ∈ js
def WY (K : PySem.W.Frag) (js : List (Int × Int)) : VP := fun v G => ∃ (a : Addr) (way : List Int), v = .ref a ∧ WayOk js way ∧ way.length ≤ 60 ∧ Dp K G v (dI way)
theorem mo_WY {js : List (Int × Int)} : Mo (WY K js) := fun v G G' e ⟨a, way, h0, h1, h2, h3⟩ => ⟨a, way, h0, h1, h2, dpx h3 e⟩
def spRoute (K : PySem.W.Frag) : Sp := fun vs H Q _ => ∃ (G : Hp) (x : V) (t : Trk) (c : Int), Ex G H ∧ vs = [x, .int c] ∧ Dp K G x (dT t) ∧ TrkOk t ∧ 1 ≤ t.joints.length ∧ Ret G H (WY K t.joints) Q
theorem sa_route {G : Hp} {x : V} {t : Trk} {c : Int} (hx : Dp K G x (dT t)) (ht : TrkOk t) (h1 : 1 ≤ t.joints.length) : SA (spRoute K) [x, .int c] G (WY K t.joints) := fun H ex Q _ q => ⟨G, x, t, c, ex, rfl, hx, ht, h1, q⟩
def spClear (K : PySem.W.Frag) (C : Addr) : Sp := fun vs H Q _ => ∃ (G : Hp) (x : V) (t : Trk) (p y : Addr) (way : List Int), Ex G H ∧ vs = [x, .ref p, .ref y] ∧ Dp K G x (dT t) ∧ TrkOk t ∧ LayAt K C G p t.lens.length t.parks t.joints ∧ WayOk t.joints way ∧ way.length ≤ 60 ∧ Dp K G (.ref y) (dI way) ∧ Ret G H (XV (.bl true)) Q
theorem sa_clear {G : Hp} {x : V} {t : Trk} {p y : Addr} {way : List Int} (hx : Dp K G x (dT t)) (ht : TrkOk t) (hL : LayAt K C G p t.lens.length t.parks t.joints) (hw : WayOk t.joints way) (hl : way.length ≤ 60) (hy : Dp K G (.ref y) (dI way)) : SA (spClear K C) [x, .ref p, .ref y] G (XV (.bl true)) := fun H ex Q _ q => ⟨G, x, t, p, y, way, ex, rfl, hx, ht, hL, hw, hl, hy, q⟩
theorem way_rev {js : List (Int × Int)} {way : List Int} (h : WayOk js way) : WayOk js way.reverse := fun i a b ha hb => by
  have hi := (List.getElem?_eq_some_iff.mp hb).1
  rw [List.length_reverse] at hi
  rw [List.getElem?_reverse (by omega)] at ha hb
  have e : way.length - 1 - i = way.length - 1 - (i + 1) + 1 := by omega
  rw [e] at ha
  exact (h _ _ _ hb ha).symm
end
section
variable {K : PySem.W.Frag} {σ : L2.St} {G G' H H' : Hp} {ta tb te tc td : TE} {P : VP} {D : Ends} {u : TT}
theorem st_asgG {g : TG} (hG : Ex G H) (h : EF te σ G P) (k : ∀ v G' H', Gr G G' H H' → P v G' → g v σ H' D.nx) : tAsg te g D σ H := h H hG _ k
theorem st_forE {ds : List PyData} {tl : TE} {g : TG} {tu : TS} (hG : Ex G H) (h : EF tl σ G (DV K (.list ds)))
    (k : ∀ G1 H1 a xs, Gr G G1 H H1 → SqL K G1 a xs → DpAll K G1 xs ds → ∃ W : Nat → L2.St → Hp → Prop, W 0 σ H1 ∧ (∀ i σ' H', W i σ' H' → Ex G1 H') ∧ (∀ i x σ' H', xs[i]? = some x → W i σ' H' → g x σ' H' fun σ2 H2 => tu { D with nx := W (i + 1), ct := W (i + 1), bk := D.nx } σ2 H2) ∧ ∀ σ' H', W xs.length σ' H' → D.nx σ' H') : tFor (iList K tl) g tu D σ H :=
  h H hG _ fun v G1 H1 g1 hv => by
    obtain ⟨a, xs, rfl, hs, hd⟩ := dp_lst hv
    obtain ⟨W, h0, hl, hs', hd'⟩ := k G1 H1 a xs g1 hs hd
    exact ⟨a, rfl, ⟨xs, Evl.ex_l g1.ok hs⟩, for_list W h0 (fun i σ' H' _ w => Evl.ex_l (hl i σ' H' w) hs) hs' hd'⟩
theorem ex_call4 {sp : Sp} {E : XK} {x y z w : V} {P : VP} (ha : EF ta σ G (XV x)) (hb : EF tb σ G (XV y)) (hc : EF tc σ G (XV z)) (hd : EF td σ G (XV w)) (h : ∀ G', Ex G G' → SA sp [x, y, z, w] G' P) : EF (tCall sp [] E (tCons ta (tCons tb (tCons tc (tCons td tNil))))) σ G P := ef_call (ea_four mo_XV mo_XV mo_XV mo_XV ha hb hc hd) fun vs G' e hv => by
  obtain ⟨a, b, c, d, rfl, pa, pb, pc, pd⟩ := hv
  cases (show a = x from pa)
  cases (show b = y from pb)
  cases (show c = z from pc)
  cases (show d = w from pd)
  exact h G' e
theorem ed_niI {o : Int} {way : List Int} (ha : EF ta σ G (XV (.int o))) (hb : EF tb σ G (DV K (dI way))) : EF (tOp (rNotInD K) ta tb) σ G (BV (· = !decide (o ∈ way))) := (ed_niD (d := .int o) (ds := way.map PyData.int) (EF.dv ha (.int o)) hb (sh_int _) (sh_ints _)).imp fun v _ _ ⟨b, e, hb⟩ => ⟨b, e, by rw [hb, any_int]⟩
theorem sa_askS' {P : List Int → List (Int × Int) → Int → Bool → VP} {C : Addr} {p : Addr} {n : Nat} {parks : List Int} {js : List (Int × Int)} {b : Int} (c : Bool) (h : LayAt K C G p n parks js) (h0 : 0 ≤ b) (h1 : b < (n : Int)) : SA (spAskS K C P) [.ref p, .int b, .str (sd c)] G (P parks js b c) := sa_askS c h h0 h1
theorem dp_t3 {x : V} {t : T3} (h : Dp K G x (dT3 t)) : ∃ a, x = .ref a ∧ SqT K G a [.int t.1, .str (sd t.2.1), .int t.2.2] := by
  obtain ⟨a, ys, rfl, hs, hd⟩ := dp_tup h
  refine ⟨a, rfl, ?_⟩
  cases hd with
  | cons a1 r1 => cases r1 with
    | cons a2 r2 => cases r2 with
      | cons a3 r3 =>
        cases r3
        cases a1
        cases a2
        cases a3
        exact hs
theorem fl1_eq {parks : List Int} {js : List (Int × Int)} {way : List Int} {t : T3} : fl1 parks js way t = (if isPt parks js (oth (ends js t.1 t.2.1) t.2.2) (!t.2.1) = true then (if oth (ends js t.1 t.2.1) t.2.2 ∉ way ∧ oth (ends js (oth (ends js t.1 t.2.1) t.2.2) (!t.2.1)) t.1 ∉ way then [(oth (ends js t.1 t.2.1) t.2.2, !t.2.1, oth (ends js (oth (ends js t.1 t.2.1) t.2.2) (!t.2.1)) t.1)] else []) else []) := rfl
end
end Lw

set_option Elab.async false
set_option linter.all false
set_option maxRecDepth 100000
set_option maxHeartbeats 4000000
/-! rows that a loop over joints makes -/
namespace Lw
open PySem L2
open Evl (Ex)
section
variable {K : PySem.W.Frag} {σ : L2.St} {G G' H H' : Hp} {ta tb te tc td tl : TE} {t u : TT} {P : VP} {D : Ends} {tu : TS}
def RSt (K : PySem.W.Frag) (G H H' : Hp) (q : Addr) (L : List T3) : Prop := ∃ G' vs, Gr G G' H H' ∧ G' q = none ∧ H' q = some (.lst vs) ∧ DpAll K G' vs (L.map dT3)
theorem RSt.ok {H1 : Hp} {q : Addr} {L : List T3} (h : RSt K G H H1 q L) : Ex G H1 := by
  obtain ⟨G', vs, g, _⟩ := h
  exact g.up.trans g.ok
theorem RSt.up {H1 H2 : Hp} {q : Addr} {L : List T3} (h : RSt K G H H1 q L) (e : Ex H1 H2) : RSt K G H H2 q L := by
  obtain ⟨G', vs, g, gq, hq, hd⟩ := h
  exact ⟨G', vs, g.then e, gq, e _ _ hq, hd⟩
theorem st_rows {H1 : Hp} {q a1 : Addr} {xs1 : List V} {js : List (Int × Int)} {g : Int × Int → List T3} {L0 : List T3} {j : Nat} (hR : RSt K G H H1 q L0) (hl : EF tl σ G (XV (.ref a1))) (hx : SqL K G a1 xs1) (hd : DpAll K G xs1 (js.map dP)) (Sg : L2.St → Prop) (h0 : Sg σ)
    (hs : ∀ (k : Nat) (p : Int × Int) (x : V) (σ' : L2.St) (H' : Hp) (D' : Ends), js[k]? = some p → Dp K G x (dP p) → Sg σ' → RSt K G H H' q (L0 ++ (js.take k).flatMap g) → D'.rt = D.rt → (∀ σ2 H2, Sg σ2 → RSt K G H H2 q (L0 ++ (js.take k).flatMap g ++ g p) → D'.nx σ2 H2) → tu D' (σ'.set j (some x)) H')
    (he : ∀ σ' H', Sg σ' → RSt K G H H' q (L0 ++ js.flatMap g) → D.nx σ' H') : tFor (iList K tl) (gName j) tu D σ H1 := by
  have hlen : xs1.length = js.length := by rw [dpa_len hd, List.length_map]
  refine st_forK (xs := xs1) hR.ok hl hx (fun i σ' H' => Sg σ' ∧ RSt K G H H' q (L0 ++ (js.take i).flatMap g)) (fun H' e => ⟨h0, by rw [List.take_zero, List.flatMap_nil, List.append_nil]; exact hR.up e⟩) (fun i σ' H' hw => hw.2.ok) (fun i x σ' H' hi hw => ?_) (fun σ' H' hw => ?_)
  · obtain ⟨d, hd1, dx⟩ := dpa_get hd hi
    rw [List.getElem?_map] at hd1
    obtain ⟨p, hp, rfl⟩ := Option.map_eq_some_iff.mp hd1
    refine hs i p x σ' H' _ hp dx hw.1 hw.2 rfl fun σ2 H2 h1 h2 => ⟨h1, ?_⟩
    rw [take_next hp, List.flatMap_append]
    have e : List.flatMap g [p] = g p := by simp
    rw [e, ← List.append_assoc]
    exact h2
  · rw [hlen, List.take_length] at hw
    exact he σ' H' hw.1 hw.2
theorem st_rapp {H1 : Hp} {q : Addr} {L : List T3} {x : T3} {i : Nat} (hqH : H q = none) (hG : Ex G H) (hR : RSt K G H H1 q L) (hz : L.length < 1000) (ho : σ[i]? = some (some (.ref q))) (h : ∀ G', Ex G G' → EF te σ G' fun v G2 => Dp K G2 v (dT3 x)) (k : ∀ H2, RSt K G H H2 q (L ++ [x]) → D.nx σ H2) : tDrop (tBM K "list" rAppend (tVar i) (tCons te tNil)) D σ H1 := by
  obtain ⟨G', vs, g, gq, hq, hd⟩ := hR
  refine st_app (P := fun v G2 => Dp K G2 v (dT3 x)) g.ok hq (ex_var ho) (h G' g.up) (by rw [dpa_len hd, List.length_map]; exact hz) fun v Gb Hb gb pv => k _ ?_
  have gbq : Gb q = none := gb.2.2.2 q (ne_none_of hq) gq
  refine ⟨Gb, vs ++ [v], (g.trans gb).put hqH gbq, gbq, upd_same, ?_⟩
  rw [List.map_append]
  exact dpa_snoc (dpax hd gb.up) pv
/-- a triple of ints and a side -/
theorem ef_t3 {a b : Int} {f : Bool} {s : Str} (hs : s = sd f) (ha : EF ta σ G (XV (.int a))) (hb : EF tb σ G (XV (.str s))) (hc : EF tc σ G (XV (.int b))) : EF (tTup (tCons ta (tCons tb (tCons tc tNil)))) σ G fun v G2 => Dp K G2 v (dT3 (a, f, b)) := by
  subst hs
  exact ef_tup (ea_three mo_XV mo_XV mo_XV ha hb hc) (fun vs G' ⟨x, y, z, ev, _⟩ => by rw [ev]; simp) fun p2 vs G' _ _ _ ⟨x, y, z, ev, hx, hy, hz⟩ => dp_mkT upd_same (by rw [ev, hx, hy, hz]; exact .cons (.int _) (.cons (.str _) (.cons (.int _) .nil)))
theorem et_andB {a b : Bool} (h1 : ET t σ G (· = a)) (h2 : ET u σ G (· = b)) : ET (tAnd t u) σ G (· = (a && b)) := et_and (p := (· = a)) (q := (· = b)) h1 (fun _ => h2) (fun h c hc => by rw [← h, hc]; rfl) (fun h => by rw [← h]; rfl)
theorem et_eqI {a b : Int} (ha : EF ta σ G (XV (.int a))) (hb : EF tb σ G (XV (.int b))) : ET (tTest (tOp rEq ta tb)) σ G (· = decide (a = b)) := et_test (ei_eq (EF.iv ha) (EF.iv hb) fun x y hx hy => by rw [hx, hy])
theorem et_neI {a b : Int} (ha : EF ta σ G (XV (.int a))) (hb : EF tb σ G (XV (.int b))) : ET (tTest (tOp rNe ta tb)) σ G (· = !decide (a = b)) := et_test (ei_ne (EF.iv ha) (EF.iv hb) fun x y hx hy => by rw [hx, hy])
theorem et_niI {a : Int} {way : List Int} (ha : EF ta σ G (XV (.int a))) (hb : EF tb σ G (DV K (dI way))) : ET (tTest (tOp (rNotInD K) ta tb)) σ G (· = !decide (a ∈ way)) := et_test (ed_niI ha hb)
theorem ep0 {j : Nat} {v : V} {q : Int × Int} (h : σ[j]? = some (some v)) (hv : Dp K G v (dP q)) : EF (tOp (rIxT K) (tVar j) (tC (.int 0))) σ G (XV (.int q.1)) := ei_pair (i := 0) (ex_var h) hv ex_c rfl
theorem ep1 {j : Nat} {v : V} {q : Int × Int} (h : σ[j]? = some (some v)) (hv : Dp K G v (dP q)) : EF (tOp (rIxT K) (tVar j) (tC (.int 1))) σ G (XV (.int q.2)) := ei_pair (i := 1) (ex_var h) hv ex_c rfl
theorem and4 {p q r s : Prop} [Decidable p] [Decidable q] [Decidable r] [Decidable s] : (decide p && (!decide q && (!decide r && !decide s))) = decide (p ∧ ¬ q ∧ ¬ r ∧ ¬ s) := by
  by_cases h1 : p <;> by_cases h2 : q <;> by_cases h3 : r <;> by_cases h4 : s <;> simp [h1, h2, h3, h4]
end
theorem rows_len {n : Int} {parks : List Int} {js : List (Int × Int)} {way : List Int} {w e : Int} (hJ : JOk n parks js) (hj : (w, e) ∈ js) {L rest : List T3} (h : L ++ rest = rows parks js way w e) : L.length ≤ 2 := by
  have h1 := (rows_perm (way := way) hJ hj).length_eq
  have h2 := flD_len parks js way w e
  rw [← h, List.length_append] at h1
  omega
theorem fm_cut {g : Int × Int → List T3} {js : List (Int × Int)} {k : Nat} {p : Int × Int} (h : js[k]? = some p) : (js.take k).flatMap g ++ (g p ++ (js.drop (k + 1)).flatMap g) = js.flatMap g := by
  conv => rhs; rw [← List.take_append_drop (k + 1) js, take_next h]
  rw [List.flatMap_append, List.flatMap_append]
  simp
theorem rows_cut (parks : List Int) (js : List (Int × Int)) (way : List Int) (w e : Int) {k : Nat} {p : Int × Int} (h : js[k]? = some p) : (js.take k).flatMap (fun p => rowW parks js way w e p ++ rowE parks js way w e p) ++ (rowW parks js way w e p ++ rowE parks js way w e p ++ (js.drop (k + 1)).flatMap (fun p => rowW parks js way w e p ++ rowE parks js way w e p)) = rows parks js way w e :=
  fm_cut (g := fun p => rowW parks js way w e p ++ rowE parks js way w e p) h
end Lw

set_option Elab.async false
set_option linter.all false
set_option maxRecDepth 100000
set_option maxHeartbeats 4000000
/-! ways -/
namespace Lw
open PySem L2
open Evl (Ex)
/-- without what is known of q -/
def dropA (G : Hp) (q : Addr) : Hp := fun a => if a = q then none else G a
theorem dropA_ne {G : Hp} {q a : Addr} (h : a ≠ q) : dropA G q a = G a := if_neg h
theorem dropA_same {G : Hp} {q : Addr} : dropA G q q = none := if_pos rfl
theorem Gr.forget {G' Gn H' H2 : Hp} {q : Addr} {o : HO} (g : Gr (upd G' q o) Gn H' H2) (gq : G' q = none) : Gr G' (dropA Gn q) H' H2 := by
  refine ⟨fun a u h => ?_, fun a u h => ?_, g.hp, fun a h ga => ?_⟩
  · have n : a ≠ q := fun z => by rw [z, gq] at h; cases h
    rw [dropA_ne n]
    exact g.up a u (by rw [upd_ne n]; exact h)
  · have n : a ≠ q := fun z => by rw [z, dropA_same] at h; cases h
    rw [dropA_ne n] at h
    exact g.ok a u h
  · by_cases n : a = q
    · rw [n]; exact dropA_same
    · rw [dropA_ne n]
      exact g.2.2.2 a h (by rw [upd_ne n]; exact ga)
theorem wayok_two {js : List (Int × Int)} {p : Int × Int} (h : p ∈ js) : WayOk js [p.1, p.2] := fun i a b ha hb => by
  match i with
  | 0 =>
    have e1 : p.1 = a := by simpa using ha
    have e2 : p.2 = b := by simpa using hb
    subst e1 e2
    exact .inl h
  | i + 1 => simp at hb
theorem wayok_snoc {js : List (Int × Int)} {ns : List Int} {w m : Int} (h : WayOk js ns) (hw : ns[ns.length - 1]? = some w) (hm : (w, m) ∈ js) : WayOk js (ns ++ [m]) := fun i a b ha hb => by
  have hl := (List.getElem?_eq_some_iff.mp hw).1
  by_cases c : i + 1 < ns.length
  · rw [List.getElem?_append_left (by omega)] at ha
    rw [List.getElem?_append_left c] at hb
    exact h i a b ha hb
  · have hb2 := (List.getElem?_eq_some_iff.mp hb).1
    rw [List.length_append, List.length_singleton] at hb2
    have e : i = ns.length - 1 := by omega
    rw [List.getElem?_append_left (by omega), e, hw] at ha
    rw [List.getElem?_append_right (by omega)] at hb
    have e2 : i + 1 - ns.length = 0 := by omega
    rw [e2] at hb
    have e3 : m = b := by simpa using hb
    have e4 : w = a := Option.some.inj ha
    subst e3 e4
    exact .inl hm
section
variable {K : PySem.W.Frag} {σ : L2.St} {G G' H H' : Hp} {ta tb te tc td tl : TE} {t u : TT} {P : VP} {D : Ends} {tu : TS}
theorem ea_ci {tr : TA} {z : Int} {rest : List V} (h : EA tr σ G fun vs _ => vs = rest) : EA (tCons (tC (.int z)) tr) σ G fun vs _ => vs = .int z :: rest := ea_cons (Pa := XV (.int z)) mo_XV (fun vs G G' e h => h) ex_c h fun x xs G' _ hx hr => by rw [show x = _ from hx, hr]
theorem ef_sortE {R : List Int → Prop} (ha : EF ta σ G fun v G' => ∃ (p : Addr) (ns : List Int), v = .ref p ∧ G' p = some (.lst (ns.map V.int)) ∧ R ns) : EF (tCB (rSortedI K) (tCons ta tNil)) σ G fun v G' => ∃ (p : Addr) (ns : List Int), v = .ref p ∧ G p = none ∧ G' p = some (.lst (ns.map V.int)) ∧ ∃ ns0, ns.Perm ns0 ∧ R ns0 := fun H e Q q => ha H e _ fun x G1 H1 g1 ⟨p, ns, ev, hp, hR⟩ =>
  ⟨p, ns, by rw [ev], Evl.sq_of (g1.ok _ _ hp), fun ns' p2 h1 _ h3 => q _ _ _ (g1.trans (.new g1.ok h3)) ⟨p2, ns', rfl, none_back (g1.up.trans g1.ok) h3, upd_same, ns, h1, hR⟩⟩
theorem ex_neg {z : Int} : EF (tUn (rU fun i => .int (-i)) (tC (.int z))) σ G (XV (.int (-z))) := fun H e Q q => ⟨z, rfl, q _ _ _ (.refl e) rfl⟩
theorem atI_last {xs : List V} {v : V} (h : xs[xs.length - 1]? = some v) : atI xs (-1) = some v := by
  have hl := (List.getElem?_eq_some_iff.mp h).1
  unfold atI ixN
  rw [if_neg (by omega), if_pos (by omega)]
  show xs[((-1 : Int) + (xs.length : Int)).toNat]? = some v
  have e : ((-1 : Int) + (xs.length : Int)).toNat = xs.length - 1 := by omega
  rw [e]
  exact h
theorem ex_ixLast {a : Addr} {xs : List V} {v : V} (ha : EF ta σ G (XV (.ref a))) (hb : EF tb σ G (XV (.int (-1)))) (hs : SqL K G a xs) (hv : xs[xs.length - 1]? = some v) : EF (tOp (rIxL K) ta tb) σ G (XV v) :=
  ef_op mo_XV mo_XV ha hb fun x y G' e1 pa pb => by
    cases (show x = .ref a from pa)
    cases (show y = .int (-1) from pb)
    exact fun H e Q k => ⟨a, xs, -1, v, rfl, rfl, Evl.ex_l (e1.trans e) hs, atI_last hv, k v G' H (.refl e) rfl⟩
theorem ef_lstRev {a : Addr} {xs : List V} (ha : EF ta σ G (XV (.ref a))) (hs : SqL K G a xs) : EF (tLstRev K ta) σ G fun v G' => ∃ p, v = .ref p ∧ G p = none ∧ G' p = some (.lst xs.reverse) := fun H e Q q => ha H e _ fun x G1 H1 g1 p => by
  cases (show x = .ref a from p)
  exact ⟨a, xs, rfl, Evl.ex_l (g1.up.trans g1.ok) hs, fun p2 h2 => q _ _ _ (g1.trans (.new g1.ok h2)) ⟨p2, rfl, none_back (g1.up.trans g1.ok) h2, upd_same⟩⟩
theorem st_forRE {j : Nat} {N : Int} {ta : TA} (hG : Ex G H) (h : EA ta σ G fun vs _ => ∃ z : Int, vs = [.int z] ∧ 0 ≤ z ∧ z ≤ N) (hN : N ≤ 100000) (W : Nat → L2.St → Hp → Prop) (h0 : ∀ H', Ex H H' → W 0 σ H')
    (hs : ∀ (i : Nat) σ' H', (i : Int) < N → W i σ' H' → tu { D with nx := W (i + 1), ct := W (i + 1), bk := D.nx } (σ'.set j (some (.int (i : Int)))) H') (hd : ∀ (i : Nat) σ' H', (i : Int) ≤ N → W i σ' H' → D.nx σ' H') : tFor (iRng1 ta) (gName j) tu D σ H :=
  h H hG _ fun vs G1 H1 g1 ⟨z, ev, hz⟩ => ⟨z, ev, by omega, by omega, for_range (lo := 0) (n := z.toNat) W (h0 H1 g1.hp) (fun i σ' H' hi p => by
    have e0 : (0 : Int) + (i : Int) = (i : Int) := Int.zero_add _
    show tu { D with nx := W (i + 1), ct := W (i + 1), bk := D.nx } (σ'.set j (some (.int ((0 : Int) + (i : Int))))) H'
    rw [e0]
    exact hs i σ' H' (by omega) p) fun σ' H' p => hd z.toNat σ' H' (by omega) p⟩
end
end Lw

set_option Elab.async false
set_option linter.all false
set_option maxRecDepth 100000
set_option maxHeartbeats 4000000
/-! for the law of the flanks -/
namespace Lw
open PySem L2
open Evl (Ex)
theorem eqv_ints : ∀ l : List Int, PyData.eqvAll (l.map PyData.int) (l.map PyData.int) = true
  | [] => by simp [PyData.eqvAll]
  | z :: zs => by simp [PyData.eqvAll, PyData.eqv, eqv_ints zs]
theorem eqv_dI (l : List Int) : PyData.eqv (dI l) (dI l) = true := by
  simp only [dI, PyData.eqv]
  exact eqv_ints l
theorem ok_t3s {l : List T3} (h : l.length ≤ 1000) : Okd 2 (.list (l.map dT3)) := by
  unfold Okd
  refine ⟨by rw [List.length_map]; exact h, fun d m => ?_⟩
  obtain ⟨p, _, rfl⟩ := List.mem_map.mp m
  exact ok_tr _ _ _
theorem Gr.unput {G G' H H' : Hp} {q : Addr} {o : HO} (g : Gr G (upd G' q o) H H') (gq : G q = none) (gq' : G' q = none) : Gr G G' H H' := by
  refine ⟨fun a u h => ?_, fun a u h => ?_, g.hp, fun a h ga => ?_⟩
  · have n : a ≠ q := fun z => by rw [z, gq] at h; cases h
    have := g.up a u h
    rwa [upd_ne n] at this
  · have n : a ≠ q := fun z => by rw [z, gq'] at h; cases h
    exact g.ok a u (by rw [upd_ne n]; exact h)
  · by_cases n : a = q
    · rw [n]; exact gq'
    · have := g.2.2.2 a h ga
      rwa [upd_ne n] at this
def rMaxI : List V → Hp → VK → Prop := fun xs H Q => ∃ i j, xs = [.int i, .int j] ∧ Q (.int (if j > i then j else i)) H
section
variable {K : PySem.W.Frag} {σ : L2.St} {G G' H H' : Hp} {ta tb te tc td tl : TE} {t u : TT} {P : VP} {D : Ends} {tu : TS}
theorem ex_add {a b : Int} (ha : EF ta σ G (XV (.int a))) (hb : EF tb σ G (XV (.int b))) : EF (tOp (rI0 fun i j => .int (i + j)) ta tb) σ G (XV (.int (a + b))) := ef_op mo_XV mo_XV ha hb fun x y G' _ hx hy => by
  cases (show x = _ from hx)
  cases (show y = _ from hy)
  exact ro_I0 rfl
theorem ex_min {a b z : Int} (ha : EF ta σ G (XV (.int a))) (hb : EF tb σ G (XV (.int b))) (hz : (if b < a then b else a) = z) : EF (tCB rMinI (tCons ta (tCons tb tNil))) σ G (XV (.int z)) := fun H e Q k => (ea_two mo_XV mo_XV ha hb) H e _ fun vs G1 H1 g1 ⟨x, y, ev, hx, hy⟩ =>
  ⟨a, b, by rw [ev, show x = _ from hx, show y = _ from hy], by rw [hz]; exact k _ G1 H1 g1 rfl⟩
theorem ex_max {a b z : Int} (ha : EF ta σ G (XV (.int a))) (hb : EF tb σ G (XV (.int b))) (hz : (if b > a then b else a) = z) : EF (tCB rMaxI (tCons ta (tCons tb tNil))) σ G (XV (.int z)) := fun H e Q k => (ea_two mo_XV mo_XV ha hb) H e _ fun vs G1 H1 g1 ⟨x, y, ev, hx, hy⟩ =>
  ⟨a, b, by rw [ev, show x = _ from hx, show y = _ from hy], by rw [hz]; exact k _ G1 H1 g1 rfl⟩
theorem et_neW {way : List Int} (ha : EF ta σ G (DV K (dI way))) (hb : EF tb σ G (DV K (dI way))) : ET (tTest (tOp (rNeD K) ta tb)) σ G (· = false) := et_test (ef_op mo_DV mo_DV ha hb fun x y G' _ hx hy => fun H e Q k => ⟨_, _, dpx hx e, dpx hy e, sh_ints _, sh_ints _, k _ G' H (.refl e) ⟨_, rfl, by rw [eqv_dI]; rfl⟩⟩)
/-- the answer that is wanted -/
theorem et_fl {a8 : Addr} {v6 : V} {xs8 : List V} {l6 l8 L : List T3} {i8 i6 i7 i2 : Nat} {p7 y : Addr} {way : List Int} (h8 : σ[i8]? = some (some (.ref a8))) (h6 : σ[i6]? = some (some v6)) (h7 : σ[i7]? = some (some (.ref p7))) (h2 : σ[i2]? = some (some (.ref y)))
    (q8 : G a8 = some (.lst xs8)) (d8 : DpAll K G xs8 (l8.map dT3)) (p8 : l8.Perm L) (s8 : l8.Pairwise fun s t => k3 s ≤ k3 t) (d6 : Dp K G v6 (.list (l6.map dT3))) (p6 : l6.Perm L) (s6 : l6.Pairwise fun s t => k3 s ≤ k3 t) (hi : ∀ s ∈ L, ∀ t ∈ L, k3 s = k3 t → s = t) (hl : L.length ≤ 2)
    (d7 : Dp K G (.ref p7) (dI way)) (d2 : Dp K G (.ref y) (dI way)) : ET (tOr (tNot (tB (tCall (spSame K 2) [] E0 (tCons (tVar i8) (tCons (tVar i6) tNil))))) (tTest (tOp (rNeD K) (tVar i7) (tVar i2)))) σ G (· = false) := by
  have e : l8 = l6 := sort3_uniq (fun s hs t ht => hi s (p8.mem_iff.mp hs) t (p8.mem_iff.mp ht)) (p8.trans p6.symm) s8 s6
  subst e
  refine et_or (p := (· = false)) (q := (· = false)) (et_not (et_B (EF.bl (ex_call2 (P := XV (.bl true)) (ex_var h8) (ex_var h6) fun G' e' => sa_same (dpx (dp_mkL q8 d8) e') (dpx d6 e') (ok_t3s (by rw [p8.length_eq]; omega))) rfl))) (fun _ => et_neW (EF.dv (ex_var h7) d7) (EF.dv (ex_var h2) d2)) (fun z => nomatch z) (fun _ b hb => hb)
end
end Lw

set_option Elab.async false
set_option linter.all false
set_option maxRecDepth 100000
set_option maxHeartbeats 4000000
/-! errors that are raised -/
namespace Lw
open PySem L2
open Evl (Ex)
/-- a new error of the class at C with these fields is let out -/
def Rse (C : Addr) (fs : List (Str × V)) (G H : Hp) (E : XK) : Prop := ∀ G' H' d, Gr G G' H H' → H' d = none → E (.ref C) (some d) (upd H' d (.xd fs))
/-- an own __init__ that stores one field -/
def spIni1 (C : Addr) (f : Str) : Sp := fun vs H Q _ => ∃ (a : Addr) (y : V), vs = [.ref a, y] ∧ H a = some (exo a C none) ∧ ∀ d, H d = none → d ≠ a → Q .non (upd (upd H d (exd d [(f, y)])) a (exo a C (some d)))
/-- what an own error class must have -/
structure Err (P : Program) (w : World) (K : PySem.W.Frag) (mg : Str → Option Value) (base : Heap) (x : Str) (C fI : Addr) (fd : FuncData) (ps : List Str) (sp : Sp) : Prop where
  cls : OexC K C
  xf : XfC K C
  ini : PySem.W.findIn K (.ref C) "__init__" = some (some (.ref fI))
  tI : PySem.W.typeIn K (.ref fI) = some (.type "function")
  fn : FnOk P w K mg base CX0 1 fI fd ps sp
  bnd : Binds K fd ps []
  gl : mg x = some (.ref C)
section
variable {K : PySem.W.Frag} {C : Addr}
theorem heap_new {H1 : Hp} {a d : Addr} {o1 o2 o3 o4 : HO} (ha : H1 a = none) (hn : d ≠ a) : upd (del (upd (upd (upd H1 a o1) d o2) a o3) a) d o4 = upd H1 d o4 := by
  funext b
  by_cases e : b = d
  · rw [e, upd_same, upd_same]
  · rw [upd_ne e, upd_ne e]
    by_cases e2 : b = a
    · rw [e2, del_same, ha]
    · rw [del_ne e2, upd_ne e2, upd_ne e, upd_ne e2]
/-- raise C(e) -/
theorem mk_one {σ : L2.St} {G H : Hp} {te : TE} {f : Str} {y : V} {Q : XK} (hG : Ex G H) (h : EF te σ G (XV y)) (k : ∀ G' H' d, Gr G G' H H' → H' d = none → Q (.ref C) (some d) (upd H' d (.xd [(f, y)]))) : tMkO C (spIni1 C f) [] (tCons te tNil) σ H Q :=
  (ea_one h) H hG _ fun vs G1 H1 g1 ⟨x, ev, hx⟩ => by
    subst ev
    rw [show x = y from hx]
    refine ⟨by simp, fun a ha => ⟨a, y, rfl, upd_same, fun d hd hn => ⟨rfl, d, [(f, y)], upd_same, ?_, ?_, ?_⟩⟩⟩
    · rw [upd_ne hn]
      exact upd_same
    · rw [upd_ne hn] at hd
      exact hd
    · rw [heap_new ha hn]
      rw [upd_ne hn] at hd
      exact k G1 H1 d g1 hd
/-- a new list of these ints, sorted -/
def PLs (K : PySem.W.Frag) (l0 : List Int) : VP := fun v G => ∃ l : List Int, l.Perm l0 ∧ l.Pairwise (· ≤ ·) ∧ Dp K G v (dI l)
def sEast (K : PySem.W.Frag) : Nat → List Int → List (Int × Int) → Int → VP := fun _ _ js b => PLs K (eo js b)
def sWest (K : PySem.W.Frag) : Nat → List Int → List (Int × Int) → Int → VP := fun _ _ js b => PLs K (wo js b)
def sBranch (K : PySem.W.Frag) : List Int → List (Int × Int) → Int → Bool → VP := fun _ js b c => PLs K (ends js b c)
theorem pls_nl {js : List (Int × Int)} {b : Int} {c : Bool} {v : V} {G : Hp} (h : PLs K (ends js b c) v G) : NL K (endN js b c) v G := by
  obtain ⟨l, h1, _, h2⟩ := h
  exact ⟨l, by rw [h1.length_eq, ends_len], h2⟩
/-- check_block, with its error -/
def spCheckX (C CN : Addr) : Sp := fun vs H Q E => ∃ (G : Hp) (p : Addr) (n : Int) (b : Int), Ex G H ∧ vs = [.ref p, .int b] ∧ SizeAt C G p n ∧ (0 ≤ b ∧ b < n → Ret G H (XV .non) Q) ∧ (¬ (0 ≤ b ∧ b < n) → Rse CN [("block", .int b)] G H E)
theorem sa_checkX {CN : Addr} {G : Hp} {p : Addr} {n b : Int} (h : SizeAt C G p n) (h0 : 0 ≤ b) (h1 : b < n) : SA (spCheckX C CN) [.ref p, .int b] G (XV .non) := fun H e Q _ q => ⟨G, p, n, b, e, rfl, h, fun _ => q, fun z => absurd ⟨h0, h1⟩ z⟩
/-- the questions of a whole layout, with their error -/
def spAskX (K : PySem.W.Frag) (C CN : Addr) (P : Nat → List Int → List (Int × Int) → Int → VP) : Sp := fun vs H Q E => ∃ (G : Hp) (p : Addr) (n : Nat) (parks : List Int) (js : List (Int × Int)) (b : Int), Ex G H ∧ vs = [.ref p, .int b] ∧ LayAt K C G p n parks js ∧ (0 ≤ b ∧ b < (n : Int) → Ret G H (P n parks js b) Q) ∧ (¬ (0 ≤ b ∧ b < (n : Int)) → Rse CN [("block", .int b)] G H E)
theorem sa_askX {CN : Addr} {P : Nat → List Int → List (Int × Int) → Int → VP} {G : Hp} {p : Addr} {n : Nat} {parks : List Int} {js : List (Int × Int)} {b : Int} (h : LayAt K C G p n parks js) (h0 : 0 ≤ b) (h1 : b < (n : Int)) : SA (spAskX K C CN P) [.ref p, .int b] G (P n parks js b) := fun H e Q _ q => ⟨G, p, n, parks, js, b, e, rfl, h, fun _ => q, fun z => absurd ⟨h0, h1⟩ z⟩
end
/-- o.m(e, ..) where what is raised is wished for at the caller's slots -/
def tMethX (C : Addr) (m : Str) (sp : Sp) (dvs : List V) (E : L2.St → XK) (ta : TE) (t : TA) : TE := fun σ H Q => ta σ H fun x H1 => ∃ a dx fs, x = .ref a ∧ H1 a = some (.ins C dx fs) ∧ fs.lookup m = none ∧ t σ H1 fun vs H2 => sp (x :: (vs ++ dvs)) H2 Q (E σ)
section
variable {X : Cx} {CX : CXT} {k : Nat} {f C : Addr} {fd : FuncData} {ps : List Str} {sp : Sp} {dvs : List V} {ds : List Value} {E : L2.St → XK} {m : Str} {apos pos : Pos} {e o : Expr} {es : List Expr} {ta : TE} {t : TA}
theorem pe_methX {pl : Sem Bool} (he : PE X o ta) (c : Cls X.K C) (hm : Meth X.K C m f) (F : FnOk X.prog X.w X.K X.mg X.base CX k f fd ps sp) (hr : Room k X.A) (hb : Binds X.K fd ps ds) (hd : Vals dvs ds) (hx : ∀ σ, PassesAt CX X σ (E σ)) (ha : PA X (e :: es) t)
    (hst : starEach (e :: es) X.env = (false, eval e X.env) :: starEach es X.env := by rfl) (hpl : (backTo pos (starEach es X.env)).any (·.1) = false := by rfl)
    (ht : eval (.Call (.Attribute o m apos) (e :: es) [] pos) X.env = (do
      let ov ← eval o X.env
      standAt apos.atName
      let (f, first) ← holding [ov] (getMethod ov m pl)
      callWith pos f first (backTo pos (starEach (e :: es) X.env)) (backToKw pos (keywordEach [] X.env))) := by rfl) :
    PE X (.Call (.Attribute o m apos) (e :: es) [] pos) (tMethX C m sp dvs E ta t) := by
  refine ⟨fun pins s σ H Q I h => ?_⟩
  refine PySem.W.methodCall_KW (pl := pl) (thn (he.run pins s σ H _ I h) fun u s1 ⟨x, H1, I1, rx, a, dx, fs, ex, ea, l, q⟩ => ?_) ht
  subst ex
  obtain rfl : u = Value.ref a := rx
  refine getmeth_ok I1 ea c hm l ?_
  refine PySem.W.callWith_K (first := [.ref a]) (h₀ := X.base) I.ok.mod.kin hm.kp (thn (ha.run pos pins s1 σ H1 _ I1 q) fun us s2 ⟨vs, H2, I2, r, q2⟩ => ⟨I2.kIn, ?_⟩) hst hpl
  exact run_fnSD (us := .ref a :: us) (vs := .ref a :: vs) F hr hb hd (hx σ) I2 (.cons rfl r) q2
end
section
variable {K : PySem.W.Frag} {σ : L2.St} {G G' H H' : Hp} {ta tb te : TE} {P : VP} {D : Ends}
/-- a call that returns or lets an error out -/
def EX (te : TE) (σ : L2.St) (G : Hp) (P : VP) (B : Hp → Hp → Prop) : Prop := ∀ H, Ex G H → B G H → ∀ Q : VK, (∀ v G' H', Gr G G' H H' → P v G' → Q v H') → te σ H Q
theorem Rse.up {CN : Addr} {fs : List (Str × V)} {E : XK} {G0 G1 H0 H1 : Hp} (h : Rse CN fs G0 H0 E) (g : Gr G0 G1 H0 H1) : Rse CN fs G1 H1 E := fun G' H' d g' hd => h G' H' d (g.trans g') hd
/-- a call whose arguments are evaluated: sp is asked at what is known then -/
theorem st_callX {sp : Sp} {dvs : List V} {E : L2.St → XK} {ta : TA} {R : List V → Hp → Prop} {Q : VK} (hG : Ex G H) (h : EA ta σ G R) (k : ∀ vs G' H', Gr G G' H H' → R vs G' → sp (vs ++ dvs) H' Q (E σ)) : tCallSD sp dvs E ta σ H Q := h H hG _ fun vs G1 H1 g1 p1 => k vs G1 H1 g1 p1
/-- check_block(self, block) as a statement -/
theorem st_checkX {C CN p : Addr} {b n : Int} {E : L2.St → XK} (hG : Ex G H) (ha : EF ta σ G (XV (.ref p))) (hb : EF tb σ G (XV (.int b))) (hs : SizeAt C G p n) (k0 : 0 ≤ b ∧ b < n → ∀ H', Ex H H' → D.nx σ H') (k1 : ¬ (0 ≤ b ∧ b < n) → Rse CN [("block", .int b)] G H (E σ)) :
    tDrop (tCallSD (spCheckX C CN) [] E (tCons ta (tCons tb tNil))) D σ H := by
  unfold tDrop tCallSD
  refine (ea_two mo_XV mo_XV ha hb) H hG _ fun vs G1 H1 g1 ⟨x, y, ev, hx, hy⟩ => ?_
  subst ev
  rw [show x = _ from hx, show y = _ from hy]
  exact ⟨G1, p, n, b, g1.ok, rfl, hs.ex g1.up, fun h v G2 H2 g2 _ => k0 h H2 (g1.hp.trans g2.hp), fun h => (k1 h).up g1⟩
/-- return o.m(e), let errors out -/
theorem st_retM1 {C a : Addr} {m : Str} {sp : Sp} {E : L2.St → XK} {to : TE} {y : V} (hG : Ex G H) (ho : EF to σ G (XV (.ref a))) (hI : ∃ dx fs, G a = some (.ins C dx fs) ∧ fs.lookup m = none) (hb : EF tb σ G (XV y)) (k : ∀ G' H', Gr G G' H H' → sp [.ref a, y] H' (fun v H2 => D.rt v H2) (E σ)) :
    tRet (tMethX C m sp [] E to (tCons tb tNil)) D σ H := ho H hG _ fun x G1 H1 g1 p1 => by
  obtain ⟨dx, fs, h1, h2⟩ := hI
  cases (show x = .ref a from p1)
  refine ⟨a, dx, fs, rfl, g1.hp _ _ (hG _ _ h1), h2, ea_one hb H1 (hG.trans g1.hp) _ fun vs G2 H2 g2 ⟨z, ev, hz⟩ => ?_⟩
  subst ev
  rw [show z = y from hz]
  exact k G2 H2 (g2.low g1.hp)
end
/-- branches, with its error -/
def spAskSX (K : PySem.W.Frag) (C CN : Addr) (P : List Int → List (Int × Int) → Int → Bool → VP) : Sp := fun vs H Q E => ∃ (G : Hp) (p : Addr) (n : Nat) (parks : List Int) (js : List (Int × Int)) (b : Int) (c : Bool), Ex G H ∧ vs = [.ref p, .int b, .str (sd c)] ∧ LayAt K C G p n parks js ∧ (0 ≤ b ∧ b < (n : Int) → Ret G H (P parks js b c) Q) ∧ (¬ (0 ≤ b ∧ b < (n : Int)) → Rse CN [("block", .int b)] G H E)
theorem sa_askSX {K : PySem.W.Frag} {C CN : Addr} {P : List Int → List (Int × Int) → Int → Bool → VP} {G : Hp} {p : Addr} {n : Nat} {parks : List Int} {js : List (Int × Int)} {b : Int} (c : Bool) (h : LayAt K C G p n parks js) (h0 : 0 ≤ b) (h1 : b < (n : Int)) : SA (spAskSX K C CN P) [.ref p, .int b, .str (sd c)] G (P parks js b c) := fun H e Q _ q => ⟨G, p, n, parks, js, b, c, e, rfl, h, fun _ => q, fun z => absurd ⟨h0, h1⟩ z⟩
section
variable (P : Program) (w : World) (K : PySem.W.Frag) (mg : Str → Option Value) (base : Heap)
def CalX (x : Str) (k : Nat) (ps : List Str) (sp : Sp) : Prop := ∃ f fd, FnOk P w K mg base (L2.CX P w) k f fd ps sp ∧ mg x = some (.ref f) ∧ PySem.W.keepIn K (.ref f) = true ∧ Binds K fd ps []
def CalMX (C : Addr) (m : Str) (k : Nat) (ps : List Str) (sp : Sp) : Prop := ∃ f fd, FnOk P w K mg base (L2.CX P w) k f fd ps sp ∧ Meth K C m f ∧ Binds K fd ps []
end
end Lw

set_option Elab.async false
set_option linter.all false
set_option maxRecDepth 100000
set_option maxHeartbeats 4000000
/-! isinstance of a caught error that has fields -/
namespace Lw
open PySem L2
open Evl (Ex)
theorem call_isD {X : Cx} {a D dd : Addr} {oe : Obj} {pn : List (Addr × Obj)} (C : ExcC X.K D) (hz : Zc (.ref D) (some dd) oe) (hf : ∃ vs, oe.data = .fields vs) : CallR (X.suite a ((a, oe) :: pn)) (.builtin "isinstance") fun xs H Q => (∃ fs, H dd = some (.xd fs)) ∧ rIsE X.K D a xs H Q := by
  intro pins s σ H xs us Q I r h
  obtain ⟨⟨fs, hd⟩, c, cv, b, rfl, hcv, e, q⟩ := h
  obtain ⟨u, v, rfl, rx, rt⟩ := vals2 r
  cases (show u = Value.ref a from rx)
  have ec := hcv _ rt
  subst ec
  obtain ⟨hget, _⟩ := I.pin (a, oe) (List.mem_append.mpr (.inl List.mem_cons_self))
  have hx : ObjOk X.prog X.w H s.heap dd (.xd fs) := I.hok dd _ hd
  obtain ⟨mA, hns, _⟩ := hx
  obtain ⟨od, ho, _⟩ := lookIn_ns hns
  obtain ⟨vs, hv⟩ := hf
  have J : PySem.W.InstAt s.heap a oe D (some od) := ⟨hget, hz.1, by unfold PySem.W.notCls; rw [hv] <;> rfl, by rw [hz.2]; exact ho⟩
  have hcl : (PySem.W.clsIn X.K D).isSome = true := by
    obtain ⟨cd, hc, _⟩ := PySem.W.any_some C.hd
    rw [hc]
    rfl
  exact PySem.W.kia_one (PySem.W.kitx_exc hcl C.hg C.hk C.hs C.ha C.hn C.ht C.hm) I.kIn J e (fun z => nomatch z) fun tk => ⟨.bl b, H, I.kept (t' := tk) fun _ _ z => z, rfl, q⟩
end Lw

set_option Elab.async false
set_option linter.all false
set_option maxRecDepth 100000
set_option maxHeartbeats 4000000
/-! o.m(.., k = v): a method called with keywords, errors let out at the caller's slots -/
namespace Lw
open PySem L2
open Evl (Ex)
def tMethKX (C : Addr) (m : Str) (sp : Sp) (gV : List V → List V → List V) (E : L2.St → XK) (ta : TE) (t tk : TA) : TE := fun σ H Q => ta σ H fun x H1 => ∃ a dx fs, x = .ref a ∧ H1 a = some (.ins C dx fs) ∧ fs.lookup m = none ∧ t σ H1 fun vs H2 => tk σ H2 fun zs H3 => sp (gV (x :: vs) zs) H3 Q (E σ)
section
variable {X : Cx} {CX : CXT} {k : Nat} {f C : Addr} {fd : FuncData} {ps ks : List Str} {sp : Sp} {E : L2.St → XK} {m : Str} {apos pos : Pos} {e o : Expr} {es : List Expr} {kws : List Keyword} {ta : TE} {t tk : TA} {g : List Value → List Value → List Value} {gV : List V → List V → List V}
theorem run_kwX {pins : List (Addr × Obj)} {σ : L2.St} {H : Hp} {s : Shared} {Q : VK} {us ws : List Value} {vs zs : List V} (F : FnOk X.prog X.w X.K X.mg X.base CX k f fd ps sp) (hr : Room k X.A) (hb : KBinds X.K fd ps ks g gV) (hx : PassesAt CX X σ (E σ)) (I : Inv X pins σ H s) (r : Vals vs us) (rz : Vals zs ws) (h : sp (gV vs zs) H Q (E σ)) :
    wpAny (model X.prog X.w) X.A (call (.ref f) us (ks.zip ws)) (EP X pins σ Q) X.xe s := by
  have both := hb.rel r rz
  have many : (g us ws).length = ps.length := both.length.symm.trans (F.len _ _ _ _ h)
  have run := F.run X.A X.stack s H ⟨us, ks.zip ws⟩ (g us ws) (gV vs zs) Q (E σ) hr I.env0 (hb.to s us ws I.kIn many) both h
  refine wpAny_call (codeAny_mono run fun r s' q => ?_)
  match r, q with
  | .error er, q => exact hx pins H s er s' I q
  | .ok (.ret u), q => exact I.after q
  | .ok .next, q => exact q.elim
  | .ok .brk, q => exact q.elim
  | .ok .cont, q => exact q.elim
theorem pe_methKX {pl : Sem Bool} (he : PE X o ta) (c : Cls X.K C) (hm : Meth X.K C m f) (F : FnOk X.prog X.w X.K X.mg X.base CX k f fd ps sp) (hr : Room k X.A) (hb : KBinds X.K fd ps ks g gV) (hx : ∀ σ, PassesAt CX X σ (E σ)) (ha : PA X (e :: es) t) (hkw : PK X kws tk)
    (hall : (backToKw pos (keywordEach kws X.env)).all (·.1.isSome) = true := by rfl) (hks : (backToKw pos (keywordEach kws X.env)).filterMap (·.1) = ks := by rfl) (hst : starEach (e :: es) X.env = (false, eval e X.env) :: starEach es X.env := by rfl)
    (hpl : ((backTo pos (starEach (e :: es) X.env)).any (·.1) || (backToKw pos (keywordEach kws X.env)).any (·.1.isNone)) = false := by rfl)
    (ht : eval (.Call (.Attribute o m apos) (e :: es) kws pos) X.env = (do
      let ov ← eval o X.env
      standAt apos.atName
      let (f, first) ← holding [ov] (getMethod ov m pl)
      callWith pos f first (backTo pos (starEach (e :: es) X.env)) (backToKw pos (keywordEach kws X.env))) := by rfl) :
    PE X (.Call (.Attribute o m apos) (e :: es) kws pos) (tMethKX C m sp gV E ta t tk) := by
  refine ⟨fun pins s σ H Q I h => ?_⟩
  refine PySem.W.methodCall_KW (pl := pl) (thn (he.run pins s σ H _ I h) fun u s1 ⟨x, H1, I1, rx, a, dx, fs, ex, ea, l, q⟩ => ?_) ht
  subst ex
  cases (show u = Value.ref a from rx)
  refine getmeth_ok I1 ea c hm l (PySem.W.callWith_KW (first := [.ref a]) (h₀ := X.base) I.ok.mod.kin hm.kp hall (thn (ha.run pos pins s1 σ H1 _ I1 q) fun us s2 ⟨vs, H2, I2, r, q2⟩ => ?_) hpl hst)
  refine thn (hkw.run pos pins s2 σ H2 _ I2 q2) fun ws s3 ⟨zs, H3, I3, rz, q3⟩ => ⟨I3.kIn, ?_⟩
  rw [hks]
  exact run_kwX (us := .ref a :: us) (vs := .ref a :: vs) F hr hb (hx σ) I3 (.cons rfl r) rz q3
theorem pe_methKX0 {pl : Sem Bool} (he : PE X o ta) (c : Cls X.K C) (hm : Meth X.K C m f) (F : FnOk X.prog X.w X.K X.mg X.base CX k f fd ps sp) (hr : Room k X.A) (hb : KBinds X.K fd ps ks g gV) (hx : ∀ σ, PassesAt CX X σ (E σ)) (hkw : PK X kws tk)
    (hall : (backToKw pos (keywordEach kws X.env)).all (·.1.isSome) = true := by rfl) (hks : (backToKw pos (keywordEach kws X.env)).filterMap (·.1) = ks := by rfl)
    (hpl : ((backTo pos (starEach [] X.env)).any (·.1) || (backToKw pos (keywordEach kws X.env)).any (·.1.isNone)) = false := by rfl)
    (ht : eval (.Call (.Attribute o m apos) [] kws pos) X.env = (do
      let ov ← eval o X.env
      standAt apos.atName
      let (f, first) ← holding [ov] (getMethod ov m pl)
      callWith pos f first (backTo pos (starEach [] X.env)) (backToKw pos (keywordEach kws X.env))) := by rfl) :
    PE X (.Call (.Attribute o m apos) [] kws pos) (tMethKX C m sp gV E ta tNil tk) := by
  refine ⟨fun pins s σ H Q I h => ?_⟩
  refine PySem.W.methodCall_KW (pl := pl) (thn (he.run pins s σ H _ I h) fun u s1 ⟨x, H1, I1, rx, a, dx, fs, ex, ea, l, q⟩ => ?_) ht
  subst ex
  cases (show u = Value.ref a from rx)
  refine getmeth_ok I1 ea c hm l (PySem.W.callWith_KW0 (first := [.ref a]) (h₀ := X.base) I.ok.mod.kin hm.kp hall (thn (hkw.run pos pins s1 σ H1 _ I1 q) fun ws s3 ⟨zs, H3, I3, rz, q3⟩ => ⟨I3.kIn, ?_⟩) hpl)
  rw [hks]
  exact run_kwX (us := [.ref a]) (vs := [.ref a]) F hr hb (hx σ) I3 (.cons rfl .nil) rz q3
end
end Lw

set_option Elab.async false
set_option linter.all false
set_option maxRecDepth 100000
set_option maxHeartbeats 4000000
/-! the suite of an except clause, read by what is known -/
namespace Lw
open PySem L2
open Evl (Ex)
/-- isinstance(e, c), e the caught error: its class cls, its dict d -/
def rIsX (K : PySem.W.Frag) (D a : Addr) (cls : Value) (d : Option Addr) : List V → Hp → VK → Prop := fun xs H Q => cls = .ref D ∧ ∃ dd fs, d = some dd ∧ H dd = some (.xd fs) ∧ rIsE K D a xs H Q
theorem call_isX {X : Cx} {a D : Addr} {cls : Value} {d : Option Addr} {oe : Obj} {pn : List (Addr × Obj)} (C : ExcC X.K D) (hz : Zc cls d oe) (hf : ∃ vs, oe.data = .fields vs) : CallR (X.suite a ((a, oe) :: pn)) (.builtin "isinstance") (rIsX X.K D a cls d) := by
  intro pins s σ H xs us Q I r h
  obtain ⟨rfl, dd, fs, rfl, hd, h⟩ := h
  exact call_isD C hz hf pins s σ H xs us Q I r ⟨⟨fs, hd⟩, h⟩
section
variable {K : PySem.W.Frag} {σ : L2.St} {G H : Hp} {te tc : TE} {D : Ends}
theorem ef_xf {a C d : Addr} {fs : List (Str × V)} {f : Str} {v : V} (h : EF te σ G (XV (.ref a))) (hd : G d = some (.xd fs)) (hl : fs.lookup f = some v) : EF (tXf a (.ref C) (some d) C f te) σ G (XV v) := fun H e Q q => h H e _ fun x G1 H1 g1 p =>
  ⟨p, rfl, d, fs, v, rfl, g1.hp _ _ (e _ _ hd), hl, q v G1 H1 g1 rfl⟩
theorem ef_isX {a C d : Addr} {fs : List (Str × V)} {c : V} {cv : Value} {b : Bool} (h : EF te σ G (XV (.ref a))) (hd : G d = some (.xd fs)) (hc : EF tc σ G (XV c)) (hv : ∀ u, RelV c u → u = cv) (hk : PySem.W.kitOne K (.ref C) cv = some b) : EF (tCB (rIsX K C a (.ref C) (some d)) (tCons te (tCons tc tNil))) σ G (XV (.bl b)) :=
  fun H e Q q => (ea_two mo_XV mo_XV h hc) H e _ fun vs G1 H1 g1 ⟨x, y, ev, hx, hy⟩ => ⟨rfl, d, fs, rfl, g1.hp _ _ (e _ _ hd), c, cv, b, by rw [ev, show x = _ from hx, show y = _ from hy], hv, hk, q _ G1 H1 g1 rfl⟩
/-- an error that the clause takes -/
theorem was_takes {cls c : Value} {d : Option Addr} {i : Nat} {ts : Addr → Value → Option Addr → TS} {Wout : WX} (hx : PySem.W.exmOne K cls c = some true)
    (k : ∀ a, H a = none → ts a cls d { nx := fun σ' H' => D.nx (List.set σ' i none) H', rt := D.rt, bk := fun σ' H' => D.bk (List.set σ' i none) H', ct := fun σ' H' => D.ct (List.set σ' i none) H' } (List.set σ i (some (.ref a))) H) : wAs K c i ts Wout D cls d σ H :=
  ⟨true, hx, fun _ => k, fun z => nomatch z⟩
/-- what is let out when it is a clause's -/
theorem rse_was {C : Addr} {c : Value} {fs : List (Str × V)} {i : Nat} {ts : Addr → Value → Option Addr → TS} {Wout : WX} (hx : PySem.W.exmOne K (.ref C) c = some true)
    (k : ∀ G' H' d a, Gr G G' H H' → H' d = none → (upd H' d (.xd fs)) a = none → ts a (.ref C) (some d) { nx := fun σ' H' => D.nx (List.set σ' i none) H', rt := D.rt, bk := fun σ' H' => D.bk (List.set σ' i none) H', ct := fun σ' H' => D.ct (List.set σ' i none) H' } (List.set σ i (some (.ref a))) (upd H' d (.xd fs))) :
    Rse C fs G H (WE (wAs K c i ts Wout D) σ) := fun G' H' d g hd => was_takes hx fun a ha => k G' H' d a g hd ha
end
end Lw

set_option Elab.async false
set_option linter.all false
set_option maxRecDepth 100000
set_option maxHeartbeats 4000000
/-! sameness of data with None, True, False in them -/
namespace Lw
open PySem L2
open Evl (Ex)
/-- data whose sameness is asked: depth at most n -/
def Okb : Nat → PyData → Prop
  | _, .none => True
  | _, .bool _ => True
  | _, .int _ => True
  | _, .str _ => True
  | n + 1, .list ds => ds.length ≤ 1000 ∧ ∀ d ∈ ds, Okb n d
  | n + 1, .tuple ds => ds.length ≤ 1000 ∧ ∀ d ∈ ds, Okb n d
  | _, _ => False
theorem okb_cases {n : Nat} {d : PyData} (h : Okb n d) : d = .none ∨ (∃ b, d = .bool b) ∨ ∃ k, kiOf d = some k := by
  cases d with
  | none => exact .inl rfl
  | bool b => exact .inr (.inl ⟨b, rfl⟩)
  | int z => exact .inr (.inr ⟨_, rfl⟩)
  | str z => exact .inr (.inr ⟨_, rfl⟩)
  | list z => exact .inr (.inr ⟨_, rfl⟩)
  | tuple z => exact .inr (.inr ⟨_, rfl⟩)
  | _ => cases n <;> exact h.elim
def spSameB (K : PySem.W.Frag) (n : Nat) : Sp := fun vs H Q _ => ∃ (G : Hp) (x : V) (y : V) (d : PyData), Ex G H ∧ vs = [x, y] ∧ Dp K G x d ∧ Dp K G y d ∧ Okb n d ∧ Ret G H (XV (.bl true)) Q
theorem sa_sameB {K : PySem.W.Frag} {G : Hp} {x y : V} {d : PyData} {n : Nat} (hx : Dp K G x d) (hy : Dp K G y d) (ho : Okb n d) : SA (spSameB K n) [x, y] G (XV (.bl true)) := fun H e Q _ q => ⟨G, x, y, d, e, rfl, hx, hy, ho, q⟩
end Lw

set_option Elab.async false
set_option linter.all false
set_option maxRecDepth 100000
set_option maxHeartbeats 4000000
/-! a layout whose lengths are told too -/
namespace Lw
open PySem L2
open Evl (Ex)
section
variable {K : PySem.W.Frag} {C : Addr}
def LayL (K : PySem.W.Frag) (C : Addr) (G : Hp) (p : Addr) (lens : List Int) (parks : List Int) (js : List (Int × Int)) : Prop := LayAt K C G p lens.length parks js ∧ ∃ dx fs l, G p = some (.ins C dx fs) ∧ fs.lookup ("_lengths" : Str) = some (.ref l) ∧ Dp K G (.ref l) (dI lens)
theorem LayL.ex {G G' : Hp} {p : Addr} {lens parks : List Int} {js : List (Int × Int)} (h : LayL K C G p lens parks js) (e : Ex G G') : LayL K C G' p lens parks js := by
  obtain ⟨h1, dx, fs, l, h2, h3, h4⟩ := h
  exact ⟨h1.ex e, dx, fs, l, e _ _ h2, h3, dpx h4 e⟩
def spInitL (K : PySem.W.Frag) (C : Addr) : Sp := fun vs H Q _ => ∃ (G : Hp) (x dx : Addr) (lens : List Int) (js : List (Int × Int)) (parks : List Int) (a1 a2 a3 : Addr), vs = [.ref x, .ref a1, .ref a2, .ref a3] ∧ Ex G H ∧ G x = none ∧ H x = some (.ins C dx []) ∧
  Dp K G (.ref a1) (dI lens) ∧ Dp K G (.ref a2) (dPs js) ∧ Dp K G (.ref a3) (dI parks) ∧ lens.length ≤ 200 ∧ (∀ z ∈ lens, 1 ≤ z) ∧ (∀ b ∈ parks, 0 ≤ b ∧ b < (lens.length : Int)) ∧ JOk (lens.length : Int) parks js ∧ js.length ≤ 900 ∧
  ∀ G' H', Gr G G' (outH H x) H' → LayL K C G' x lens parks js → Q .non H'
/-- length_of, with its error -/
def spLenX (K : PySem.W.Frag) (C CN : Addr) : Sp := fun vs H Q E => ∃ (G : Hp) (p : Addr) (lens parks : List Int) (js : List (Int × Int)) (b : Int), Ex G H ∧ vs = [.ref p, .int b] ∧ LayL K C G p lens parks js ∧ (∀ z, 0 ≤ b → lens[b.toNat]? = some z → Ret G H (XV (.int z)) Q) ∧ (¬ (0 ≤ b ∧ b < (lens.length : Int)) → Rse CN [("block", .int b)] G H E)
/-- joined, with its errors -/
def spJoinX (K : PySem.W.Frag) (C CN : Addr) : Sp := fun vs H Q E => ∃ (G : Hp) (p : Addr) (n : Nat) (parks : List Int) (js : List (Int × Int)) (b o : Int), Ex G H ∧ vs = [.ref p, .int b, .int o] ∧ LayAt K C G p n parks js ∧ (0 ≤ b ∧ b < (n : Int) → 0 ≤ o ∧ o < (n : Int) → Ret G H (XV (.bl (decide ((b, o) ∈ js)))) Q) ∧
  (¬ (0 ≤ b ∧ b < (n : Int)) → Rse CN [("block", .int b)] G H E) ∧ (0 ≤ b ∧ b < (n : Int) → ¬ (0 ≤ o ∧ o < (n : Int)) → Rse CN [("block", .int o)] G H E)
end
end Lw

set_option Elab.async false
set_option linter.all false
set_option maxRecDepth 100000
set_option maxHeartbeats 4000000
/-! a range object in a variable -/
namespace Lw
open PySem PySem.Spec PyProof.Rows L2
section
variable {X : Cx} {tg : Expr}
theorem cr_range1 : CallR X (.type "range") (fun vs H Q => ∃ j, vs = [V.int j] ∧ ∀ p, H p = none → Q (.ref p) (upd H p (.rng 0 j))) := by
  intro pins s σ H vs us Q I r h
  obtain ⟨j, rfl, q⟩ := h
  obtain ⟨u1, rfl, rj⟩ := vals1 r
  obtain ⟨t, rfl⟩ := rj
  refine call_range_1 ⟨.ref s.heap.objs.size, upd H s.heap.objs.size (.rng 0 j), I.laid (t' := s.toks + 1 + 1) (fun b o e => Heap.get?_push_of_some _ e) (Nat.le_refl _) ?_, rfl, q _ (I.hok.fresh (Nat.le_refl _))⟩
  exact ⟨s.toks, t, s.toks + 1, Heap.get?_push_size _ rfl⟩
/-- for .. in r, r a range object -/
def iRngV (te : TE) : TI := fun σ H R => te σ H fun v H1 => ∃ (a : Addr) (lo hi : Int), v = .ref a ∧ H1 a = some (.rng lo hi) ∧ (-(2 ^ 62) ≤ lo ∧ lo < 2 ^ 62 ∧ -(2 ^ 62) ≤ hi ∧ hi < 2 ^ 62) ∧ R (Itr lo (hi - lo).toNat) H1
theorem pi_rngV {e : Expr} {te : TE} (he : PE X e te) : PI X tg e (iRngV te) := by
  refine ⟨fun pins s σ H R I h => ?_⟩
  refine thn (he.run pins s σ H _ I h) fun u s1 ⟨v, H1, I1, r1, a, lo, hi, ev, ha, ⟨b1, b2, b3, b4⟩, q⟩ => ?_
  subst ev
  cases (show u = Value.ref a from r1)
  obtain ⟨t1, t2, t3, ho⟩ := I1.hok a _ ha
  refine wpAny_pyIter_range (r := a) ho (small_one b1 b2 b3 b4) ?_
  refine pi_one (tk := s1.toks) I1 _ (turn_range _ lo (hi - lo).toNat) ?_ q
  have e1 : lo + ((0 : Nat) : Int) * 1 = lo := by simp
  have e2 : (((hi - lo).toNat : Nat) : Int) - ((0 : Nat) : Int) = Builtin.Range.rangeSize lo hi 1 := by rw [rangeSize_one]; split <;> omega
  show IsRangeIter _ _ (lo + ((0 : Nat) : Int) * 1) ((((hi - lo).toNat : Nat) : Int) - ((0 : Nat) : Int)) 1
  rw [e1, e2]
  exact Heap.get?_push_size _ rfl
end
end Lw

set_option Elab.async false
set_option linter.all false
set_option maxRecDepth 100000
set_option maxHeartbeats 4000000
/-! two for's: a range object, a tuple that the turn makes; a test at the end -/
namespace Lw
open PySem L2
open Evl (Ex)
section
variable {K : PySem.W.Frag} {σ : L2.St} {G H : Hp} {tr tl te : TE} {t1 : TT} {P : VP}
theorem ef_lc2T {j j1 : Nat} {vs vs1 : List Nat} {n : Int} (ys : List V) (I : Nat → Nat → List V → Hp → Prop) (h : EF tr σ G fun v G' => ∃ a, v = .ref a ∧ G' a = some (.rng 0 n)) (hn : 0 ≤ n ∧ n ≤ 1000)
    (hw : ∀ x, wipe ((wipe σ vs).set j (some x)) vs = wipe σ vs) (hw1 : ∀ x y, wipe ((wipe ((wipe σ vs).set j (some x)) vs1).set j1 (some y)) vs1 = wipe ((wipe σ vs).set j (some x)) vs1) (h0 : ∀ G', Ex G G' → I 0 0 [] G')
    (hx : ∀ (i : Nat) xs G', (i : Int) < n → I i ys.length xs G' → I (i + 1) 0 xs G')
    (hl : ∀ (i : Nat) G', Ex G G' → (i : Int) < n → EF tl ((wipe σ vs).set j (some (.int (i : Int)))) G' fun v G'' => ∃ a, v = .ref a ∧ SqT K G'' a ys)
    (hm : ∀ i k xs G' G'', Ex G' G'' → I i k xs G' → I i k xs G'')
    (hs : ∀ (i k : Nat) y xs G', Ex G G' → (i : Int) < n → ys[k]? = some y → I i k xs G' → EC t1 te ((wipe ((wipe σ vs).set j (some (.int (i : Int)))) vs1).set j1 (some y)) G' (fun G' => I i (k + 1) xs G') fun y G' => I i (k + 1) (xs ++ [y]) G')
    (hc : ∀ i k xs G', I i k xs G' → xs.length ≤ 1000000)
    (hP : ∀ p xs G', G p = none → G' p = none → Ex G G' → I n.toNat 0 xs G' → P (.ref p) (upd G' p (.lst xs))) : EF (tLc2 (iRngV tr) (gName j) tYes (iTup K tl) (gName j1) t1 te vs vs1) σ G P := fun H0 e Q q => h H0 e _ fun v G1 H1 g1 ⟨a, ev, ha⟩ => by
  refine ⟨a, 0, n, ev, g1.ok _ _ ha, ⟨by omega, by omega, by omega, by omega⟩, fun Dl hD => ?_⟩
  have en : (n - 0).toNat = n.toNat := by omega
  rw [en]
  refine ⟨fun i m H' => m = n.toNat - i ∧ i ≤ n.toNat ∧ CX2 G1 H1 Dl (I i 0) H', ⟨n.toNat, by simp, Nat.zero_le _, ?_⟩, ?_⟩
  · exact ⟨G1, [], Ex.refl _, ex_off g1.ok (none_back g1.ok hD), none_back g1.ok hD, upd_same, h0 G1 g1.up, Ex.new hD, fun _ _ h => h⟩
  · rintro i m H' ⟨rfl, hi, p⟩
    by_cases hlt : i < n.toNat
    · refine .inr ⟨hlt, fun H'' => CX2 G1 H1 Dl (I (i + 1) 0) H'', fun H'' p' => ⟨n.toNat - (i + 1), by omega, rfl, hlt, p'⟩, fun x H'' yy => ?_⟩
      obtain ⟨ey, yy⟩ := yy
      subst ey yy
      have e0 : (0 : Int) + (i : Int) = (i : Int) := Int.zero_add _
      rw [e0]
      refine ⟨hw _, tyes_go (iteT ?_)⟩
      obtain ⟨G', xs, e1, e2, gD, hd, hI, e3, hcc⟩ := p
      refine hl i G' (g1.up.trans e1) (by omega) _ e2 _ fun v G2 H2 g2 ⟨a, ea, hsl⟩ => ?_
      refine ⟨a, ea, ⟨ys, Evl.ex_t g2.ok hsl⟩, fun k m H' => m = ys.length - k ∧ k ≤ ys.length ∧ CX2 G1 H1 Dl (fun xs G3 => Ex G2 G3 ∧ I i k xs G3) H', ⟨ys.length, by simp, Nat.zero_le _, ?_⟩, ?_⟩
      · exact ⟨G2, xs, e1.trans g2.up, g2.ok, g2.2.2.2 Dl (ne_none_of hd) gD, g2.hp _ _ hd, ⟨Ex.refl _, hm _ _ _ _ _ g2.up hI⟩, e3.trans g2.hp, fun b hb gb => g2.2.2.2 b (exNe e3 hb) (hcc b hb gb)⟩
      · rintro k m H3 ⟨rfl, hk, p3⟩
        obtain ⟨G4, xs4, f1, f2, fD, fd, ⟨fe, fI⟩, f3, fc⟩ := p3
        have hsl3 := Evl.ex_t (fe.trans f2) hsl
        by_cases hkl : k < ys.length
        · refine .inr ⟨⟨ys, ys[k], hsl3, by simp [hkl]⟩, fun H'' => CX2 G1 H1 Dl (fun xs G3 => Ex G2 G3 ∧ I i (k + 1) xs G3) H'', fun H'' p' => ⟨ys.length - (k + 1), by omega, rfl, hkl, p'⟩, fun y H'' yy => ?_⟩
          obtain ⟨ey, yy⟩ := yy
          subst ey
          have hyk := yy ys hsl3
          refine ⟨hw1 _ _, ?_⟩
          refine hs i k y xs4 G4 (g1.up.trans f1) (by omega) hyk fI _ f2 (fun o H5 => match o with | some y5 => ∃ acc, H5 Dl = some (.lst acc) ∧ acc.length < sizeLine ∧ CX2 G1 H1 Dl (fun xs G3 => Ex G2 G3 ∧ I i (k + 1) xs G3) (upd H5 Dl (.lst (acc ++ [y5]))) | none => CX2 G1 H1 Dl (fun xs G3 => Ex G2 G3 ∧ I i (k + 1) xs G3) H5) (fun H5 e5 hN => ?_) (fun v5 G5 H5 g5 p5 => ?_)
          · exact ⟨G4, xs4, f1, f2.trans e5, fD, e5 _ _ fd, ⟨fe, hN⟩, f3.trans e5, fc⟩
          · have g5D : G5 Dl = none := g5.2.2.2 Dl (ne_none_of fd) fD
            exact ⟨xs4, g5.hp _ _ fd, Nat.lt_of_le_of_lt (hc _ _ _ _ fI) (by decide), ⟨G5, xs4 ++ [v5], f1.trans g5.up, ex_off g5.ok g5D, g5D, upd_same, ⟨fe.trans g5.up, p5⟩, ex_off (f3.trans g5.hp) hD, fun b hb gb => g5.2.2.2 b (exNe f3 hb) (fc b hb gb)⟩⟩
        · have ek : k = ys.length := by omega
          subst ek
          exact .inl ⟨⟨ys, hsl3, Nat.le_refl _⟩, G4, xs4, f1, f2, fD, fd, hx _ _ _ (by omega) fI, f3, fc⟩
    · have ei : i = n.toNat := by omega
      subst ei
      refine .inl ⟨Nat.le_refl _, ?_⟩
      obtain ⟨G', xs, e1, e2, gD, hd, hI, e3, hcc⟩ := p
      refine q _ (upd G' Dl (.lst xs)) H' (g1.trans ⟨e1.trans (ex_in gD), ex_know e2 hd, e3, fun a h g => ?_⟩) (hP Dl xs G' (none_back (g1.up.trans g1.ok) hD) gD (g1.up.trans e1) hI)
      rw [upd_ne (fun z => h (by rw [z]; exact hD))]
      exact hcc a h g
end
end Lw

set_option Elab.async false
set_option linter.all false
set_option maxRecDepth 100000
set_option maxHeartbeats 4000000
/-! a try's body that tells, its clause that tells the error -/
namespace Lw
open PySem L2
open Evl (Ex)
section
variable {K : PySem.W.Frag} {σ : L2.St} {G H : Hp} {te ta tb : TE} {P : VP} {D : Ends}
/-- te returns a v with P at this very heap (what it lets out is met) -/
def TR (te : TE) (σ : L2.St) (G H : Hp) (P : VP) : Prop := ∀ Q : VK, (∀ v G' H', Gr G G' H H' → P v G' → Q v H') → te σ H Q
theorem st_told {s : Str} (h : TR te σ G H P) (k : ∀ q v G' H', Gr G G' H H' → P v G' → H' q = none → D.rt (.ref q) (upd H' q (.tup [.str s, v]))) : tRet (tTup (tCons (tC (.str s)) (tCons te tNil))) D σ H :=
  h (fun v H' => [V.str s, v].length ≤ sizeLine ∧ ∀ p, H' p = none → D.rt (.ref p) (upd H' p (.tup [.str s, v]))) fun v G' H' g p => ⟨by show 2 ≤ sizeLine; decide, fun q hq => k q v G' H' g p hq⟩
theorem tr_meth1 {C a : Addr} {m : Str} {sp : Sp} {E : L2.St → XK} {i j : Nat} {y : V} (hG : Ex G H) (ho : σ[i]? = some (some (.ref a))) (hI : ∃ dx fs, G a = some (.ins C dx fs) ∧ fs.lookup m = none) (hb : σ[j]? = some (some y)) (k : ∀ Q : VK, (∀ v G' H', Gr G G' H H' → P v G' → Q v H') → sp [.ref a, y] H Q (E σ)) :
    TR (tMethX C m sp [] E (tVar i) (tCons (tVar j) tNil)) σ G H P := fun Q q => by
  obtain ⟨dx, fs, h1, h2⟩ := hI
  exact ⟨.ref a, ho, a, dx, fs, rfl, hG _ _ h1, h2, y, hb, k Q q⟩
theorem tr_meth2 {C a : Addr} {m : Str} {sp : Sp} {E : L2.St → XK} {i j : Nat} {y z : V} (hG : Ex G H) (ho : σ[i]? = some (some (.ref a))) (hI : ∃ dx fs, G a = some (.ins C dx fs) ∧ fs.lookup m = none) (hb : σ[j]? = some (some y)) (hz : ∀ (H : Hp) (Q : VK), Q z H → tb σ H Q) (k : ∀ Q : VK, (∀ v G' H', Gr G G' H H' → P v G' → Q v H') → sp [.ref a, y, z] H Q (E σ)) :
    TR (tMethX C m sp [] E (tVar i) (tCons (tVar j) (tCons tb tNil))) σ G H P := fun Q q => by
  obtain ⟨dx, fs, h1, h2⟩ := hI
  exact ⟨.ref a, ho, a, dx, fs, rfl, hG _ _ h1, h2, y, hb, hz _ _ (k Q q)⟩
theorem tr_kw1 {C a : Addr} {m : Str} {sp : Sp} {gV : List V → List V → List V} {E : L2.St → XK} {i j : Nat} {y z : V} (hG : Ex G H) (ho : σ[i]? = some (some (.ref a))) (hI : ∃ dx fs, G a = some (.ins C dx fs) ∧ fs.lookup m = none) (hb : σ[j]? = some (some y)) (hz : ∀ (H : Hp) (Q : VK), Q z H → tb σ H Q) (k : ∀ Q : VK, (∀ v G' H', Gr G G' H H' → P v G' → Q v H') → sp (gV [.ref a, y] [z]) H Q (E σ)) :
    TR (tMethKX C m sp gV E (tVar i) (tCons (tVar j) tNil) (tCons tb tNil)) σ G H P := fun Q q => by
  obtain ⟨dx, fs, h1, h2⟩ := hI
  exact ⟨.ref a, ho, a, dx, fs, rfl, hG _ _ h1, h2, y, hb, hz _ _ (k Q q)⟩
theorem tr_kw0 {C a : Addr} {m : Str} {sp : Sp} {gV : List V → List V → List V} {E : L2.St → XK} {i : Nat} {y z : V} (hG : Ex G H) (ho : σ[i]? = some (some (.ref a))) (hI : ∃ dx fs, G a = some (.ins C dx fs) ∧ fs.lookup m = none) (hy : ∀ (H : Hp) (Q : VK), Q y H → ta σ H Q) (hz : ∀ (H : Hp) (Q : VK), Q z H → tb σ H Q) (k : ∀ Q : VK, (∀ v G' H', Gr G G' H H' → P v G' → Q v H') → sp (gV [.ref a] [y, z]) H Q (E σ)) :
    TR (tMethKX C m sp gV E (tVar i) tNil (tCons ta (tCons tb tNil))) σ G H P := fun Q q => by
  obtain ⟨dx, fs, h1, h2⟩ := hI
  exact ⟨.ref a, ho, a, dx, fs, rfl, hG _ _ h1, h2, hy _ _ (hz _ _ (k Q q))⟩
theorem ea_x {x : V} {tr : TA} {xs : List V} (ha : EF ta σ G (XV x)) (hr : EA tr σ G fun vs _ => vs = xs) : EA (tCons ta tr) σ G fun vs _ => vs = x :: xs := ea_cons (Pa := XV x) mo_XV (fun vs G G' e h => h) ha hr fun y ys G' _ hy hys => by rw [show y = _ from hy, hys]
/-- what a clause tells of an error with one int -/
def errD (nm : Str) (b : Int) (r1 r2 r3 : Bool) : PyData := .tuple [.str nm, .int b, .bool r1, .bool r2, .bool r3]
theorem st_err {nm f : Str} {C a d : Addr} {b : Int} {c1 c2 c3 : V} {v1 v2 v3 : Value} {r1 r2 r3 : Bool} {i : Nat} (hG : Ex G H) (hd : G d = some (.xd [(f, .int b)])) (hi : σ[i]? = some (some (.ref a)))
    (h1 : ∀ u, RelV c1 u → u = v1) (h2 : ∀ u, RelV c2 u → u = v2) (h3 : ∀ u, RelV c3 u → u = v3) (k1 : PySem.W.kitOne K (.ref C) v1 = some r1) (k2 : PySem.W.kitOne K (.ref C) v2 = some r2) (k3 : PySem.W.kitOne K (.ref C) v3 = some r3)
    (k : ∀ v G' H', Gr G G' H H' → Dp K G' v (errD nm b r1 r2 r3) → D.rt v H') :
    tRet (tTup (tCons (tC (.str nm)) (tCons (tXf a (.ref C) (some d) C f (tVar i)) (tCons (tCB (rIsX K C a (.ref C) (some d)) (tCons (tVar i) (tCons (tC c1) tNil))) (tCons (tCB (rIsX K C a (.ref C) (some d)) (tCons (tVar i) (tCons (tC c2) tNil))) (tCons (tCB (rIsX K C a (.ref C) (some d)) (tCons (tVar i) (tCons (tC c3) tNil))) tNil)))))) D σ H := by
  have hl : List.lookup f [(f, V.int b)] = some (.int b) := by simp [List.lookup]
  refine st_ret (P := DV K (errD nm b r1 r2 r3)) hG (ef_tup (ea_x ex_c (ea_x (ef_xf (ex_var hi) hd hl) (ea_x (ef_isX (ex_var hi) hd ex_c h1 k1) (ea_x (ef_isX (ex_var hi) hd ex_c h2 k2) (ea_x (ef_isX (ex_var hi) hd ex_c h3 k3) ea_nil))))) (fun vs _ h => by rw [h]; simp) fun q vs G' _ _ _ ev => ?_) fun v G' H' g p => k v G' H' g p
  exact dp_mkT upd_same (by rw [ev]; exact .cons (.str _) (.cons (.int _) (.cons (.bl _) (.cons (.bl _) (.cons (.bl _) .nil)))))
end
end Lw

set_option Elab.async false
set_option linter.all false
set_option maxRecDepth 100000
set_option maxHeartbeats 4000000
/-! tracks that are changed; slices, sums of lists, lists of ranges -/
namespace Lw
open PySem L2
open Evl (Ex)
theorem JOk.most {n : Int} {parks : List Int} {js : List (Int × Int)} (h : JOk n parks js) : ∀ b, b ∉ parks → (eo js b).length ≤ 2 ∧ (wo js b).length ≤ 2 := by
  induction h with
  | nil => intro b _; exact ⟨by simp [eo], by simp [wo]⟩
  | snoc hj hn ih =>
    rename_i js w e
    intro b hb
    obtain ⟨h1, h2⟩ := ih b hb
    constructor
    · by_cases c : w = b
      · subst c
        rw [eo_snoc_same, List.length_append, List.length_singleton]
        have := hn.ew hb
        omega
      · rw [eo_snoc_ne js c]; exact h1
    · by_cases c : e = b
      · subst c
        rw [wo_snoc_same, List.length_append, List.length_singleton]
        have := hn.we hb
        omega
      · rw [wo_snoc_ne js c]; exact h2
theorem eo_sub {js ks : List (Int × Int)} (h : js.Sublist ks) (b : Int) : (eo js b).length ≤ (eo ks b).length := by
  unfold eo
  rw [List.length_map, List.length_map]
  exact (h.filter _).length_le
theorem wo_sub {js ks : List (Int × Int)} (h : js.Sublist ks) (b : Int) : (wo js b).length ≤ (wo ks b).length := by
  unfold wo
  rw [List.length_map, List.length_map]
  exact (h.filter _).length_le
theorem JOk.sub {n : Int} {parks : List Int} {js : List (Int × Int)} (h : JOk n parks js) : ∀ {ks : List (Int × Int)}, ks.Sublist js → JOk n parks ks := by
  induction h with
  | nil => intro ks hs; rw [List.sublist_nil.mp hs]; exact .nil
  | snoc hj hn ih =>
    rename_i js w e
    intro ks hs
    obtain ⟨l1, l2, rfl, h1, h2⟩ := List.sublist_append_iff.mp hs
    have c : l2 = [] ∨ l2 = [(w, e)] := by
      cases l2 with
      | nil => exact .inl rfl
      | cons x r =>
        have hl := h2.length_le
        have hr : r = [] := by
          cases r with
          | nil => rfl
          | cons y r => simp at hl
        subst hr
        have m := h2.subset (List.mem_cons_self (a := x) (l := []))
        right
        simpa using m
    rcases c with rfl | rfl
    · rw [List.append_nil]; exact ih h1
    · refine .snoc (ih h1) ⟨hn.lo, hn.lt, hn.hi, fun m => hn.new (h1.subset m), fun z => ?_, fun z => ?_⟩
      · have a := hn.ew z
        have b := (hj.most w z).1
        have c := eo_sub h1 w
        omega
      · have a := hn.we z
        have b := (hj.most e z).2
        have c := wo_sub h1 e
        omega
theorem JOk.parks {n : Int} {parks parks2 : List Int} {js : List (Int × Int)} (h : JOk n parks js) (hs : ∀ b, 0 ≤ b → b < n → b ∈ parks → b ∈ parks2) : JOk n parks2 js := by
  induction h with
  | nil => exact .nil
  | snoc hj hn ih =>
    have l1 := hn.lo
    have l2 := hn.lt
    have l3 := hn.hi
    exact .snoc ih ⟨hn.lo, hn.lt, hn.hi, hn.new, fun z => hn.ew fun y => z (hs _ (by omega) (by omega) y), fun z => hn.we fun y => z (hs _ (by omega) (by omega) y)⟩
def mnI (a b : Int) : Int := if b < a then b else a
def mxI (a b : Int) : Int := if b > a then b else a
/-- a block joined to all others: the joints to the first i blocks -/
def nwJ (hub : Int) : Nat → List (Int × Int)
  | 0 => []
  | i + 1 => nwJ hub i ++ (if (i : Int) = hub then [] else [(mnI hub (i : Int), mxI hub (i : Int))])
theorem nwJ_len (hub : Int) : ∀ i, (nwJ hub i).length ≤ i
  | 0 => Nat.le_refl _
  | i + 1 => by
    have := nwJ_len hub i
    unfold nwJ
    rw [List.length_append]
    split
    · simp; omega
    · simp; omega
theorem throat_ok {n : Nat} {parks : List Int} {kept : List (Int × Int)} {hub : Int} (hk : JOk (n : Int) parks kept) (hh : hub ∈ parks) (h0 : 0 ≤ hub) (h1 : hub < (n : Int)) (no : ∀ p ∈ kept, p.1 ≠ hub ∧ p.2 ≠ hub)
    (hc : (hub = 0 ∧ ∀ b : Int, 0 ≤ b → b < (n : Int) → b ∉ parks → (wo kept b).length ≠ 2) ∨ (hub = (n : Int) - 1 ∧ ∀ b : Int, 0 ≤ b → b < (n : Int) → b ∉ parks → (eo kept b).length ≠ 2)) :
    ∀ i : Nat, i ≤ n → JOk (n : Int) parks (kept ++ nwJ hub i) ∧ ∀ p ∈ nwJ hub i, (p.1 = hub ∧ p.2 < (i : Int)) ∨ (p.2 = hub ∧ p.1 < (i : Int)) := by
  intro i
  induction i with
  | zero =>
    intro _
    refine ⟨?_, fun p m => ?_⟩
    · show JOk (n : Int) parks (kept ++ [])
      rw [List.append_nil]; exact hk
    · cases m
  | succ i ih =>
    intro hi
    obtain ⟨q1, q2⟩ := ih (by omega)
    unfold nwJ
    by_cases c : (i : Int) = hub
    · rw [if_pos c, List.append_nil]
      exact ⟨q1, fun p m => by have := q2 p m; omega⟩
    · rw [if_neg c, ← List.append_assoc]
      refine ⟨?_, fun p m => ?_⟩
      · rcases hc with ⟨rfl, hw⟩ | ⟨rfl, he⟩
        · have e1 : mnI 0 (i : Int) = 0 := by unfold mnI; split <;> omega
          have e2 : mxI 0 (i : Int) = (i : Int) := by unfold mxI; split <;> omega
          rw [e1, e2]
          refine .snoc q1 ⟨by omega, by omega, by omega, fun m => ?_, fun z => absurd hh z, fun z => ?_⟩
          · rcases List.mem_append.mp m with m | m
            · exact (no _ m).1 rfl
            · have := q2 _ m
              simp only at this
              omega
          · have e3 : wo (nwJ 0 i) (i : Int) = [] := by
              unfold wo
              rw [List.map_eq_nil_iff, List.filter_eq_nil_iff]
              intro p m hp
              have e4 := of_decide_eq_true hp
              have := q2 p m
              omega
            have e5 : wo (kept ++ nwJ 0 i) (i : Int) = wo kept (i : Int) := by
              have : wo (kept ++ nwJ 0 i) (i : Int) = wo kept (i : Int) ++ wo (nwJ 0 i) (i : Int) := by
                unfold wo
                rw [List.filter_append, List.map_append]
              rw [this, e3, List.append_nil]
            rw [e5]
            exact hw _ (by omega) (by omega) z
        · have e1 : mnI ((n : Int) - 1) (i : Int) = (i : Int) := by unfold mnI; split <;> omega
          have e2 : mxI ((n : Int) - 1) (i : Int) = (n : Int) - 1 := by unfold mxI; split <;> omega
          rw [e1, e2]
          refine .snoc q1 ⟨by omega, by omega, by omega, fun m => ?_, fun z => ?_, fun z => absurd hh z⟩
          · rcases List.mem_append.mp m with m | m
            · exact (no _ m).2 rfl
            · have := q2 _ m
              simp only at this
              omega
          · have e3 : eo (nwJ ((n : Int) - 1) i) (i : Int) = [] := by
              unfold eo
              rw [List.map_eq_nil_iff, List.filter_eq_nil_iff]
              intro p m hp
              have e4 := of_decide_eq_true hp
              have := q2 p m
              omega
            have e5 : eo (kept ++ nwJ ((n : Int) - 1) i) (i : Int) = eo kept (i : Int) := by
              have : eo (kept ++ nwJ ((n : Int) - 1) i) (i : Int) = eo kept (i : Int) ++ eo (nwJ ((n : Int) - 1) i) (i : Int) := by
                unfold eo
                rw [List.filter_append, List.map_append]
              rw [this, e3, List.append_nil]
            rw [e5]
            exact he _ (by omega) (by omega) z
      · rcases List.mem_append.mp m with m | m
        · have := q2 p m
          omega
        · have e : p = (mnI hub (i : Int), mxI hub (i : Int)) := by simpa using m
          subst e
          simp only
          unfold mnI mxI
          split <;> split <;> omega
section
variable {K : PySem.W.Frag} {C : Addr} {σ : L2.St} {G G' H H' : Hp} {ta tb te tc tr : TE} {P : VP} {D : Ends}
/-- a drawn track with few joints -/
def TVB (K : PySem.W.Frag) (m : Int) : VP := fun v G => ∃ t, TrkOk t ∧ (t.lens.length : Int) ≤ m ∧ t.joints.length ≤ 2 * t.lens.length ∧ Dp K G v (dT t)
def spTrackB (K : PySem.W.Frag) : Sp := fun vs H Q _ => ∃ (G : Hp) (c : Int) (m : Int), Ex G H ∧ vs = [.int c, .int m] ∧ 2 ≤ m ∧ m ≤ 60 ∧ Ret G H (TVB K m) Q
theorem sa_trackB {c m : Int} (h1 : 2 ≤ m) (h2 : m ≤ 60) : SA (spTrackB K) [.int c, .int m] G (TVB K m) := fun H e Q _ q => ⟨G, c, m, e, rfl, h1, h2, q⟩
theorem mo_TVB {m} : Mo (TVB K m) := fun _ _ _ e ⟨t, h, l, b, d⟩ => ⟨t, h, l, b, dpx d e⟩
/-- x in, x not in a tuple of two ints -/
theorem eqV_int (a b : Int) : eqV (.int a) (.int b) = decide (a = b) := by
  by_cases h : a = b
  · subst h; simp [eqV]
  · simp [eqV, h]
theorem ex_niP {q : Int × Int} {v : V} {z : Int} (ha : EF ta σ G (XV (.int z))) (hb : EF tb σ G (XV v)) (hv : Dp K G v (dP q)) : EF (tOp (rIn K true) ta tb) σ G (XV (.bl (!decide (z = q.1 ∨ z = q.2)))) := by
  obtain ⟨t, xs, rfl, hs, hd⟩ := dp_tup hv
  have ex := dpa_ints_eq (zs := [q.1, q.2]) hd
  subst ex
  refine ef_op mo_XV mo_XV ha hb fun x y G' e hx hy => ?_
  cases (show x = _ from hx)
  cases (show y = _ from hy)
  refine fun H e2 Q k => ⟨t, _, rfl, .inr (Evl.ex_t (e.trans e2) hs), rfl, rfl, k _ G' H (.refl e2) ?_⟩
  show V.bl _ = V.bl _
  rw [if_pos rfl]
  unfold inV
  simp only [List.map_cons, List.map_nil, List.any_cons, List.any_nil, eqV_int, Bool.or_false]
  have e3 : (decide (q.1 = z) || decide (q.2 = z)) = decide (z = q.1 ∨ z = q.2) := by
    rw [Bool.eq_iff_iff]
    simp only [Bool.or_eq_true, decide_eq_true_eq]
    exact ⟨fun h => h.elim (fun h => .inl h.symm) fun h => .inr h.symm, fun h => h.elim (fun h => .inl h.symm) fun h => .inr h.symm⟩
  rw [e3]
/-- a list that stands in the heap as such -/
def LS (K : PySem.W.Frag) (ds : List PyData) : VP := fun v G => ∃ l xs, v = .ref l ∧ G l = some (.lst xs) ∧ DpAll K G xs ds
theorem mo_LS {ds : List PyData} : Mo (LS K ds) := fun v G G' e ⟨l, xs, ev, h, d⟩ => ⟨l, xs, ev, e _ _ h, dpax d e⟩
theorem LS.dp {ds : List PyData} {v : V} (h : LS K ds v G) : Dp K G v (.list ds) := by
  obtain ⟨l, xs, rfl, h, d⟩ := h
  exact dp_mkL h d
theorem EF.ls_dv {ds : List PyData} (h : EF te σ G (LS K ds)) : EF te σ G (DV K (.list ds)) := h.imp fun v G' _ p => p.dp
theorem el_cat {ls ms : List PyData} (ha : EF ta σ G (LS K ls)) (hb : EF tb σ G (LS K ms)) (hz : ls.length + ms.length ≤ 100000) : EF (tOp rCat ta tb) σ G (LS K (ls ++ ms)) :=
  ef_op mo_LS mo_LS ha hb fun x y G' e ⟨l, xs, ex, h1, d1⟩ ⟨b, ys, ey, h2, d2⟩ => fun H e2 Q k => by
    refine ⟨l, b, xs, ys, ex, ey, e2 _ _ h1, e2 _ _ h2, ?_, fun p hp => k _ _ _ (.new e2 hp) ⟨p, _, rfl, upd_same, ?_⟩⟩
    · rw [dpa_len d1, dpa_len d2]
      exact Nat.le_trans hz (by decide)
    · have e3 := ex_in (o := .lst (xs ++ ys)) (none_back e2 hp)
      exact dpa_app (dpax d1 e3) (dpax d2 e3)
where
  dpa_app {G : Hp} : ∀ {vs us : List V} {ds es : List PyData}, DpAll K G vs ds → DpAll K G us es → DpAll K G (vs ++ us) (ds ++ es)
    | _, _, _, _, .nil, h => h
    | _, _, _, _, .cons a r, h => .cons a (dpa_app r h)
theorem el_list {ds : List PyData} (ha : EF ta σ G (DV K (.list ds))) : EF (tCB (Evl.rListS K) (tCons ta tNil)) σ G (LS K ds) := (ed_list ha).imp fun v G' _ ⟨p, xs, ev, _, hp, hd⟩ => ⟨p, xs, ev, hp, hd⟩
theorem el_lst {ta : TA} {R : List V → Hp → Prop} {ds : List PyData} (h : EA ta σ G R) (hl : ds.length ≤ 1000) (hR : ∀ vs G', Ex G G' → R vs G' → DpAll K G' vs ds) : EF (tLst ta) σ G (LS K ds) := fun H e Q q =>
  h H e _ fun vs G1 H1 g1 p1 => by
    have d := hR vs G1 g1.up p1
    exact ⟨by rw [dpa_len d]; exact Nat.le_trans hl (by decide), fun p hp => q _ _ _ (g1.trans (.new g1.ok hp)) ⟨p, vs, rfl, upd_same, dpax d (ex_in (none_back g1.ok hp))⟩⟩
def rgI (n : Nat) : List Int := (List.range n).map fun b => ((b : Nat) : Int)
/-- list(range(n)) -/
theorem el_rg {n : Nat} (ha : EF ta σ G (XV (.int (n : Int)))) (hn : n ≤ 100000) : EF (tLstRg (tRg1 ta)) σ G (LS K ((rgI n).map PyData.int)) := fun H e Q q => ha H e _ fun x G1 H1 g1 hx => by
  refine ⟨(n : Int), hx, ⟨by omega, by omega, by omega, by omega, by omega⟩, fun p hp => ?_⟩
  refine q _ _ _ (g1.trans (.new g1.ok hp)) ⟨p, _, rfl, upd_same, ?_⟩
  have ev : rgV 0 (n : Int) = (rgI n).map V.int := by
    unfold rgV rgI
    have e0 : ((n : Int) - 0).toNat = n := by omega
    rw [e0, List.map_map]
    refine List.map_congr_left fun b _ => ?_
    show V.int _ = V.int _
    rw [Int.zero_add]
  rw [ev]
  exact dpa_ints _
theorem mem_rgI {n : Nat} {b : Int} : b ∈ rgI n ↔ 0 ≤ b ∧ b < (n : Int) := by
  unfold rgI
  rw [List.mem_map]
  constructor
  · rintro ⟨a, m, rfl⟩
    have := List.mem_range.mp m
    omega
  · intro h
    exact ⟨b.toNat, List.mem_range.mpr (by omega), by omega⟩
theorem rgI_len {n : Nat} : (rgI n).length = n := by unfold rgI; rw [List.length_map, List.length_range]
/-- xs[k:], k written -/
theorem cutV_from {xs : List V} {k : Nat} : cutV xs (some (k : Int)) none = xs.drop k := by
  unfold cutV
  rw [HT.sIx_nat, HT.sIx_none, List.take_of_length_le (by rw [List.length_drop]; exact Nat.le_refl _)]
  by_cases h : k ≤ xs.length
  · rw [Nat.min_eq_left h]
  · rw [Nat.min_eq_right (by omega), List.drop_of_length_le (Nat.le_refl _), List.drop_of_length_le (by omega)]
theorem cutV_to {xs : List V} {k : Nat} : cutV xs none (some (k : Int)) = xs.take k := by
  unfold cutV
  rw [HT.sIx_nat, HT.sIx_none, List.drop_zero, Nat.sub_zero]
  by_cases h : k ≤ xs.length
  · rw [Nat.min_eq_left h]
  · rw [Nat.min_eq_right (by omega), List.take_of_length_le (Nat.le_refl _), List.take_of_length_le (by omega)]
theorem dpa_drop {G : Hp} : ∀ {vs : List V} {ds : List PyData} (k : Nat), DpAll K G vs ds → DpAll K G (vs.drop k) (ds.drop k)
  | _, _, 0, h => h
  | _, _, k + 1, .nil => .nil
  | _, _, k + 1, .cons _ r => dpa_drop k r
theorem dpa_take {G : Hp} : ∀ {vs : List V} {ds : List PyData} (k : Nat), DpAll K G vs ds → DpAll K G (vs.take k) (ds.take k)
  | _, _, 0, h => .nil
  | _, _, k + 1, .nil => .nil
  | _, _, k + 1, .cons a r => .cons a (dpa_take k r)
theorem el_from {ds : List PyData} {k : Nat} (ha : EF ta σ G (DV K (.list ds))) (hb : EF tb σ G (XV (.int (k : Int)))) : EF (tSl (rSlL K) ta (tPart tb) tNoPart) σ G (LS K (ds.drop k)) := fun H e Q q => ha H e _ fun x G1 H1 g1 hx => hb H1 (g1.up.trans g1.ok) _ fun y G2 H2 g2 hy => by
  obtain ⟨a, xs, rfl, hs, hall⟩ := dp_lst hx
  obtain ⟨G3, e1, e2, g3⟩ := g1.join g2
  refine ⟨(k : Int), hy, a, xs, rfl, Evl.ex_l (e1.trans g3.ok) hs, fun p hp => ?_⟩
  refine q _ _ _ (g3.trans (.new g3.ok hp)) ⟨p, _, rfl, upd_same, ?_⟩
  rw [cutV_from]
  exact dpa_drop k (dpax hall (e1.trans (ex_in (none_back g3.ok hp))))
theorem el_to {ds : List PyData} {k : Nat} (ha : EF ta σ G (DV K (.list ds))) (hb : EF tb σ G (XV (.int (k : Int)))) : EF (tSl (rSlL K) ta tNoPart (tPart tb)) σ G (LS K (ds.take k)) := fun H e Q q => ha H e _ fun x G1 H1 g1 hx => hb H1 (g1.up.trans g1.ok) _ fun y G2 H2 g2 hy => by
  obtain ⟨a, xs, rfl, hs, hall⟩ := dp_lst hx
  obtain ⟨G3, e1, e2, g3⟩ := g1.join g2
  refine ⟨(k : Int), hy, a, xs, rfl, Evl.ex_l (e1.trans g3.ok) hs, fun p hp => ?_⟩
  refine q _ _ _ (g3.trans (.new g3.ok hp)) ⟨p, _, rfl, upd_same, ?_⟩
  rw [cutV_to]
  exact dpa_take k (dpax hall (e1.trans (ex_in (none_back g3.ok hp))))
end
end Lw

set_option Elab.async false
set_option linter.all false
set_option maxRecDepth 100000
set_option maxHeartbeats 4000000
/-! over a list that is made; lists of ints that are mapped; rows of tracks -/
namespace Lw
open PySem L2
open Evl (Ex)
section
variable {K : PySem.W.Frag} {C : Addr} {σ : L2.St} {G G' H H' : Hp} {ta tb te tc tr tl : TE} {P : VP} {D : Ends} {tu : TS} {g : TG}
theorem st_forD {xs : List V} (hG : Ex G H) (h : EF tl σ G fun v G' => ∃ a, v = .ref a ∧ SqL K G' a xs) (W : Nat → L2.St → Hp → Prop) (h0 : ∀ H', Ex H H' → W 0 σ H')
    (hs : ∀ i x σ' H' H1, xs[i]? = some x → W i σ' H' → Ex H1 H' → g x σ' H' fun σ2 H2 => tu { D with nx := fun s h => W (i + 1) s h ∧ Ex H1 h, ct := fun s h => W (i + 1) s h ∧ Ex H1 h, bk := D.nx } σ2 H2) (hd : ∀ σ' H', W xs.length σ' H' → D.nx σ' H') : tFor (iList K tl) g tu D σ H :=
  h H hG _ fun v G1 H1 g1 ⟨a, e, hx⟩ => ⟨a, e, ⟨xs, Evl.ex_l g1.ok hx⟩, for_list (fun i s h => W i s h ∧ Ex H1 h) ⟨h0 H1 g1.hp, Ex.refl _⟩ (fun i σ' H' _ w => Evl.ex_l (g1.ok.trans w.2) hx) (fun i x σ' H' hi w => hs i x σ' H' H1 hi w.1 w.2) fun σ' H' w => hd σ' H' w.1⟩
theorem el_mapI {ns : List Int} {g : Int → Int} {j : Nat} (h : EF tl σ G (DV K (dI ns))) (hn : ns.length ≤ 40000) (hw : ∀ x, wipe ((wipe σ [j]).set j (some x)) [j] = wipe σ [j]) (hs : ∀ G' z, Ex G G' → z ∈ ns → EF te ((wipe σ [j]).set j (some (.int z))) G' (XV (.int (g z)))) :
    EF (tLc (iList K tl) (gName j) tYes te [j]) σ G (LS K ((ns.map g).map PyData.int)) := by
  refine ef_lcL (xs := ns.map V.int) (fun i acc G' => DpAll K G' acc (((ns.take i).map g).map PyData.int)) (h.imp fun v G' e p => ?_) (by rw [List.length_map]; exact hn) hw (fun G' _ => .nil) (fun i x acc G' e1 hi hI => ?_) (fun p acc G' h1 h2 _ _ hI => ⟨p, acc, rfl, upd_same, ?_⟩)
  · obtain ⟨a, xs, rfl, hs, hd⟩ := dp_lst p
    have e := dpa_ints_eq hd
    subst e
    exact ⟨a, rfl, hs⟩
  · rw [List.getElem?_map] at hi
    obtain ⟨z, hz, rfl⟩ := Option.map_eq_some_iff.mp hi
    refine ec_all ((hs G' z e1 (List.mem_of_getElem? hz)).imp fun v G2 e2 p => ?_)
    rw [take_next hz, List.map_append, List.map_append]
    rw [show v = _ from p]
    exact dpa_snoc (dpax hI e2) (.int _)
  · rw [List.length_map, List.take_length] at hI
    exact dpax hI (ex_in h2)
theorem ed_t0 {t : Trk} {i : Nat} {v : V} (h : σ[i]? = some (some v)) (d : Dp K G v (dT t)) : EF (tOp (rIxT K) (tVar i) (tC (.int 0))) σ G (DV K (dI t.lens)) := ed_ixT (q := (· = 0)) (ef_var h d) (EF.iv ex_c) fun i hi => ⟨0, _, hi, rfl, fun v G' d => d⟩
theorem ed_t1 {t : Trk} {i : Nat} {v : V} (h : σ[i]? = some (some v)) (d : Dp K G v (dT t)) : EF (tOp (rIxT K) (tVar i) (tC (.int 1))) σ G (DV K (dPs t.joints)) := ed_ixT (q := (· = 1)) (ef_var h d) (EF.iv ex_c) fun i hi => ⟨1, _, hi, rfl, fun v G' d => d⟩
theorem ed_t2 {t : Trk} {i : Nat} {v : V} (h : σ[i]? = some (some v)) (d : Dp K G v (dT t)) : EF (tOp (rIxT K) (tVar i) (tC (.int 2))) σ G (DV K (dI t.parks)) := ed_ixT (q := (· = 2)) (ef_var h d) (EF.iv ex_c) fun i hi => ⟨2, _, hi, rfl, fun v G' d => d⟩
theorem ex_pow {a b : Int} (ha : EF ta σ G (XV (.int a))) (hb : EF tb σ G (XV (.int b))) (hc : CPow a b) : EF (tOp (rI CPow fun i j => .int (i ^ j.toNat)) ta tb) σ G (XV (.int (a ^ b.toNat))) := ef_op mo_XV mo_XV ha hb fun x y G' _ hx hy => by
  cases (show x = _ from hx)
  cases (show y = _ from hy)
  exact ro_I hc rfl
theorem ex_sub {a b : Int} (ha : EF ta σ G (XV (.int a))) (hb : EF tb σ G (XV (.int b))) : EF (tOp (rI0 fun i j => .int (i - j)) ta tb) σ G (XV (.int (a - b))) := ef_op mo_XV mo_XV ha hb fun x y G' _ hx hy => by
  cases (show x = _ from hx)
  cases (show y = _ from hy)
  exact ro_I0 rfl
theorem ex_mul {a b : Int} (ha : EF ta σ G (XV (.int a))) (hb : EF tb σ G (XV (.int b))) (hc : CMul a b) : EF (tOp (rI CMul fun i j => .int (i * j)) ta tb) σ G (XV (.int (a * b))) := ef_op mo_XV mo_XV ha hb fun x y G' _ hx hy => by
  cases (show x = _ from hx)
  cases (show y = _ from hy)
  exact ro_I hc rfl
theorem et_orD {t u : TT} {a b : Prop} [Decidable a] [Decidable b] (h1 : ET t σ G (· = decide a)) (h2 : ET u σ G (· = decide b)) : ET (tOr t u) σ G (· = decide (a ∨ b)) := et_or (p := (· = decide a)) (q := (· = decide b)) h1 (fun _ => h2) (fun h => (decide_eq_true (.inl (of_decide_eq_true h.symm))).symm) (fun h c hc => by
  have := of_decide_eq_false h.symm
  rw [hc]
  by_cases q : b
  · rw [decide_eq_true q, decide_eq_true (.inr q)]
  · rw [decide_eq_false q, decide_eq_false fun z => z.elim this q])
theorem et_andD {t u : TT} {a b : Prop} [Decidable a] [Decidable b] (h1 : ET t σ G (· = decide a)) (h2 : a → ET u σ G (· = decide b)) : ET (tAnd t u) σ G (· = decide (a ∧ b)) := et_and (p := (· = decide a)) (q := (· = decide b)) h1 (fun h => h2 (of_decide_eq_true h.symm)) (fun h c hc => by
  have := of_decide_eq_true h.symm
  rw [hc]
  by_cases q : b
  · rw [decide_eq_true q, decide_eq_true ⟨this, q⟩]
  · rw [decide_eq_false q, decide_eq_false fun z => q z.2]) (fun h => (decide_eq_false fun z => of_decide_eq_false h.symm z.1).symm)
theorem et_inI {a : Int} {l : List Int} (ha : EF ta σ G (XV (.int a))) (hb : EF tb σ G (DV K (dI l))) : ET (tTest (tOp (rInD K) ta tb)) σ G (· = decide (a ∈ l)) :=
  et_test ((ed_inD (d := .int a) (ds := l.map PyData.int) (EF.dv ha (.int a)) hb (sh_int _) (sh_ints _)).imp fun v _ _ ⟨b, e, hb⟩ => ⟨b, e, by rw [hb, any_int]⟩)
theorem et_ltI {a b : Int} (ha : EF ta σ G (XV (.int a))) (hb : EF tb σ G (XV (.int b))) : ET (tTest (tOp (rI0 fun i j => .bl (decide (i < j))) ta tb)) σ G (· = decide (a < b)) := et_test (ec_int (f := fun i j => decide (i < j)) (EF.iv ha) (EF.iv hb) fun x y hx hy => by rw [hx, hy])
theorem et_leI {a b : Int} (ha : EF ta σ G (XV (.int a))) (hb : EF tb σ G (XV (.int b))) : ET (tTest (tOp (rI0 fun i j => .bl (decide (i ≤ j))) ta tb)) σ G (· = decide (a ≤ b)) := et_test (ec_int (f := fun i j => decide (i ≤ j)) (EF.iv ha) (EF.iv hb) fun x y hx hy => by rw [hx, hy])
theorem et_gtI {a b : Int} (ha : EF ta σ G (XV (.int a))) (hb : EF tb σ G (XV (.int b))) : ET (tTest (tOp (rI0 fun i j => .bl (decide (i > j))) ta tb)) σ G (· = decide (a > b)) := et_test (ec_int (f := fun i j => decide (i > j)) (EF.iv ha) (EF.iv hb) fun x y hx hy => by rw [hx, hy])
theorem et_geI {a b : Int} (ha : EF ta σ G (XV (.int a))) (hb : EF tb σ G (XV (.int b))) : ET (tTest (tOp (rI0 fun i j => .bl (decide (i ≥ j))) ta tb)) σ G (· = decide (a ≥ b)) := et_test (ec_int (f := fun i j => decide (i ≥ j)) (EF.iv ha) (EF.iv hb) fun x y hx hy => by rw [hx, hy])
/-- len of data that is a list -/
theorem ex_lenD {ds : List PyData} (ha : EF ta σ G (DV K (.list ds))) : EF (tCB (Evl.rLenS K) (tCons ta tNil)) σ G (XV (.int (ds.length : Int))) := (ed_lenL ha).imp fun v _ _ ⟨z, ez, hz⟩ => by rw [ez, hz]; rfl
end
end Lw

set_option Elab.async false
set_option linter.all false
set_option maxRecDepth 100000
set_option maxHeartbeats 4000000
/-! a try with several clauses, each of which names its error -/
namespace Lw
open PySem L2
open PySem.Spec PyProof.Rows
/-- what stands behind a clause whose name is in slot i -/
def goneE (i : Nat) (D : Ends) : Ends := ⟨fun st h => D.nx (List.set st i none) h, D.rt, fun st h => D.bk (List.set st i none) h, fun st h => D.ct (List.set st i none) h⟩
/-- class, slot and suite of a clause -/
abbrev Cla := Value × Nat × (Addr → Value → Option Addr → TS)
def wCla (K : PySem.W.Frag) (W0 : WX) (D : Ends) : List Cla → WX
  | [] => W0
  | q :: r => fun c1 d1 st h1 => ∃ b, PySem.W.exmOne K c1 q.1 = some b ∧ (b = false → wCla K W0 D r c1 d1 st h1) ∧
      (b = true → ∀ e, h1 e = none → q.2.2 e c1 d1 (goneE q.2.1 D) (List.set st q.2.1 (some (.ref e))) h1)
inductive ClaOk (X : Cx) : List ExceptHandler → List Cla → Prop
  | nil : ClaOk X [] []
  | cons {x n : Str} {c : Value} {i : Nat} {ts : Addr → Value → Option Addr → TS} {b1 : Stmt} {bs : List Stmt} {p1 p2 : Pos} {hr : List ExceptHandler} {lr : List Cla}
      (hN : X.N[i]? = some n) (hL : X.env.kindOf n = some .local) (hC : Names X x c) (rest : ClaOk X hr lr)
      (hS : ∀ (e : Addr) (oe : Obj) (c1 : Value) (d1 : Option Addr) (pn : List (Addr × Obj)), Zc c1 d1 oe → (∃ vs, oe.data = .fields vs) → PSs (X.suite e ((e, oe) :: pn)) (b1 :: bs) (ts e c1 d1)) :
      ClaOk X (.ExceptHandler (some (.Name x p1)) (some n) (b1 :: bs) p2 :: hr) ((c, i, ts) :: lr)
theorem ps_tryN {X : Cx} {bd : List Stmt} {g0 : ExceptHandler} {gs : List ExceptHandler} {lr : List Cla} {pos : Pos} {tb : WX → TS} {W0 : WX} (st0 : X.stack = X.env :: X.outer) (fr0 : X.env.frame = some X.env.locals) (nd : X.N.Nodup) (tk : Takes X W0)
    (hB : ∀ (W : WX) (pn : List (Addr × Obj)) (xe : Value → Shared → Prop), Takes (X.tr pn xe) W → PassesOwn (model X.prog X.w) X.A X.env xe → PSs (X.tr pn xe) bd (tb W)) (hH : ClaOk X (g0 :: gs) lr) :
    PS X (.Try bd (g0 :: gs) [] [] pos) (fun D st h => tb (wCla X.K W0 D lr) D st h) := by
  constructor
  intro pins s0 st h D I q0
  have okX := I.ok
  have frs0 : X.A.frames = some (X.env :: X.outer) := okX.frames.trans (congrArg some st0)
  apply wpAny_Try_except
  have body := (hB (wCla X.K W0 D lr) (X.pn ++ pins) (fun e s₁ => wpAny (model X.prog X.w) X.A (noteFrame e X.env) (fun _ s₂ => wpAny (model X.prog X.w) X.A (setFlight e none) (fun _ s₃ => wpAny (model X.prog X.w) X.A (handleBy e X.env (g0 :: gs)) (SP X pins D) X.xe s₃) X.xe s₂) X.xe s₁)
    (fun u t xx => ?caught) PassesOwn.looking).run [] s0 st h D (I.toTry _) q0
  case caught =>
    obtain ⟨e, B, tI, pins1, st1, h1, c1, d1, rfl, I0, nb, up1, sky1, na, os1, ag1, w1⟩ := xx
    have I1 : Inv X pins st1 h1 tI := I0.ofTry okX
    rw [st0] at sky1
    show wpAny (model X.prog X.w) X.A (noteFrame (.ref e) X.env) _ _ _
    refine Sky.land Zc.steady frs0 fr0 sky1 fun t3 fl3 up3 => ?_
    have I3 : Inv X pins st1 h1 { t with heap := t3 } := I1.landed nb fl3.1 (up1.trans up3) os1 ag1
    obtain ⟨o3, f3, g3, z3, e3⟩ := fl3.there
    have off : e ∉ frs (X.env :: X.outer) := fun hm => by
      obtain ⟨_, o', g', no⟩ := fl3.2.2.1.mem hm
      exact no _ (by rw [g3] at g'; cases g'; exact e3)
    have eL : e ≠ X.env.locals := fun z => off (by rw [z]; exact List.mem_filterMap.mpr ⟨X.env, .head _, fr0⟩)
    have eF : e ∉ X.fs := fun hm => by
      obtain ⟨v, hv, qv⟩ := List.mem_filterMap.mp hm
      exact off (List.mem_filterMap.mpr ⟨v, .tail _ hv, qv⟩)
    have go : ∀ {hs : List ExceptHandler} {ls : List Cla}, ClaOk X hs ls → wCla X.K W0 D ls c1 d1 st1 h1 → wpAny (model X.prog X.w) X.A (handleBy (.ref e) X.env hs) (SP X pins D) X.xe { t with heap := t3 } := fun {hs ls} hk => by
      induction hk with
      | nil =>
        intro w
        apply wpAny_handleBy_nil
        obtain ⟨_, _, _, o, vs, T, oT, ts', gE, gZ, gD, gT, _⟩ := id fl3
        have fin : wpAny (model X.prog X.w) X.A (setFlight (.ref e) X.env.frame) (fun _ s4 => wpAny (model X.prog X.w) X.A (throw (.ref e) : Sem Flow) (SP X pins D) X.xe s4) X.xe { t with heap := t3 } := by
          rw [fr0]
          refine HandSPX.setFlight_upZ fl3 fun t4 k4 up4 => wpAny_throw (tk _ _ ⟨e, B, tI, pins, st1, h1, c1, d1, rfl, I1, nb, (up1.trans up3).trans up4, ?_, na, os1, ag1, w⟩)
          right; right
          rw [st0]
          exact k4
        unfold PySem.passOn
        refine wpAny_bind (wpAny_field gE gD gT ?_)
        rw [if_neg (by simp)]
        first
          | exact wpAny_bind (wpAny_pure (wpAny_bind fin))
          | exact wpAny_bind fin
      | @cons x n c i ts b1 bs p1 p2 hr lr hN hL hC rest hS ih =>
        rintro ⟨b, eb, kno, kyes⟩
        have S3 := I3.suite g3 e3 na eL eF
        have typ : PySem.W.Looks (model X.prog X.w) t3 (typeOf (.ref e)) c1 := fun A Q E s k q => wpAny_typeOf_ref (k _ _ g3) (z3.1 ▸ q)
        have mat := PySem.W.exm_one (M := model X.prog X.w) I3.kIn typ eb
        refine wpAny_handleBy_cons (codeAny_handlers_test ?_) (by intro q; cases q)
        have nm : ∀ {Q E : Value → Shared → Prop}, Q c { t with heap := t3 } → wpAny (model X.prog X.w) (X.A.mark (some (.ref e))) (eval (.Name x p1) X.env) Q E { t with heap := t3 } := by
          intro Q E q
          rcases hC with ⟨k1, k2, k3 | ⟨k3, k4, k5⟩⟩
          · exact ld_glob (X := X.suite e ((e, o3) :: (X.pn ++ pins))) S3 k1 k3 q k2
          · exact ld_blt (X := X.suite e ((e, o3) :: (X.pn ++ pins))) S3 k1 k3 k4 q k5 k2
        refine nm (mat.here ?_)
        match b, eb, kno, kyes with
        | false, _, kno, _ => exact ih (kno rfl)
        | true, _, _, kyes =>
          apply codeAny_handlers_suite_as
          refine HandSPX.lands_againZ fl3 fun t4 fl4 up4 => ?_
          obtain ⟨o4, f4, g4, z4, e4⟩ := fl4.there
          have S4 := (I1.landed nb fl4.1 ((up1.trans up3).trans up4) os1 ag1 : Inv X pins st1 h1 { t with heap := t4 }).suite g4 e4 na eL eF
          refine store_ok (X := X.suite e ((e, o4) :: (X.pn ++ pins))) (v := .ref e) S4 nd hN (.inl hL) rfl (fun t5 S5 => ?_) (.inr hL)
          have gone : ∀ {t6 : Shared} {st6 : L2.St} {h6 : Hp} {Q : Shared → Prop}, Inv (X.suite e ((e, o4) :: (X.pn ++ pins))) [] st6 h6 t6 → (∀ t7, Inv X pins (st6.set i none) h6 t7 → Q t7) →
              wpAny (model X.prog X.w) X.A (do bindName X.env n .none; unbindBehindTheSuite X.env n p2) (fun _ t7 => Q t7) X.xe t6 := fun S6 k => gone_ok (S6.unsuite okX) nd hN hL k
          refine wpAny_mono ((hS e o4 c1 d1 (X.pn ++ pins) z4 ⟨_, e4⟩).run [] t5 _ h1 _ S5 (kyes rfl e na)) (fun f t6 hsp => ?_) (fun _ _ z => z.elim)
          match f, hsp with
          | .next, ⟨st6, h6, S6, q6⟩ => exact gone S6 fun t7 I7 => ⟨_, _, I7, q6⟩
          | .brk, ⟨st6, h6, S6, q6⟩ => exact gone S6 fun t7 I7 => ⟨_, _, I7, q6⟩
          | .cont, ⟨st6, h6, S6, q6⟩ => exact gone S6 fun t7 I7 => ⟨_, _, I7, q6⟩
          | .ret u, ⟨v6, st6, h6, S6, r6, q6⟩ => exact gone S6 fun t7 I7 => ⟨_, _, _, I7, r6, q6⟩
    exact go hH w1
  refine wpAny_mono body (fun f t hsp => ?_) fun _ _ z => z
  match f, hsp with
  | .next, ⟨st1, h1, J, q⟩ => exact wpAny_execs_nil ⟨st1, h1, J.ofTry okX, q⟩
  | .brk, ⟨st1, h1, J, q⟩ => exact ⟨st1, h1, J.ofTry okX, q⟩
  | .cont, ⟨st1, h1, J, q⟩ => exact ⟨st1, h1, J.ofTry okX, q⟩
  | .ret u, ⟨v, st1, h1, J, r, q⟩ => exact ⟨v, st1, h1, J.ofTry okX, r, q⟩
/-- an error that is let out, met by the first clause -/
theorem rse_cla0 {K : PySem.W.Frag} {G H : Hp} {σ : L2.St} {D : Ends} {C : Addr} {q : Cla} {lr : List Cla} {fs : List (Str × V)} {W0 : WX} (hx : PySem.W.exmOne K (.ref C) q.1 = some true)
    (k : ∀ G' H' d a, Gr G G' H H' → H' d = none → (upd H' d (.xd fs)) a = none → q.2.2 a (.ref C) (some d) (goneE q.2.1 D) (List.set σ q.2.1 (some (.ref a))) (upd H' d (.xd fs))) : Rse C fs G H (WE (wCla K W0 D (q :: lr)) σ) :=
  fun G' H' d g hd => ⟨true, hx, (fun z => nomatch z), fun _ a ha => k G' H' d a g hd ha⟩
/-- .. by a later one -/
theorem rse_claS {K : PySem.W.Frag} {G H : Hp} {σ : L2.St} {D : Ends} {C : Addr} {q : Cla} {lr : List Cla} {fs : List (Str × V)} {W0 : WX} (hx : PySem.W.exmOne K (.ref C) q.1 = some false)
    (k : Rse C fs G H (WE (wCla K W0 D lr) σ)) : Rse C fs G H (WE (wCla K W0 D (q :: lr)) σ) :=
  fun G' H' d g hd => ⟨false, hx, (fun _ => k G' H' d g hd), fun z => nomatch z⟩
end Lw

set_option Elab.async false
set_option linter.all false
set_option maxRecDepth 100000
set_option maxHeartbeats 4000000
/-! what heading tells of a list; promises with two errors -/
namespace Lw
open PySem L2
open Evl (Ex)
inductive HR where
  | way (c : Bool)
  | bad (i : Int)
  | no (b : Int)
/-- the first number that is no block -/
def badB (n : Int) (row : List Int) : Option Int := row.find? fun b => !decide (0 ≤ b ∧ b < n)
theorem badB_none {n : Int} {row : List Int} (h : ∀ b ∈ row, 0 ≤ b ∧ b < n) : badB n row = none := by
  unfold badB
  rw [List.find?_eq_none]
  intro b m
  simp [h b m]
theorem badB_no {n : Int} {row : List Int} (h : badB n row = none) : ∀ b ∈ row, 0 ≤ b ∧ b < n := fun b m => by
  have := List.find?_eq_none.mp h b m
  simpa using this
theorem badB_at {n : Int} {row : List Int} {i : Nat} {b : Int} (hi : row[i]? = some b) (h : ∀ x ∈ row.take i, 0 ≤ x ∧ x < n) (hb : ¬ (0 ≤ b ∧ b < n)) : badB n row = some b := by
  unfold badB
  rw [List.find?_eq_some_iff_append]
  refine ⟨by simp only [Bool.not_eq_true', decide_eq_false_iff_not]; exact hb, row.take i, row.drop (i + 1), ?_, fun a m => by simp [h a m]⟩
  have hl := (List.getElem?_eq_some_iff.mp hi)
  obtain ⟨hl, e⟩ := hl
  rw [← e, ← List.drop_eq_getElem_cons hl, List.take_append_drop]
/-- the entries i and i + 1 are joined on this side -/
def okB (js : List (Int × Int)) (c : Bool) (row : List Int) (i : Nat) : Bool := match row[i]?, row[i + 1]? with
  | some a, some b => decide (b ∈ ends js a c)
  | _, _ => true
theorem okB_eq {js : List (Int × Int)} {c : Bool} {row : List Int} {i : Nat} {a b : Int} (ha : row[i]? = some a) (hb : row[i + 1]? = some b) : okB js c row i = decide (b ∈ ends js a c) := by
  unfold okB
  rw [ha, hb]
def brk (js : List (Int × Int)) (c : Bool) (row : List Int) : Option Nat := (List.range (row.length - 1)).find? fun i => !okB js c row i
theorem brk_at {js : List (Int × Int)} {c : Bool} {row : List Int} {i : Nat} (hi : i + 1 < row.length) (h0 : ∀ j, j < i → okB js c row j = true) (h : okB js c row i = false) : brk js c row = some i := by
  unfold brk
  rw [List.find?_range_eq_some]
  exact ⟨by simp [h], by simp; omega, fun j hj => by simp [h0 j hj]⟩
theorem brk_none {js : List (Int × Int)} {c : Bool} {row : List Int} (h : ∀ j, j + 1 < row.length → okB js c row j = true) : brk js c row = none := by
  unfold brk
  rw [List.find?_eq_none]
  intro j m
  have := List.mem_range.mp m
  simp [h j (by omega)]
def headC (js : List (Int × Int)) : List Int → Bool
  | a :: b :: _ => !decide ((b, a) ∈ js)
  | _ => true
def headR (n : Int) (js : List (Int × Int)) (row : List Int) : HR :=
  if row = [] then .bad 0 else match badB n row with
  | some b => .no b
  | none => match brk js (headC js row) row with
    | some i => .bad (i : Int)
    | none => .way (headC js row)
theorem headR_nil {n : Int} {js : List (Int × Int)} : headR n js [] = .bad 0 := by simp [headR]
theorem headR_no {n : Int} {js : List (Int × Int)} {row : List Int} {b : Int} (h0 : row ≠ []) (h : badB n row = some b) : headR n js row = .no b := by simp [headR, h0, h]
theorem headR_bad {n : Int} {js : List (Int × Int)} {row : List Int} {i : Nat} (h0 : row ≠ []) (h : badB n row = none) (hb : brk js (headC js row) row = some i) : headR n js row = .bad (i : Int) := by simp [headR, h0, h, hb]
theorem headR_way {n : Int} {js : List (Int × Int)} {row : List Int} (h0 : row ≠ []) (h : badB n row = none) (hb : brk js (headC js row) row = none) : headR n js row = .way (headC js row) := by simp [headR, h0, h, hb]
section
variable {K : PySem.W.Frag} {C : Addr} {σ : L2.St} {G G' H H' : Hp} {ta tb te tc tr to : TE} {P : VP} {D : Ends}
def HRet (CN CW : Addr) (G H : Hp) (r : HR) (P : Bool → VP) (Q : VK) (E : XK) : Prop := match r with
  | .way c => Ret G H (P c) Q
  | .bad i => Rse CW [("at", .int i)] G H E
  | .no b => Rse CN [("block", .int b)] G H E
/-- check_blocks, with its error -/
def spChecksX (K : PySem.W.Frag) (C CN : Addr) : Sp := fun vs H Q E => ∃ (G : Hp) (p : Addr) (n : Int) (a : Addr) (bs : List Int), Ex G H ∧ vs = [.ref p, .ref a] ∧ SizeAt C G p n ∧ SqL K G a (bs.map V.int) ∧ (badB n bs = none → Ret G H (XV .non) Q) ∧ (∀ b, badB n bs = some b → Rse CN [("block", .int b)] G H E)
def oInt : Option Nat → V
  | some i => .int (i : Int)
  | none => .non
def spFirst (K : PySem.W.Frag) (C : Addr) : Sp := fun vs H Q _ => ∃ (G : Hp) (p : Addr) (n : Nat) (parks : List Int) (js : List (Int × Int)) (a : Addr) (row : List Int) (c : Bool), Ex G H ∧ vs = [.ref p, .ref a, .str (sd c)] ∧ LayAt K C G p n parks js ∧ SqL K G a (row.map V.int) ∧ row.length ≤ 1000 ∧ (∀ b ∈ row, 0 ≤ b ∧ b < (n : Int)) ∧ Ret G H (XV (oInt (brk js c row))) Q
theorem sa_first {G : Hp} {p : Addr} {n : Nat} {parks : List Int} {js : List (Int × Int)} {a : Addr} {row : List Int} {c : Bool} (hL : LayAt K C G p n parks js) (hs : SqL K G a (row.map V.int)) (hl : row.length ≤ 1000) (hb : ∀ b ∈ row, 0 ≤ b ∧ b < (n : Int)) : SA (spFirst K C) [.ref p, .ref a, .str (sd c)] G (XV (oInt (brk js c row))) := fun H e Q _ q => ⟨G, p, n, parks, js, a, row, c, e, rfl, hL, hs, hl, hb, q⟩
def spHead (K : PySem.W.Frag) (C CN CW : Addr) : Sp := fun vs H Q E => ∃ (G : Hp) (p : Addr) (n : Nat) (parks : List Int) (js : List (Int × Int)) (a : Addr) (row : List Int), Ex G H ∧ vs = [.ref p, .ref a] ∧ LayAt K C G p n parks js ∧ SqL K G a (row.map V.int) ∧ row.length ≤ 1000 ∧ HRet CN CW G H (headR (n : Int) js row) (fun c => XV (.str (sd c))) Q E
def lenOf (lens : List Int) (b : Int) : Int := lens.getD b.toNat 0
def spWayL (K : PySem.W.Frag) (C CN CW : Addr) : Sp := fun vs H Q E => ∃ (G : Hp) (p : Addr) (lens parks : List Int) (js : List (Int × Int)) (a : Addr) (row : List Int), Ex G H ∧ vs = [.ref p, .ref a] ∧ LayL K C G p lens parks js ∧ SqL K G a (row.map V.int) ∧ row.length ≤ 1000 ∧ HRet CN CW G H (headR (lens.length : Int) js row) (fun _ => XV (.int ((row.map (lenOf lens)).sum))) Q E
theorem HRet.up {CN CW : Addr} {r : HR} {P : Bool → VP} {Q : VK} {E : XK} {G0 G1 H0 H1 : Hp} (h : HRet CN CW G0 H0 r P Q E) (g : Gr G0 G1 H0 H1) : HRet CN CW G1 H1 r P Q E := by
  cases r with
  | way c => exact fun v G' H' g' p => h v G' H' (g.trans g') p
  | bad i => exact Rse.up h g
  | no b => exact Rse.up h g
/-! statements -/
theorem st_drop2 {sp : Sp} {E : L2.St → XK} {x y : V} (hG : Ex G H) (ha : EF ta σ G (XV x)) (hb : EF tb σ G (XV y)) (k : ∀ G' H', Gr G G' H H' → sp [x, y] H' (fun _ H2 => D.nx σ H2) (E σ)) : tDrop (tCallSD sp [] E (tCons ta (tCons tb tNil))) D σ H := by
  unfold tDrop tCallSD
  refine (ea_two mo_XV mo_XV ha hb) H hG _ fun vs G1 H1 g1 ⟨u, v, ev, hu, hv⟩ => ?_
  subst ev
  rw [show u = _ from hu, show v = _ from hv]
  exact k G1 H1 g1
theorem ef_methX {C : Addr} {m : Str} {sp : Sp} {dvs : List V} {E : L2.St → XK} {tl : TA} {R : List V → Hp → Prop} {a : Addr} (ho : EF to σ G (XV (.ref a))) (hI : ∃ dx fs, G a = some (.ins C dx fs) ∧ fs.lookup m = none) (h : EA tl σ G R)
    (hr : ∀ vs G', Ex G G' → R vs G' → SA sp (.ref a :: (vs ++ dvs)) G' P) : EF (tMethX C m sp dvs E to tl) σ G P := fun H e Q q =>
  ho H e _ fun x G1 H1 g1 p1 => by
    obtain ⟨dx, fs, h1, h2⟩ := hI
    cases (show x = .ref a from p1)
    refine ⟨a, dx, fs, rfl, g1.hp _ _ (e _ _ h1), h2, h H1 (g1.up.trans g1.ok) _ fun vs G2 H2 g2 p2 => ?_⟩
    exact hr vs G2 g2.up p2 H2 g2.ok Q (E σ) fun v G3 H3 g3 p3 => q v G3 H3 ((g2.low g1.hp).trans g3) p3
theorem et_notN {v : V} (ha : EF ta σ G (XV v)) (hb : EF tb σ G (XV .non)) : ET (tTest (tOp (fun x y H Q => y = .non ∧ Q (.bl (!decide (x = .non))) H) ta tb)) σ G (· = !decide (v = .non)) := et_test (ef_op mo_XV mo_XV ha hb fun x y G' _ hx hy => by
  cases (show x = v from hx)
  cases (show y = .non from hy)
  exact fun H e Q k => ⟨rfl, k _ G' H (.refl e) ⟨_, rfl, rfl⟩⟩)
theorem mo_PLs {l : List Int} : Mo (PLs K l) := fun v G G' e ⟨m, h1, h2, h3⟩ => ⟨m, h1, h2, dpx h3 e⟩
theorem ex_niPL {z : Int} {l : List Int} (ha : EF ta σ G (XV (.int z))) (hb : EF tb σ G (PLs K l)) : EF (tOp (rNotInD K) ta tb) σ G (BV (· = !decide (z ∈ l))) := ef_op mo_XV mo_PLs ha hb fun x y G' _ hx hy => by
  cases (show x = _ from hx)
  obtain ⟨m, h1, _, h3⟩ := hy
  refine fun H e Q k => ⟨.int z, m.map PyData.int, .int _, dpx h3 e, sh_int _, sh_ints _, k _ G' H (.refl e) ⟨_, rfl, ?_⟩⟩
  rw [any_int]
  congr 1
  exact decide_eq_decide.mpr h1.mem_iff
end
end Lw

set_option Elab.async false
set_option linter.all false
set_option maxRecDepth 100000
set_option maxHeartbeats 4000000
/-! lists that are cut and turned; pairs in lists of pairs -/
namespace Lw
open PySem L2
open Evl (Ex)
theorem headC_at {js : List (Int × Int)} {row : List Int} (h : 1 < row.length) : ∃ x y, row[0]? = some x ∧ row[1]? = some y ∧ headC js row = !decide ((y, x) ∈ js) := by
  match row, h with
  | x :: y :: r, _ => exact ⟨x, y, rfl, rfl, rfl⟩
theorem headC_short {js : List (Int × Int)} {row : List Int} (h : ¬ 1 < row.length) : headC js row = true := by
  match row, h with
  | [], _ => rfl
  | [x], _ => rfl
  | x :: y :: r, h => exact absurd (by simp) h
section
variable {K : PySem.W.Frag} {C : Addr} {σ : L2.St} {G G' H H' : Hp} {ta tb te tc tr to : TE} {P : VP} {D : Ends}
theorem ef_pairI {a b : Int} (ha : EF ta σ G (XV (.int a))) (hb : EF tb σ G (XV (.int b))) : EF (tTup (tCons ta (tCons tb tNil))) σ G (DV K (dP (a, b))) := ef_tup (ea_two mo_XV mo_XV ha hb) (fun vs G' ⟨x, y, ev, _⟩ => by rw [ev]; simp) fun q vs G' _ _ _ ⟨x, y, ev, hx, hy⟩ => dp_mkT upd_same (by rw [ev, hx, hy]; exact .cons (.int _) (.cons (.int _) .nil))
theorem et_inP {p : Int × Int} {js : List (Int × Int)} (ha : EF ta σ G (DV K (dP p))) (hb : EF tb σ G (DV K (dPs js))) : ET (tTest (tOp (rInD K) ta tb)) σ G (· = decide (p ∈ js)) :=
  et_test ((ed_inD (d := dP p) (ds := js.map dP) ha hb (sh_pair _) (sh_pairs _)).imp fun v _ _ ⟨b, e, hb⟩ => ⟨b, e, by rw [hb, any_pair]⟩)
theorem et_niP {p : Int × Int} {js : List (Int × Int)} (ha : EF ta σ G (DV K (dP p))) (hb : EF tb σ G (DV K (dPs js))) : ET (tTest (tOp (rNotInD K) ta tb)) σ G (· = !decide (p ∈ js)) :=
  et_test ((ed_niD (d := dP p) (ds := js.map dP) ha hb (sh_pair _) (sh_pairs _)).imp fun v _ _ ⟨b, e, hb⟩ => ⟨b, e, by rw [hb, any_pair]⟩)
/-- what a clause tells, as it is wanted -/
theorem ef_errD {nm : Str} {b : Int} {r1 r2 r3 : Bool} (hb : EF tb σ G (XV (.int b))) : EF (tTup (tCons (tC (.str nm)) (tCons tb (tCons (tC (.bl r1)) (tCons (tC (.bl r2)) (tCons (tC (.bl r3)) tNil)))))) σ G (DV K (errD nm b r1 r2 r3)) :=
  ef_tup (ea_x ex_c (ea_x hb (ea_x ex_c (ea_x ex_c (ea_x ex_c ea_nil))))) (fun vs _ h => by rw [h]; simp) fun q vs G' _ _ _ ev => dp_mkT upd_same (by rw [ev]; exact .cons (.str _) (.cons (.int _) (.cons (.bl _) (.cons (.bl _) (.cons (.bl _) .nil)))))
/-- list(reversed(a list)) -/
theorem el_rev {ds : List PyData} (ha : EF ta σ G (DV K (.list ds))) : EF (tLstRev K ta) σ G (LS K ds.reverse) := fun H e Q q => ha H e _ fun x G1 H1 g1 hx => by
  obtain ⟨a, xs, rfl, hs, hd⟩ := dp_lst hx
  refine ⟨a, xs, rfl, Evl.ex_l g1.ok hs, fun p2 h2 => q _ _ _ (g1.trans (.new g1.ok h2)) ⟨p2, xs.reverse, rfl, upd_same, dpa_rev (dpax hd (ex_in (none_back g1.ok h2)))⟩⟩
where
  dpa_rev {G : Hp} : ∀ {vs : List V} {ds : List PyData}, DpAll K G vs ds → DpAll K G vs.reverse ds.reverse
    | _, _, .nil => .nil
    | _, _, .cons (v := v) (d := d) a r => by
      rw [List.reverse_cons, List.reverse_cons]
      exact dpa_snoc (dpa_rev r) a
/-- a list of ints that is in the heap, of which p holds -/
def RL (K : PySem.W.Frag) (p : List Int → Prop) : VP := fun v G => ∃ row : List Int, p row ∧ LS K (row.map PyData.int) v G
theorem mo_RL {p : List Int → Prop} : Mo (RL K p) := fun v G G' e ⟨row, h, l⟩ => ⟨row, h, mo_LS _ _ _ e l⟩
theorem LS.rl {p : List Int → Prop} {row : List Int} (h : EF te σ G (LS K (row.map PyData.int))) (hp : p row) : EF te σ G (RL K p) := h.imp fun v _ _ l => ⟨row, hp, l⟩
theorem RL.sq {p : List Int → Prop} {v : V} (h : RL K p v G) : ∃ a row, v = .ref a ∧ p row ∧ SqL K G a (row.map V.int) := by
  obtain ⟨row, hp, l, xs, rfl, hl, hd⟩ := h
  exact ⟨l, row, rfl, hp, by rw [← dpa_ints_eq hd]; exact Evl.sq_of hl⟩
/-- a list of ints, of which p holds -/
def WL (K : PySem.W.Frag) (p : List Int → Prop) : VP := fun v G => ∃ a row, v = .ref a ∧ p row ∧ SqL K G a (row.map V.int)
theorem mo_WL {p : List Int → Prop} : Mo (WL K p) := fun v G G' e ⟨a, row, ev, hp, hs⟩ => ⟨a, row, ev, hp, Evl.ex_l e hs⟩
theorem EF.wl {p : List Int → Prop} (h : EF te σ G (RL K p)) : EF te σ G (WL K p) := h.imp fun v _ _ l => l.sq
theorem dv_row {a : Addr} {row : List Int} (h : SqL K G a (row.map V.int)) : Dp K G (.ref a) (dI row) := .lst h (dpa_ints row)
/-- two lists of ints behind one another -/
theorem er_cat {p q s : List Int → Prop} (ha : EF ta σ G (RL K p)) (hb : EF tb σ G (RL K q)) (h : ∀ x y, p x → q y → s (x ++ y)) (hz : ∀ x y, p x → q y → x.length + y.length ≤ 10000) : EF (tOp rCat ta tb) σ G (RL K s) :=
  ef_op mo_RL mo_RL ha hb fun u v G' e ⟨x, px, l, xs, ex, h1, d1⟩ ⟨y, py, b, ys, ey, h2, d2⟩ => fun H e2 Q k => by
    have z := hz x y px py
    refine ⟨l, b, xs, ys, ex, ey, e2 _ _ h1, e2 _ _ h2, ?_, fun r hr => k _ _ _ (.new e2 hr) ⟨x ++ y, h _ _ px py, r, _, rfl, upd_same, ?_⟩⟩
    · rw [dpa_len d1, dpa_len d2, List.length_map, List.length_map]
      exact Nat.le_trans z (by decide)
    · have e3 := ex_in (o := .lst (xs ++ ys)) (none_back e2 hr)
      rw [List.map_append]
      rw [dpa_ints_eq d1, dpa_ints_eq d2, ← List.map_append, ← List.map_append]
      exact dpa_ints _
theorem er_from {row : List Int} {k : Nat} {p : List Int → Prop} (ha : EF ta σ G (DV K (dI row))) (hb : EF tb σ G (XV (.int (k : Int)))) (hp : p (row.drop k)) : EF (tSl (rSlL K) ta (tPart tb) tNoPart) σ G (RL K p) := LS.rl (by have h := el_from (k := k) ha hb; rw [← List.map_drop] at h; exact h) hp
theorem er_to {row : List Int} {k : Nat} {p : List Int → Prop} (ha : EF ta σ G (DV K (dI row))) (hb : EF tb σ G (XV (.int (k : Int)))) (hp : p (row.take k)) : EF (tSl (rSlL K) ta tNoPart (tPart tb)) σ G (RL K p) := LS.rl (by have h := el_to (k := k) ha hb; rw [← List.map_take] at h; exact h) hp
theorem er_rev {p q : List Int → Prop} (ha : EF ta σ G (RL K p)) (h : ∀ x, p x → q x.reverse) : EF (tLstRev K ta) σ G (RL K q) := fun H e Q k => ha H e _ fun v G1 H1 g1 ⟨row, hp, l, xs, ev, hl, hd⟩ => by
  subst ev
  refine ⟨l, xs, rfl, Evl.sq_of (g1.ok _ _ hl), fun p2 h2 => k _ _ _ (g1.trans (.new g1.ok h2)) ⟨row.reverse, h _ hp, p2, xs.reverse, rfl, upd_same, ?_⟩⟩
  rw [dpa_ints_eq hd, ← List.map_reverse]
  exact dpa_ints _
/-- a display of ints that are known only somewhat -/
theorem er_lst1 {p : Int → Prop} {q : List Int → Prop} (ha : EF ta σ G (IV p)) (h : ∀ z, p z → q [z]) : EF (tLst (tCons ta tNil)) σ G (RL K q) := ef_lst (ea_one ha) (fun vs _ ⟨x, ev, _⟩ => by rw [ev]; simp) fun r vs G' _ _ _ ⟨x, ev, z, ez, pz⟩ => ⟨[z], h z pz, r, vs, rfl, upd_same, by rw [ev, ez]; exact dpa_ints [z]⟩
theorem er_lst2 {p p' : Int → Prop} {q : List Int → Prop} (ha : EF ta σ G (IV p)) (hb : EF tb σ G (IV p')) (h : ∀ z w, p z → p' w → q [z, w]) : EF (tLst (tCons ta (tCons tb tNil))) σ G (RL K q) := ef_lst (ea_two mo_IV mo_IV ha hb) (fun vs _ ⟨x, y, ev, _⟩ => by rw [ev]; simp) fun r vs G' _ _ _ ⟨x, y, ev, ⟨z, ez, pz⟩, ⟨u, eu, pu⟩⟩ => ⟨[z, u], h z u pz pu, r, vs, rfl, upd_same, by rw [ev, ez, eu]; exact dpa_ints [z, u]⟩
theorem er_nil {q : List Int → Prop} (h : q []) : EF (tLst tNil) σ G (RL K q) := ef_lst ea_nil (fun vs _ ev => by rw [ev]; simp) fun r vs G' _ _ _ ev => ⟨[], h, r, vs, rfl, upd_same, by rw [ev]; exact .nil⟩
end
end Lw

set_option Elab.async false
set_option linter.all false
set_option maxRecDepth 100000
set_option maxHeartbeats 4000000
/-! a track in which each block is joined to the next -/
namespace Lw
open PySem L2
open Evl (Ex)
def lineJ (m : Nat) : List (Int × Int) := (List.range m).map fun b : Nat => ((b : Int), (b : Int) + 1)
theorem lineJ_succ (m : Nat) : lineJ (m + 1) = lineJ m ++ [((m : Int), (m : Int) + 1)] := by
  unfold lineJ
  rw [List.range_succ, List.map_append]
  rfl
theorem lineJ_len (m : Nat) : (lineJ m).length = m := by unfold lineJ; rw [List.length_map, List.length_range]
theorem lineJ_mem {m : Nat} {p : Int × Int} (h : p ∈ lineJ m) : p.1 < (m : Int) ∧ p.2 ≤ (m : Int) := by
  unfold lineJ at h
  obtain ⟨b, hb, rfl⟩ := List.mem_map.mp h
  have := List.mem_range.mp hb
  constructor
  · show (b : Int) < m
    omega
  · show (b : Int) + 1 ≤ m
    omega
theorem lineJ_ok (n : Int) (parks : List Int) : ∀ m : Nat, (m : Int) < n → JOk n parks (lineJ m) := by
  intro m
  induction m with
  | zero => intro _; exact .nil
  | succ m ih =>
    intro h
    rw [lineJ_succ]
    refine .snoc (ih (by omega)) ⟨by omega, by omega, by omega, fun z => ?_, fun _ => ?_, fun _ => ?_⟩
    · have := (lineJ_mem z).1
      simp only at this
      omega
    · have : eo (lineJ m) (m : Int) = [] := by
        unfold eo
        rw [List.map_eq_nil_iff, List.filter_eq_nil_iff]
        intro p hp hd
        have e := of_decide_eq_true hd
        have := (lineJ_mem hp).1
        omega
      rw [this]
      simp
    · have : wo (lineJ m) ((m : Int) + 1) = [] := by
        unfold wo
        rw [List.map_eq_nil_iff, List.filter_eq_nil_iff]
        intro p hp hd
        have e := of_decide_eq_true hd
        have := (lineJ_mem hp).2
        omega
      rw [this]
      simp
section
variable {K : PySem.W.Frag} {C : Addr} {σ : L2.St} {G G' H H' : Hp} {ta tb te tc tr to : TE} {P : VP} {D : Ends}
theorem ex_negX {a : Int} (ha : EF ta σ G (XV (.int a))) : EF (tUn (rU fun i => .int (-i)) ta) σ G (XV (.int (-a))) := fun H e Q q => ha H e _ fun x G1 H1 g1 p => ⟨a, p, q _ G1 H1 g1 rfl⟩
theorem ef_lineJ {ta : TA} {j : Nat} {n : Int} {te : TE} (h : EA ta σ G fun us _ => us = [.int n]) (hn : 0 ≤ n ∧ n ≤ 900) (hw : ∀ x, wipe ((wipe σ [j]).set j (some x)) [j] = wipe σ [j]) (he : ∀ (i : Nat) G', Ex G G' → (i : Int) < n → EF te ((wipe σ [j]).set j (some (.int (i : Int)))) G' (DV K (dP ((i : Int), (i : Int) + 1)))) :
    EF (tLc (iRng1 ta) (gName j) tYes te [j]) σ G (DV K (dPs (lineJ n.toNat))) :=
  ef_lcR1 (n := n) (fun i xs G' => DpAll K G' xs ((lineJ i).map dP)) h ⟨hn.1, by omega⟩ hw (fun G' _ => .nil) (fun i xs G' e1 hi hx => ec_all ((he i G' e1 hi).imp fun v G2 e2 hv => by rw [lineJ_succ, List.map_append]; exact dpa_snoc (dpax hx e2) hv)) fun p xs G' h1 h2 _ _ hx => dp_mkL upd_same (dpax hx (ex_in h2))
end
end Lw

set_option Elab.async false
set_option linter.all false
set_option maxRecDepth 100000
set_option maxHeartbeats 4000000
/-! a new object whose __init__ may let an error out, at the caller's slots -/
namespace Lw
open PySem L2
open Evl (Ex)
/-- the heap with a new object without fields -/
def newO (H : Hp) (C x dx : Addr) : Hp := upd (upd H dx (.own x)) x (.ins C dx [])
/-- C(..), args read: the promise of __init__ at a new object -/
def askX (C : Addr) (sp : Sp) (vs : V → List V) (Er : XK) (H : Hp) (Q : VK) : Prop := ∀ x dx, H x = none → H dx = none → dx ≠ x → sp (vs (.ref x)) (newO H C x dx) (fun v H2 => v = .non ∧ Q (.ref x) H2) Er
section
variable {X : Cx} {CX : CXT} {k : Nat} {f C : Addr} {fd : FuncData} {ps : List Str} {sp : Sp} {σ : L2.St} {H : Hp}
theorem made_X {Er : XK} {pins : List (Addr × Obj)} {s : Shared} {Q : VK} {us : List Value} {kw : List (Str × Value)} {gU : Value → List Value} {gW : V → List V} (M : Mk X.K C f) (F : FnOk X.prog X.w X.K X.mg X.base CX k f fd ps sp) (hr : Room (k + 1) X.A)
    (hB : ∀ (t : Shared) (o : Value), X.K.In t.heap → BindsTo t fd ⟨o :: us, kw⟩ (ps.zip (gU o))) (hR : ∀ a : Addr, Vals (gW (.ref a)) (gU (.ref a))) (px : PassesAt CX X σ Er) (I : Inv X pins σ H s) (h : askX C sp gW Er H Q) :
    wpAny (model X.prog X.w) X.A (call (.ref C) us kw) (EP X pins σ Q) X.xe s := by
  have asked := h (s.heap.objs.size + 1) (s.heap.objs.size) (I.hok.fresh (Nat.le_succ _)) (I.hok.fresh (Nat.le_refl _)) (Nat.ne_of_lt (Nat.lt_succ_self _))
  have In := Inv.made (C := C) I
  have ran := F.run _ X.stack _ _ ⟨Value.ref (s.heap.objs.size + 1) :: us, kw⟩ (gU (.ref (s.heap.objs.size + 1))) (gW (.ref (s.heap.objs.size + 1))) _ Er (hr.make C us kw) (In.env0.make C us kw) (hB _ _ In.kIn) (hR _) asked
  apply wpAny_call
  refine make_map (f := f) I.kIn M.makes M.init (beq_iff_eq.mp M.fn) (codeAny_mono ran fun out t ho => ?_)
  match out, ho with
  | .error e, ho => exact px pins _ _ e t In ho
  | .ok (.ret u), ho =>
    obtain ⟨v, H', I3, rv, ev, q3⟩ := In.after ho
    subst ev
    exact ⟨rv, ⟨V.ref (s.heap.objs.size + 1), H', I3, rfl, q3⟩⟩
  | .ok .next, ho => exact ho.elim
  | .ok .brk, ho => exact ho.elim
  | .ok .cont, ho => exact ho.elim
variable {E : L2.St → XK} {x : Str} {p pos : Pos} {e : Expr} {es : List Expr} {t tk : TA}
/-- C(e, ..), what is left out having the values dvs -/
def tNewX (C : Addr) (sp : Sp) (dvs : List V) (E : L2.St → XK) (t : TA) : TE := fun σ H Q => t σ H fun vs H1 => askX C sp (fun o => o :: (vs ++ dvs)) (E σ) H1 Q
theorem pe_newX {n : Nat} {dvs : List V} {ds : List Value} (M : Mk X.K C f) (F : FnOk X.prog X.w X.K X.mg X.base CX k f fd ps sp) (hr : Room (k + 1) X.A) (hg : Gl X x) (hm : X.mg x = some (.ref C)) (hb : Binds X.K fd ps ds) (hd : Vals dvs ds) (px : ∀ σ, PassesAt CX X σ (E σ)) (ha : PA X (e :: es) t)
    (h1 : (x == ("__debug__" : Str)) = false := by decide) (h2 : starEach (e :: es) X.env = (false, eval e X.env) :: starEach es X.env := by rfl) (h3 : (backTo pos (starEach es X.env)).any (·.1) = false := by rfl) : PE X (.Call (.Name x p) (e :: es) [] pos) (tNewX C sp dvs E t) := by
  constructor
  intro pins s σ H Q I h
  refine wpAny_Call_Name_kw (ld_glob I hg hm ?_ h1)
  refine PySem.W.callWith_K (h₀ := X.base) I.ok.mod.kin M.kp (thn (ha.run pos pins s σ H _ I h) ?_) h2 h3
  rintro us s1 ⟨vs, H1, I1, r, q⟩
  have ask0 := q (s1.heap.objs.size + 1) (s1.heap.objs.size) (I1.hok.fresh (Nat.le_succ _)) (I1.hok.fresh (Nat.le_refl _)) (Nat.ne_of_lt (Nat.lt_succ_self _))
  have hl := F.len _ _ _ _ ask0
  have rl := r.length
  have dl := hd.length
  refine ⟨I1.kIn, made_X (gU := fun o => o :: (us ++ ds)) M F hr (fun t o hk => hb t (o :: us) hk ?_) (gW := fun o => o :: (vs ++ dvs)) (fun a => .cons (show RelV (.ref a) (.ref a) from rfl) (r.append hd)) (px σ) I1 q⟩
  simp only [List.length_cons, List.length_append] at hl ⊢
  omega
/-- C(e, .., k = v, ..) -/
def tNewKX (C : Addr) (n m : Nat) (sp : Sp) (gV : List V → List V → List V) (E : L2.St → XK) (t tk : TA) : TE := fun σ H Q => t σ H fun vs H1 => tk σ H1 fun zs H2 => vs.length = n ∧ zs.length = m ∧ askX C sp (fun o => gV (o :: vs) zs) (E σ) H2 Q
theorem pe_newKX {n : Nat} {ks : List Str} {kws : List Keyword} {g : List Value → List Value → List Value} {gV : List V → List V → List V} (M : Mk X.K C f) (F : FnOk X.prog X.w X.K X.mg X.base CX k f fd ps sp) (hr : Room (k + 1) X.A) (hg : Gl X x) (hm : X.mg x = some (.ref C)) (hb : KBn X.K fd ps (n + 1) ks g gV)
    (px : ∀ σ, PassesAt CX X σ (E σ)) (ha : PA X (e :: es) t) (hkw : PK X kws tk) (h0 : (backToKw pos (keywordEach kws X.env)).all (·.1.isSome) = true := by rfl) (hks : (backToKw pos (keywordEach kws X.env)).filterMap (·.1) = ks := by rfl)
    (h1 : (x == ("__debug__" : Str)) = false := by decide) (h2 : starEach (e :: es) X.env = (false, eval e X.env) :: starEach es X.env := by rfl)
    (h3 : ((backTo pos (starEach (e :: es) X.env)).any (·.1) || (backToKw pos (keywordEach kws X.env)).any (·.1.isNone)) = false := by rfl) : PE X (.Call (.Name x p) (e :: es) kws pos) (tNewKX C n ks.length sp gV E t tk) := by
  constructor
  intro pins s σ H Q I h
  refine wpAny_Call_Name_kw (ld_glob I hg hm ?_ h1)
  refine PySem.W.callWith_KW (h₀ := X.base) I.ok.mod.kin M.kp h0 (thn (ha.run pos pins s σ H _ I h) ?_) h3 h2
  rintro us s1 ⟨vs, H1, I1, r, q⟩
  refine thn (hkw.run pos pins s1 σ H1 _ I1 q) ?_
  rintro ws s2 ⟨zs, H2, I2, rz, l1, l2, q2⟩
  refine ⟨I2.kIn, ?_⟩
  rw [hks]
  exact made_X (gU := fun o => g (o :: us) ws) M F hr (fun t o hk => hb.to t (o :: us) ws hk (by rw [List.length_cons, ← r.length, l1]) (rz.length.symm.trans l2)) (gW := fun o => gV (o :: vs) zs) (fun a => hb.rel (.cons (show RelV (.ref a) (.ref a) from rfl) r) rz) (px σ) I2 q2
end
end Lw

set_option Elab.async false
set_option linter.all false
set_option maxRecDepth 100000
set_option maxHeartbeats 4000000
/-! what the checks of a layout say; yards as a list or as a tuple -/
namespace Lw
open PySem L2
open Evl (Ex)
inductive LV where
  | ok
  | len (z : Int)
  | no (b : Int)
  | bad (w e : Int)
  | crowd (b : Int) (c : Bool)
/-- what is wrong with the next joint -/
def jbad (n : Int) (parks : List Int) (js : List (Int × Int)) (p : Int × Int) : LV :=
  if ¬ (0 ≤ p.1 ∧ p.1 < n) then .no p.1 else if ¬ (0 ≤ p.2 ∧ p.2 < n) then .no p.2 else if p.1 ≥ p.2 ∨ p ∈ js then .bad p.1 p.2
  else if p.1 ∉ parks ∧ (eo js p.1).length = 2 then .crowd p.1 true else if p.2 ∉ parks ∧ (wo js p.2).length = 2 then .crowd p.2 false else .ok
def jver (n : Int) (parks : List Int) (js : List (Int × Int)) : List (Int × Int) → LV
  | [] => .ok
  | p :: r => match jbad n parks js p with
    | .ok => jver n parks (js ++ [p]) r
    | v => v
def ver (lens : List Int) (parks : List Int) (js : List (Int × Int)) : LV := match lens.find? fun z => decide (z < 1) with
  | some z => .len z
  | none => match badB (lens.length : Int) parks with
    | some b => .no b
    | none => jver (lens.length : Int) parks [] js
theorem find_at {p : Int → Bool} {row : List Int} {i : Nat} {b : Int} (hi : row[i]? = some b) (h : ∀ x ∈ row.take i, p x = false) (hb : p b = true) : row.find? p = some b := by
  rw [List.find?_eq_some_iff_append]
  refine ⟨hb, row.take i, row.drop (i + 1), ?_, fun a m => by simp [h a m]⟩
  obtain ⟨hl, e⟩ := List.getElem?_eq_some_iff.mp hi
  rw [← e, ← List.drop_eq_getElem_cons hl, List.take_append_drop]
theorem find_no {p : Int → Bool} {row : List Int} (h : ∀ x ∈ row, p x = false) : row.find? p = none := by
  rw [List.find?_eq_none]
  intro b m
  simp [h b m]
theorem jbad_new {n : Int} {parks : List Int} {js : List (Int × Int)} {p : Int × Int} (h : jbad n parks js p = .ok) : JNew n parks js p.1 p.2 := by
  unfold jbad at h
  split at h
  · cases h
  · split at h
    · cases h
    · split at h
      · cases h
      · split at h
        · cases h
        · split at h
          · cases h
          · rename_i h1 h2 h3 h4 h5
            have h1 := Classical.not_not.mp h1
            have h2 := Classical.not_not.mp h2
            exact ⟨h1.1, by omega, h2.2, fun z => h3 (.inr z), fun z y => h4 ⟨z, y⟩, fun z y => h5 ⟨z, y⟩⟩
theorem jver_step {n : Int} {parks : List Int} {js : List (Int × Int)} {i : Nat} {p : Int × Int} (hp : js[i]? = some p) : jver n parks (js.take i) (js.drop i) = match jbad n parks (js.take i) p with
    | .ok => jver n parks (js.take (i + 1)) (js.drop (i + 1))
    | v => v := by
  obtain ⟨hl, e⟩ := List.getElem?_eq_some_iff.mp hp
  have e1 : js.drop i = p :: js.drop (i + 1) := by rw [← e]; exact List.drop_eq_getElem_cons hl
  have e2 : js.take (i + 1) = js.take i ++ [p] := by rw [← e, List.take_succ_eq_append_getElem hl]
  rw [e1, e2]
  show (match jbad n parks (js.take i) p with | .ok => jver n parks (js.take i ++ [p]) (js.drop (i + 1)) | v => v) = _
  rfl
theorem jver_ok {n : Int} {parks : List Int} : ∀ {r js : List (Int × Int)}, JOk n parks js → jver n parks js r = .ok → JOk n parks (js ++ r)
  | [], js, h, _ => by rw [List.append_nil]; exact h
  | p :: r, js, h, e => by
    have e' : (match jbad n parks js p with | .ok => jver n parks (js ++ [p]) r | v => v) = .ok := e
    cases hb : jbad n parks js p with
    | ok =>
      rw [hb] at e'
      have := jver_ok (r := r) (.snoc h (jbad_new hb)) e'
      rw [List.append_assoc] at this
      exact this
    | len z => rw [hb] at e'; cases e'
    | no z => rw [hb] at e'; cases e'
    | bad z y => rw [hb] at e'; cases e'
    | crowd z y => rw [hb] at e'; cases e'
theorem ver_ok {lens parks : List Int} {js : List (Int × Int)} (h : ver lens parks js = .ok) : (∀ z ∈ lens, 1 ≤ z) ∧ (∀ b ∈ parks, 0 ≤ b ∧ b < (lens.length : Int)) ∧ JOk (lens.length : Int) parks js := by
  unfold ver at h
  cases hl : lens.find? fun z => decide (z < 1) with
  | some z => rw [hl] at h; cases h
  | none =>
    rw [hl] at h
    cases hb : badB (lens.length : Int) parks with
    | some b => simp only [hb] at h; cases h
    | none =>
      simp only [hb] at h
      refine ⟨fun z m => ?_, badB_no hb, ?_⟩
      · have := List.find?_eq_none.mp hl z m
        simp at this
        omega
      · have := jver_ok (r := js) (.nil (n := (lens.length : Int)) (parks := parks)) h
        rwa [List.nil_append] at this
/-- yards: a list or a tuple -/
def YdAt (K : PySem.W.Frag) (G : Hp) (a : Addr) (parks : List Int) : Prop := SqL K G a (parks.map V.int) ∨ SqT K G a (parks.map V.int)
theorem YdAt.ex {K : PySem.W.Frag} {G G' : Hp} {a : Addr} {parks : List Int} (h : YdAt K G a parks) (e : Ex G G') : YdAt K G' a parks := h.imp (Evl.ex_l e) (Evl.ex_t e)
/-- an error let out, whatever is known -/
def RseH (C : Addr) (fs : List (Str × V)) (H : Hp) (E : XK) : Prop := ∀ H' d, Ex H H' → H' d = none → E (.ref C) (some d) (upd H' d (.xd fs))
theorem RseH.rse {C : Addr} {fs : List (Str × V)} {G H : Hp} {E : XK} (h : RseH C fs H E) : Rse C fs G H E := fun G' H' d g hd => h H' d g.hp hd
theorem Rse.rh {C : Addr} {fs : List (Str × V)} {G H : Hp} {E : XK} (h : Rse C fs G H E) (e : Ex G H) : RseH C fs H E := fun H' d e' hd => h G H' d (.same e e') hd
theorem RseH.up {C : Addr} {fs : List (Str × V)} {H H' : Hp} {E : XK} (h : RseH C fs H E) (e : Ex H H') : RseH C fs H' E := fun H2 d e' hd => h H2 d (e.trans e') hd
/-- the addresses of the four classes -/
structure CCs where
  L : Addr
  N : Addr
  J : Addr
  E : Addr
def LV.rse (cc : CCs) (H : Hp) (E : XK) : LV → Prop
  | .ok => True
  | .len z => RseH cc.L [("length", .int z)] H E
  | .no b => RseH cc.N [("block", .int b)] H E
  | .bad w e => RseH cc.J [("east", .int e), ("west", .int w)] H E
  | .crowd b c => RseH cc.E [("side", .str (sd c)), ("block", .int b)] H E
theorem LV.rse.up {cc : CCs} {H H' : Hp} {E : XK} {v : LV} (h : v.rse cc H E) (e : Ex H H') : v.rse cc H' E := by
  cases v with
  | ok => trivial
  | len z => exact RseH.up h e
  | no z => exact RseH.up h e
  | bad w z => exact RseH.up h e
  | crowd w z => exact RseH.up h e
/-- an own __init__ that stores two fields -/
def spIni2 (C : Addr) (f1 f2 : Str) : Sp := fun vs H Q _ => ∃ (a : Addr) (y1 y2 : V), vs = [.ref a, y1, y2] ∧ H a = some (exo a C none) ∧ ∀ d, H d = none → d ≠ a → Q .non (upd (upd H d (exd d [(f2, y2), (f1, y1)])) a (exo a C (some d)))
section
variable {K : PySem.W.Frag} {C : Addr} {σ : L2.St} {G G' H H' : Hp} {ta tb te tc tr to : TE} {P : VP} {D : Ends} {tl : TE} {g : TG} {tu : TS}
/-- raise C(e1, e2) -/
theorem mk_two {f1 f2 : Str} {y1 y2 : V} {Q : XK} (hG : Ex G H) (h1 : EF ta σ G (XV y1)) (h2 : EF tb σ G (XV y2)) (k : RseH C [(f2, y2), (f1, y1)] H Q) : tMkO C (spIni2 C f1 f2) [] (tCons ta (tCons tb tNil)) σ H Q :=
  (ea_two mo_XV mo_XV h1 h2) H hG _ fun vs G1 H1 g1 ⟨x, y, ev, hx, hy⟩ => by
    subst ev
    rw [show x = y1 from hx, show y = y2 from hy]
    refine ⟨by simp, fun a ha => ⟨a, y1, y2, rfl, upd_same, fun d hd hn => ⟨rfl, d, [(f2, y2), (f1, y1)], upd_same, ?_, ?_, ?_⟩⟩⟩
    · rw [upd_ne hn]
      exact upd_same
    · rw [upd_ne hn] at hd
      exact hd
    · rw [heap_new ha hn]
      rw [upd_ne hn] at hd
      exact k H1 d g1.hp hd
/-- raise C(e) -/
theorem mk_oneH {f1 : Str} {y1 : V} {Q : XK} (hG : Ex G H) (h1 : EF ta σ G (XV y1)) (k : RseH C [(f1, y1)] H Q) : tMkO C (spIni1 C f1) [] (tCons ta tNil) σ H Q := mk_one hG h1 fun G' H' d g hd => k H' d g.hp hd
theorem st_forT {xs : List V} {a : Addr} (hG : Ex G H) (h : EF tl σ G (XV (.ref a))) (hx : SqT K G a xs) (W : Nat → L2.St → Hp → Prop) (h0 : ∀ H', Ex H H' → W 0 σ H') (hl : ∀ i σ' H', W i σ' H' → Ex G H')
    (hs : ∀ i x σ' H', xs[i]? = some x → W i σ' H' → g x σ' H' fun σ2 H2 => tu { D with nx := W (i + 1), ct := W (i + 1), bk := D.nx } σ2 H2) (hd : ∀ σ' H', W xs.length σ' H' → D.nx σ' H') : tFor (iTup K tl) g tu D σ H :=
  h H hG _ fun v G1 H1 g1 e => ⟨a, e, ⟨xs, Evl.ex_t (hG.trans g1.hp) hx⟩, for_tup W (h0 H1 g1.hp) (fun i σ' H' _ w => Evl.ex_t (hl i σ' H' w) hx) hs hd⟩
/-- x in yards -/
theorem inV_ints (b : Int) : ∀ l : List Int, inV (.int b) (l.map V.int) = decide (b ∈ l) := fun l => by
  unfold inV
  induction l with
  | nil => rfl
  | cons x l ih =>
    rw [List.map_cons, List.any_cons, ih, Lw.eqV_int]
    rw [Bool.eq_iff_iff]
    simp only [Bool.or_eq_true, decide_eq_true_eq, List.mem_cons]
    exact ⟨fun h => h.elim (fun h => .inl h.symm) .inr, fun h => h.elim (fun h => .inl h.symm) .inr⟩
theorem ex_inY {a : Addr} {b : Int} {parks : List Int} (ha : EF ta σ G (XV (.int b))) (hb : EF tb σ G (XV (.ref a))) (hy : YdAt K G a parks) : EF (tOp (rIn K false) ta tb) σ G (XV (.bl (decide (b ∈ parks)))) :=
  ef_op mo_XV mo_XV ha hb fun x y G' e1 hx hz => by
    cases (show x = _ from hx)
    cases (show y = _ from hz)
    refine fun H e2 Q k => ⟨a, parks.map V.int, rfl, hy.ex (e1.trans e2), rfl, ?_, k _ G' H (.refl e2) ?_⟩
    · rw [List.all_eq_true]
      intro v m
      obtain ⟨z, _, rfl⟩ := List.mem_map.mp m
      rfl
    · show V.bl _ = V.bl _
      rw [if_neg (by simp), inV_ints]
end
/-- check_blocks of yards, with its error -/
def spChecksY (K : PySem.W.Frag) (C CN : Addr) : Sp := fun vs H Q E => ∃ (G : Hp) (p : Addr) (n : Int) (a : Addr) (bs : List Int), Ex G H ∧ vs = [.ref p, .ref a] ∧ SizeAt C G p n ∧ YdAt K G a bs ∧ (badB n bs = none → Ret G H (XV .non) Q) ∧ (∀ b, badB n bs = some b → RseH CN [("block", .int b)] H E)
def spAddX (C : Addr) (cc : CCs) : Sp := fun vs H Q E => ∃ (x : Addr) (n : Nat) (parks : List Int) (js : List (Int × Int)) (dx : Addr) (fs : List (Str × V)) (l ym e w : Addr) (ea wa : List Addr) (u v : Int), vs = [.ref x, .int u, .int v] ∧ AddSt C H x n parks js dx fs l ym e w ea wa ∧ js.length ≤ 900 ∧ (jbad (n : Int) parks js (u, v)).rse cc H E ∧
  (jbad (n : Int) parks js (u, v) = .ok → ∀ H', AddSt C H' x n parks (js ++ [(u, v)]) dx fs l ym e w ea wa → (∀ a o, a ∉ ea → a ∉ wa → H a = some o → H' a = some o) → Q .non H')
def spInitY (K : PySem.W.Frag) (C : Addr) (cc : CCs) : Sp := fun vs H Q E => ∃ (G : Hp) (x dx : Addr) (lens : List Int) (js : List (Int × Int)) (parks : List Int) (a1 a2 a3 : Addr), vs = [.ref x, .ref a1, .ref a2, .ref a3] ∧ Ex G H ∧ G x = none ∧ H x = some (.ins C dx []) ∧
  Dp K G (.ref a1) (dI lens) ∧ Dp K G (.ref a2) (dPs js) ∧ YdAt K G a3 parks ∧ lens.length ≤ 200 ∧ js.length ≤ 900 ∧ (ver lens parks js).rse cc (outH H x) E ∧
  (ver lens parks js = .ok → ∀ G' H', Gr G G' (outH H x) H' → LayL K C G' x lens parks js → Q .non H')
end Lw

set_option Elab.async false
set_option linter.all false
set_option maxRecDepth 100000
set_option maxHeartbeats 4000000
/-! a layout that may be refused, made; tuples of data -/
namespace Lw
open PySem L2
open Evl (Ex)
section
variable {K : PySem.W.Frag} {C : Addr} {σ : L2.St} {G G' H H' : Hp} {ta tb te tc tr to : TE} {P : VP} {D : Ends} {cc : CCs}
theorem ex_newO {H : Hp} {C x dx : Addr} (hx : H x = none) (hd : H dx = none) : Ex H (outH (newO H C x dx) x) := fun a o ha => by
  unfold newO
  rw [out_ne (ne_of_none ha hx), upd_ne (ne_of_none ha hx), upd_ne (ne_of_none ha hd)]
  exact ha
theorem nw_ask {E : XK} {lens parks : List Int} {js : List (Int × Int)} {a1 a2 a3 : Addr} {Q : VK} (hG : Ex G H) (d1 : Dp K G (.ref a1) (dI lens)) (d2 : Dp K G (.ref a2) (dPs js)) (d3 : YdAt K G a3 parks) (n2 : lens.length ≤ 200) (hj : js.length ≤ 900) (kE : (ver lens parks js).rse cc H E)
    (kok : ver lens parks js = .ok → ∀ x G' H', Gr G G' H H' → LayL K C G' x lens parks js → Q (.ref x) H') : askX C (spInitY K C cc) (fun o => [o, .ref a1, .ref a2, .ref a3]) E H Q := fun x dx hx hd hn => by
  have ex2 := ex_newO (C := C) hx hd
  refine ⟨G, x, dx, lens, js, parks, a1, a2, a3, rfl, hG.trans (ex2.trans out_ex), none_back hG hx, upd_same, d1, d2, d3, n2, hj, kE.up ex2, fun hok G' H' g hL => ⟨rfl, kok hok x G' H' (g.low ex2) hL⟩⟩
/-- Layout(a, b, yards=c) -/
theorem nw_kx {E : L2.St → XK} {lens parks : List Int} {js : List (Int × Int)} {a1 a2 : Addr} {Q : VK} (hG : Ex G H) (h1 : EF ta σ G (XV (.ref a1))) (h2 : EF tb σ G (XV (.ref a2))) (h3 : EF tc σ G fun v G' => ∃ a3, v = .ref a3 ∧ YdAt K G' a3 parks) (d1 : Dp K G (.ref a1) (dI lens)) (d2 : Dp K G (.ref a2) (dPs js)) (n2 : lens.length ≤ 200) (hj : js.length ≤ 900)
    (kE : (ver lens parks js).rse cc H (E σ)) (kok : ver lens parks js = .ok → ∀ x G' H', Gr G G' H H' → LayL K C G' x lens parks js → Q (.ref x) H') : tNewKX C 2 1 (spInitY K C cc) (fun vs zs => vs ++ zs) E (tCons ta (tCons tb tNil)) (tCons tc tNil) σ H Q :=
  (ea_two mo_XV mo_XV h1 h2) H hG _ fun vs G1 H1 g1 ⟨x, y, ev, hx, hy⟩ => (ea_one h3) H1 (hG.trans g1.hp) _ fun zs G2 H2 g2 ⟨z, ez, a3, ea, hz⟩ => by
    subst ev ez ea
    rw [show x = _ from hx, show y = _ from hy]
    have gg := g2.low g1.hp
    exact ⟨rfl, rfl, nw_ask g2.ok (dpx d1 g2.up) (dpx d2 g2.up) hz n2 hj (kE.up gg.hp) fun hok x G' H' g hL => kok hok x G' H' (gg.trans g) hL⟩
/-- Layout(a, b) -/
theorem nw_x {E : L2.St → XK} {lens : List Int} {js : List (Int × Int)} {a1 a2 aY : Addr} {Q : VK} (hG : Ex G H) (h1 : EF ta σ G (XV (.ref a1))) (h2 : EF tb σ G (XV (.ref a2))) (hY : ∀ G, SqT K G aY []) (d1 : Dp K G (.ref a1) (dI lens)) (d2 : Dp K G (.ref a2) (dPs js)) (n2 : lens.length ≤ 200) (hj : js.length ≤ 900)
    (kE : (ver lens [] js).rse cc H (E σ)) (kok : ver lens [] js = .ok → ∀ x G' H', Gr G G' H H' → LayL K C G' x lens [] js → Q (.ref x) H') : tNewX C (spInitY K C cc) [.ref aY] E (tCons ta (tCons tb tNil)) σ H Q :=
  (ea_two mo_XV mo_XV h1 h2) H hG _ fun vs G1 H1 g1 ⟨x, y, ev, hx, hy⟩ => by
    subst ev
    rw [show x = _ from hx, show y = _ from hy]
    exact nw_ask (parks := []) (hG.trans g1.hp) d1 d2 (.inr (hY G)) n2 hj (kE.up g1.hp) fun hok x G' H' g hL => kok hok x G' H' (g.low g1.hp) hL
def rTupOf (K : PySem.W.Frag) : List V → Hp → VK → Prop := fun xs H Q => ∃ p ys, xs = [.ref p] ∧ ((SqL K H p ys ∧ ∀ l, H l = none → Q (.ref l) (upd H l (.tup ys))) ∨ (SqT K H p ys ∧ Q (.ref p) H))
theorem call_tupK {X : Cx} {K : PySem.W.Frag} (h : X.K = K) : CallR X (.type "tuple") (rTupOf K) := by subst h; exact call_tuple_of
theorem call_lenK {X : Cx} {K : PySem.W.Frag} (h : X.K = K) : CallR X (.builtin "len") (Evl.rLenS K) := by subst h; exact call_len_seq
/-- tuple(a list) -/
theorem ef_tupOf {a : Addr} {parks : List Int} (ha : EF ta σ G (XV (.ref a))) (hs : SqL K G a (parks.map V.int)) : EF (tCB (rTupOf K) (tCons ta tNil)) σ G fun v G' => ∃ a3, v = .ref a3 ∧ YdAt K G' a3 parks := fun H e Q q => ha H e _ fun x G1 H1 g1 p => by
  cases (show x = _ from p)
  exact ⟨a, parks.map V.int, rfl, .inl ⟨Evl.ex_l (g1.up.trans g1.ok) hs, fun l hl => q _ _ _ (g1.trans (.new g1.ok hl)) ⟨l, rfl, .inr (Evl.st_of upd_same)⟩⟩⟩
/-- t + u, tuples -/
theorem ef_catT {xs ys : List V} (ha : EF ta σ G fun v G' => ∃ p, v = .ref p ∧ G' p = some (.tup xs)) (hb : EF tb σ G fun v G' => ∃ p, v = .ref p ∧ G' p = some (.tup ys)) (h1 : xs ≠ []) (h2 : ys ≠ []) (h3 : xs.length + ys.length ≤ 1000) (h : ∀ p G', G' p = some (.tup (xs ++ ys)) → P (.ref p) G') : EF (tOp (rCatT K) ta tb) σ G P :=
  ef_op (Pa := fun v G' => ∃ p, v = .ref p ∧ G' p = some (.tup xs)) (Pb := fun v G' => ∃ p, v = .ref p ∧ G' p = some (.tup ys)) (fun v G G' e ⟨p, ev, hp⟩ => ⟨p, ev, e _ _ hp⟩) (fun v G G' e ⟨p, ev, hp⟩ => ⟨p, ev, e _ _ hp⟩) ha hb fun x y G' e ⟨p, ex, hp⟩ ⟨q, ey, hq⟩ => fun H e2 Q k =>
    ⟨p, q, xs, ys, ex, ey, Evl.st_of (e2 _ _ hp), Evl.st_of (e2 _ _ hq), h1, Nat.le_trans h3 (by decide), fun z => absurd z h2, fun _ r hr => k _ _ _ (.new e2 hr) (h r _ upd_same)⟩
/-- data in a row -/
theorem ea_dnil {α : Type} {p : α → Prop} {l : α} (h : p l) : EA tNil σ G fun vs G' => ∃ l, p l ∧ DpAll K G' vs [] := fun H e _ q => q [] G H (.refl e) ⟨l, h, .nil⟩
theorem ea_done {α : Type} {p : α → Prop} {f : α → PyData} (ha : EF ta σ G fun v G' => ∃ l, p l ∧ Dp K G' v (f l)) : EA (tCons ta tNil) σ G fun vs G' => ∃ l, p l ∧ DpAll K G' vs [f l] := (ea_one ha).imp fun vs G' _ ⟨x, ev, l, hl, hd⟩ => ⟨l, hl, by rw [ev]; exact .cons hd .nil⟩
theorem ea_dcons {α : Type} {p : α → Prop} {ds : α → List PyData} {d : PyData} {tl : TA} (ha : EF ta σ G (DV K d)) (hr : EA tl σ G fun vs G' => ∃ l, p l ∧ DpAll K G' vs (ds l)) : EA (tCons ta tl) σ G fun vs G' => ∃ l, p l ∧ DpAll K G' vs (d :: ds l) :=
  ea_cons mo_DV (fun vs G G' e ⟨l, hl, hd⟩ => ⟨l, hl, dpax hd e⟩) ha hr fun x xs G' _ hx ⟨l, hl, hd⟩ => ⟨l, hl, .cons hx hd⟩
theorem ef_tupD {α : Type} {p : α → Prop} {ds : α → List PyData} {tl : TA} (h : EA tl σ G fun vs G' => ∃ l, p l ∧ DpAll K G' vs (ds l)) (hl : ∀ l, (ds l).length ≤ 1000) : EF (tTup tl) σ G fun v G' => ∃ l, p l ∧ Dp K G' v (.tuple (ds l)) :=
  ef_tup h (fun vs G' ⟨l, _, hd⟩ => by rw [dpa_len hd]; exact hl l) fun q vs G' _ _ hq ⟨l, hl, hd⟩ => ⟨l, hl, dp_mkT upd_same (dpax hd (ex_in hq))⟩
end
/-- what is told of a layout, or of its error -/
def vD (lens parks : List Int) (l : List (Int × Int)) : LV → PyData
  | .ok => .tuple [.str "layout", .int (lens.length : Int), dI lens, .list ((marksOf lens.length parks).map PyData.bool), dPs l]
  | .len z => errD "BadLength" z true true false
  | .no b => errD "NoBlock" b true true false
  | .bad w e => .tuple [.str "BadJoint", .int w, .int e, .bool true, .bool true, .bool false]
  | .crowd b c => .tuple [.str "CrowdedEnd", .int b, .str (sd c), .bool true, .bool true, .bool false]
def TD (K : PySem.W.Frag) (lens parks : List Int) (js : List (Int × Int)) : VP := fun v G => ∃ l : List (Int × Int), (ver lens parks js = .ok → l.Perm js ∧ l.Pairwise lexLe) ∧ Dp K G v (vD lens parks l (ver lens parks js))
theorem mo_TD {K : PySem.W.Frag} {lens parks : List Int} {js : List (Int × Int)} : Mo (TD K lens parks js) := fun v G G' e ⟨l, h, d⟩ => ⟨l, h, dpx d e⟩
theorem td_same {K : PySem.W.Frag} {lens parks : List Int} {js : List (Int × Int)} {v w : V} {G : Hp} (n2 : lens.length ≤ 200) (hj : js.length ≤ 900) (h1 : TD K lens parks js v G) (h2 : TD K lens parks js w G) : ∃ d, Dp K G v d ∧ Dp K G w d ∧ Okb 3 d := by
  obtain ⟨l, hl, d1⟩ := h1
  obtain ⟨m, hm, d2⟩ := h2
  cases hv : ver lens parks js with
  | ok =>
    rw [hv] at d1 d2
    have e : l = m := sort_uniq ((hl hv).1.trans (hm hv).1.symm) (hl hv).2 (hm hv).2
    subst e
    refine ⟨_, d1, d2, ?_⟩
    have ll := (hl hv).1.length_eq
    unfold vD Okb
    refine ⟨by simp, fun d m => ?_⟩
    simp only [List.mem_cons, List.not_mem_nil, or_false] at m
    rcases m with rfl | rfl | rfl | rfl | rfl
    · simp [Okb]
    · simp [Okb]
    · unfold dI Okb
      refine ⟨by rw [List.length_map]; omega, fun d m => ?_⟩
      obtain ⟨q, _, rfl⟩ := List.mem_map.mp m
      simp [Okb]
    · unfold Okb
      refine ⟨by rw [List.length_map, marks_len]; omega, fun d m => ?_⟩
      obtain ⟨q, _, rfl⟩ := List.mem_map.mp m
      simp [Okb]
    · unfold dPs Okb
      refine ⟨by rw [List.length_map]; omega, fun d m => ?_⟩
      obtain ⟨q, _, rfl⟩ := List.mem_map.mp m
      unfold dP Okb
      exact ⟨by simp, fun d m => by simp at m; rcases m with rfl | rfl <;> simp [Okb]⟩
  | len z => rw [hv] at d1 d2; exact ⟨_, d1, d2, by unfold vD errD Okb; exact ⟨by simp, fun d m => by simp at m; rcases m with rfl | rfl | rfl | rfl <;> simp [Okb]⟩⟩
  | no z => rw [hv] at d1 d2; exact ⟨_, d1, d2, by unfold vD errD Okb; exact ⟨by simp, fun d m => by simp at m; rcases m with rfl | rfl | rfl | rfl <;> simp [Okb]⟩⟩
  | bad z y => rw [hv] at d1 d2; exact ⟨_, d1, d2, by unfold vD Okb; exact ⟨by simp, fun d m => by simp at m; rcases m with rfl | rfl | rfl | rfl | rfl <;> simp [Okb]⟩⟩
  | crowd z y => rw [hv] at d1 d2; exact ⟨_, d1, d2, by unfold vD Okb; exact ⟨by simp, fun d m => by simp at m; rcases m with rfl | rfl | rfl | rfl | rfl <;> simp [Okb]⟩⟩
end Lw

set_option Elab.async false
set_option linter.all false
set_option maxRecDepth 100000
set_option maxHeartbeats 4000000
/-! three new lists that are changed -/
namespace Lw
open PySem L2
open Evl (Ex)
def rIns : V → List V → Hp → VK → Prop := fun x vs H Q => ∃ (l : Addr) (xs : List V) (i : Int) (y : V), x = .ref l ∧ vs = [.int i, y] ∧ H l = some (.lst xs) ∧ xs.length < sizeLine ∧ 0 ≤ i ∧ i < 2 ^ 63 ∧ Q .non (upd H l (.lst (xs.take i.toNat ++ [y] ++ xs.drop i.toNat)))
structure Fr3 (H : Hp) (la ja pa : Addr) : Prop where
  l : H la = none
  j : H ja = none
  p : H pa = none
  lj : la ≠ ja
  lp : la ≠ pa
  jp : ja ≠ pa
/-- lengths, joints and yards as they stand now -/
structure C3 (K : PySem.W.Frag) (G H : Hp) (la ja pa : Addr) (n J0 P0 b : Nat) (H1 Gk : Hp) (ls : List Int) (vj : List V) (js : List (Int × Int)) (ps : List Int) : Prop where
  g : Gr G Gk H H1
  kl : Gk la = none
  kj : Gk ja = none
  kp : Gk pa = none
  hl : H1 la = some (.lst (ls.map V.int))
  hj : H1 ja = some (.lst vj)
  hp : H1 pa = some (.lst (ps.map V.int))
  d : DpAll K Gk vj (js.map dP)
  ln : ls.length = n
  j0 : J0 ≤ js.length
  j1 : js.length ≤ J0 + b
  p0 : P0 ≤ ps.length
  p1 : ps.length ≤ P0 + b
def CS (K : PySem.W.Frag) (G H : Hp) (la ja pa : Addr) (n J0 P0 b : Nat) (H1 : Hp) : Prop := ∃ Gk ls vj js ps, C3 K G H la ja pa n J0 P0 b H1 Gk ls vj js ps
section
variable {K : PySem.W.Frag} {σ : L2.St} {G G' H H' H1 H2 Gk : Hp} {la ja pa : Addr} {n J0 P0 b b' : Nat} {ls ps : List Int} {vj : List V} {js : List (Int × Int)} {ta tb te ti tc : TE} {P : VP} {D : Ends}
theorem C3.up (h : C3 K G H la ja pa n J0 P0 b H1 Gk ls vj js ps) (e : Ex H1 H2) : C3 K G H la ja pa n J0 P0 b H2 Gk ls vj js ps := { h with g := h.g.then e, hl := e _ _ h.hl, hj := e _ _ h.hj, hp := e _ _ h.hp }
theorem CS.up (h : CS K G H la ja pa n J0 P0 b H1) (e : Ex H1 H2) : CS K G H la ja pa n J0 P0 b H2 := by
  obtain ⟨Gk, ls, vj, js, ps, h⟩ := h
  exact ⟨Gk, ls, vj, js, ps, h.up e⟩
theorem CS.wide (h : CS K G H la ja pa n J0 P0 b H1) (e : b ≤ b') : CS K G H la ja pa n J0 P0 b' H1 := by
  obtain ⟨Gk, ls, vj, js, ps, h⟩ := h
  exact ⟨Gk, ls, vj, js, ps, { h with j1 := by have := h.j1; omega, p1 := by have := h.p1; omega }⟩
theorem C3.lenJ (h : C3 K G H la ja pa n J0 P0 b H1 Gk ls vj js ps) : vj.length = js.length := by rw [dpa_len h.d, List.length_map]
theorem C3.exJ (h : C3 K G H la ja pa n J0 P0 b H1 Gk ls vj js ps) : Ex (upd Gk ja (.lst vj)) H1 := ex_know h.g.ok h.hj
theorem C3.exP (h : C3 K G H la ja pa n J0 P0 b H1 Gk ls vj js ps) : Ex (upd Gk pa (.lst (ps.map V.int))) H1 := ex_know h.g.ok h.hp
/-- a pair put into the joints -/
theorem st_insJ {at' : Int} (fr : Fr3 H la ja pa) (h : C3 K G H la ja pa n J0 P0 b H1 Gk ls vj js ps) (h0 : 0 ≤ at') (h1 : at' < 100000) (hz : J0 + b < 900) (ho : σ[3]? = some (some (.ref ja))) (hat : σ[10]? = some (some (.int at'))) (hT : TR te σ Gk H1 fun v G' => ∃ p, Dp K G' v (dP p))
    (k : ∀ H2, CS K G H la ja pa n J0 P0 (b + 1) H2 → D.nx σ H2) : tDrop (tBM K "list" rIns (tVar 3) (tCons (tVar 10) (tCons te tNil))) D σ H1 := by
  refine ⟨.ref ja, ho, .inl ⟨rfl, vj, Evl.sq_of h.hj⟩, .int at', hat, hT _ fun v G2 H2 g ⟨p, hp⟩ => ?_⟩
  have h2j := g.hp _ _ h.hj
  have lv := h.lenJ
  have j1 := h.j1
  refine ⟨ja, vj, at', v, rfl, rfl, h2j, Nat.lt_of_le_of_lt (m := 900) (by omega) (by decide), h0, by omega, ?_⟩
  have gA := h.g.trans g
  have kj := g.2.2.2 ja (ne_none_of h.hj) h.kj
  refine k _ ⟨G2, ls, vj.take at'.toNat ++ [v] ++ vj.drop at'.toNat, js.take at'.toNat ++ [p] ++ js.drop at'.toNat, ps, gA.put fr.j kj, g.2.2.2 la (ne_none_of h.hl) h.kl, kj, g.2.2.2 pa (ne_none_of h.hp) h.kp, by rw [upd_ne fr.lj]; exact g.hp _ _ h.hl, upd_same, by rw [upd_ne fr.jp.symm]; exact g.hp _ _ h.hp, ?_, h.ln, ?_, ?_, h.p0, ?_⟩
  · have d2 := dpax h.d g.up
    rw [List.map_append, List.map_append, List.map_take, List.map_drop]
    exact dpa_cat (dpa_cat (dpa_take _ d2) (.cons hp .nil)) (dpa_drop _ d2)
  · have := h.j0
    simp only [List.length_append, List.length_take, List.length_drop, List.length_singleton]
    omega
  · simp only [List.length_append, List.length_take, List.length_drop, List.length_singleton]
    omega
  · have := h.p1
    omega
where
  dpa_cat {G : Hp} : ∀ {vs us : List V} {ds es : List PyData}, DpAll K G vs ds → DpAll K G us es → DpAll K G (vs ++ us) (ds ++ es)
    | _, _, _, _, .nil, h => h
    | _, _, _, _, .cons a r, h => .cons a (dpa_cat r h)
/-- an int put into the yards -/
theorem st_insP {z : Int} (fr : Fr3 H la ja pa) (h : C3 K G H la ja pa n J0 P0 b H1 Gk ls vj js ps) (hz : P0 + b < 900) (ho : σ[4]? = some (some (.ref pa))) (hT : TR ti σ Gk H1 (IV fun z => 0 ≤ z ∧ z < 100000)) (hv : ∀ G, EF te σ G (XV (.int z)))
    (k : ∀ H2, CS K G H la ja pa n J0 P0 (b + 1) H2 → D.nx σ H2) : tDrop (tBM K "list" rIns (tVar 4) (tCons ti (tCons te tNil))) D σ H1 := by
  refine ⟨.ref pa, ho, .inl ⟨rfl, _, Evl.sq_of h.hp⟩, hT _ fun v G2 H2 g ⟨i, ei, hi⟩ => hv G2 H2 g.ok _ fun u G3 H3 g3 pu => ?_⟩
  subst ei
  rw [show u = _ from pu]
  have g := g.trans g3
  have p1 := h.p1
  refine ⟨pa, ps.map V.int, i, .int z, rfl, rfl, g.hp _ _ h.hp, Nat.lt_of_le_of_lt (m := 900) (by rw [List.length_map]; omega) (by decide), hi.1, by omega, ?_⟩
  have gA := h.g.trans g
  have kp := g.2.2.2 pa (ne_none_of h.hp) h.kp
  refine k _ ⟨G3, ls, vj, js, ps.take i.toNat ++ [z] ++ ps.drop i.toNat, gA.put fr.p kp, g.2.2.2 la (ne_none_of h.hl) h.kl, g.2.2.2 ja (ne_none_of h.hj) h.kj, kp, by rw [upd_ne fr.lp]; exact g.hp _ _ h.hl, by rw [upd_ne fr.jp]; exact g.hp _ _ h.hj, ?_, dpax h.d g.up, h.ln, h.j0, by have := h.j1; omega, ?_, ?_⟩
  · rw [upd_same, List.map_append, List.map_append, List.map_take, List.map_drop]
    rfl
  · have := h.p0
    simp only [List.length_append, List.length_take, List.length_drop, List.length_singleton]
    omega
  · simp only [List.length_append, List.length_take, List.length_drop, List.length_singleton]
    omega
/-- a length put to another one -/
theorem st_setL {i : Nat} (fr : Fr3 H la ja pa) (h : C3 K G H la ja pa n J0 P0 b H1 Gk ls vj js ps) (hi : i < n) (ho : σ[2]? = some (some (.ref la))) (h7 : σ[7]? = some (some (.int (i : Int)))) (hT : EF te σ Gk (IV fun _ => True)) (k : ∀ H2, CS K G H la ja pa n J0 P0 b H2 → D.nx σ H2) :
    tAsg te (gSub (tVar 2) (tVar 7) rSetL) D σ H1 := hT H1 h.g.ok _ fun v G2 H2 g ⟨z, ez, _⟩ => by
  subst ez
  refine ⟨.ref la, ho, .int (i : Int), h7, la, ls.map V.int, (i : Int), i, rfl, rfl, g.hp _ _ h.hl, ixN_nat (by rw [List.length_map, h.ln]; exact hi), ?_⟩
  have gA := h.g.trans g
  have kl := g.2.2.2 la (ne_none_of h.hl) h.kl
  exact k _ ⟨G2, ls.set i z, vj, js, ps, gA.put fr.l kl, kl, g.2.2.2 ja (ne_none_of h.hj) h.kj, g.2.2.2 pa (ne_none_of h.hp) h.kp, by rw [upd_same, List.map_set], by rw [upd_ne fr.lj.symm]; exact g.hp _ _ h.hj, by rw [upd_ne fr.lp.symm]; exact g.hp _ _ h.hp, dpax h.d g.up, by rw [List.length_set]; exact h.ln, h.j0, h.j1, h.p0, h.p1⟩
theorem EF.tr {P : VP} (h : EF te σ Gk P) (e : Ex Gk H1) : TR te σ Gk H1 P := fun Q q => h H1 e Q q
/-- .. what is known of a list being of no use later -/
theorem EF.trJ {P P' : VP} (h : EF te σ (upd Gk ja (.lst vj)) P') (e : Ex Gk H1) (e2 : Ex (upd Gk ja (.lst vj)) H1) (hP : ∀ v G', P' v G' → P v Gk) : TR te σ Gk H1 P := fun Q q => h H1 e2 Q fun v G2 H2 g p => q v Gk H2 (.same e g.hp) (hP v G2 p)
end
end Lw

set_option Elab.async false
set_option linter.all false
set_option maxRecDepth 100000
set_option maxHeartbeats 4000000
/-! len(set(..)), list.count, any, or; f(.., k = v) with errors; a list that is changed -/
namespace Lw
open PySem PySem.Spec PyProof.Rows L2
open Evl (Ex)
def metN (ns : List Int) : Nat := (firstMet (fun i => ns.getD i 0) ns.length).length
def tLenSetD (K : PySem.W.Frag) (ta : TE) : TE := fun σ H Q => ta σ H fun x H1 => ∃ (l : Addr) (ns : List Int), x = .ref l ∧ SqL K H1 l (ns.map V.int) ∧ ns.length ≤ 4000 ∧ Q (.int (metN ns : Nat)) H1
theorem pe_lenSetD {X : Cx} {a : Expr} {ta : TE} {p p2 q pos : Pos} (hg : Gl X "len") (hm : X.mg "len" = none) (hg2 : Gl X "set") (hm2 : X.mg "set" = none) (ha : PE X a ta) (hc : X.calm = true := by rfl)
    (na : starEach [a] X.env = (false, eval a X.env) :: starEach [] X.env := by rfl) : PE X (.Call (.Name "len" p) [.Call (.Name "set" p2) [a] [] q] [] pos) (tLenSetD X.K ta) := by
  refine ⟨fun pins s σ H Q I h => ?_⟩
  refine Call_ (ld_blt I hg hm boot_len ?_)
  refine PyProof.Rows.callWith_builtin1 (PyProof.Rows.args_cons ?_ rfl) rfl rfl
  refine Call_ (ld_blt I hg2 hm2 boot_set ?_)
  refine PyProof.Rows.callWith_type1 (PyProof.Rows.args_cons (thn (ha.run pins s σ H _ I h) fun v s1 ⟨x, H1, I1, r1, q1⟩ => PyProof.Rows.args_nil ?_) na) na rfl
  obtain ⟨l, ns, rfl, hq, hl, q1⟩ := q1
  cases r1
  obtain ⟨its, r, pl, hz⟩ := I1.list hq
  have hlen : its.toArray.size = ns.length := by rw [List.size_toArray, ← r.length, List.length_map]
  refine call_set_list (I1.ok.hd hc) pl.isList (by simpa using RZ.intsAre_vals r) (by rw [hlen]; unfold scanBound; omega) fun h' tk hS hk => ?_
  refine PyProof.Rows.args_nil ?_
  rw [hlen] at hS
  have hle := firstMet_length_le (fun i => ns.getD i 0) ns.length
  obtain ⟨o, es, ep, t, ho, hex, hd, _, _, _, hf, hn⟩ := hS
  have I2 : Inv X pins σ H1 { s1 with heap := h', toks := tk } := I1.kept fun b o e => hk b o (Heap.lt_size e) e
  exact call_len_set ho hex hd hf (by rw [hn] <;> omega) ⟨.int (metN ns : Nat), H1, I2.tok _, ⟨_, by rw [hn]; rfl⟩, q1⟩
theorem met_nd (ns : List Int) : ∀ i, i ≤ ns.length → ((firstMet (fun i => ns.getD i 0) i).length = i ↔ (ns.take i).Nodup)
  | 0, _ => by simp [firstMet_zero]
  | i + 1, h => by
    have ih := met_nd ns i (by omega)
    have hle := firstMet_length_le (fun i => ns.getD i 0) i
    have e1 : ns.getD i 0 = ns[i] := by rw [List.getD_eq_getElem?_getD, List.getElem?_eq_getElem (by omega)]; rfl
    have e2 : ns.take (i + 1) = ns.take i ++ [ns[i]] := by rw [List.take_add_one, List.getElem?_eq_getElem (by omega)]; rfl
    have e3 : (List.range i).map (fun i => ns.getD i 0) = ns.take i := by
      apply List.ext_getElem
      · simp; omega
      · intro k h1 h2
        simp only [List.length_map, List.length_range] at h1
        simp only [List.getElem_map, List.getElem_range, List.getElem_take]
        rw [List.getD_eq_getElem?_getD, List.getElem?_eq_getElem (by omega)]; rfl
    have an := firstMet_any (fun i => ns.getD i 0) i ns[i]
    rw [e3] at an
    rw [firstMet_succ, e2]
    unfold step_dedup
    simp only [e1]
    rw [an]
    by_cases hb : ((ns.take i).any (· == ns[i])) = true
    · rw [if_pos hb]
      refine ⟨fun z => by omega, fun z => ?_⟩
      obtain ⟨y, hy, ey⟩ := List.any_eq_true.mp hb
      have ey2 : y = ns[i] := eq_of_beq ey
      rw [List.nodup_append] at z
      exact absurd ey2 (z.2.2 y hy ns[i] (by simp))
    · rw [if_neg hb, List.length_append, List.length_singleton, List.nodup_append]
      have hno : ∀ a ∈ ns.take i, ∀ b ∈ [ns[i]], a ≠ b := fun a ha b hb2 e => hb (List.any_eq_true.mpr ⟨a, ha, by rw [e, List.mem_singleton.mp hb2]; exact beq_self_eq_true _⟩)
      refine ⟨fun z => ⟨ih.mp (by omega), List.nodup_cons.mpr ⟨List.not_mem_nil, List.nodup_nil⟩, hno⟩, fun z => by have := ih.mpr z.1; omega⟩
theorem metN_iff (ns : List Int) : metN ns = ns.length ↔ ns.Nodup := by
  have h := met_nd ns ns.length (Nat.le_refl _)
  rw [List.take_length] at h
  exact h
theorem count_nd (ns : List Int) : (ns.filter fun z => decide (1 < ((ns.count z : Nat) : Int))).length = 0 ↔ ns.Nodup := by
  rw [List.length_eq_zero_iff, List.filter_eq_nil_iff, List.nodup_iff_count]
  refine ⟨fun h z => ?_, fun h z _ => by have := h z; simp; omega⟩
  by_cases m : z ∈ ns
  · have := h z m
    simp at this
    omega
  · rw [List.count_eq_zero_of_not_mem m]; omega
section
variable {X : Cx} {CX : CXT} {k : Nat} {f C : Addr} {fd : FuncData} {ps ks : List Str} {sp : Sp} {E : L2.St → XK} {x : Str} {p pos : Pos} {e o : Expr} {es : List Expr} {kws : List Keyword} {ta : TE} {t tk : TA} {g : List Value → List Value → List Value} {gV : List V → List V → List V}
def tCallKX (sp : Sp) (gV : List V → List V → List V) (E : L2.St → XK) (t tk : TA) : TE := fun σ H Q => t σ H fun vs H1 => tk σ H1 fun zs H2 => sp (gV vs zs) H2 Q (E σ)
theorem pe_callKX (F : FnOk X.prog X.w X.K X.mg X.base CX k f fd ps sp) (hr : Room k X.A) (hg : Gl X x) (hm : X.mg x = some (.ref f)) (hk : PySem.W.keepIn X.K (.ref f) = true) (hb : KBinds X.K fd ps ks g gV) (hx : ∀ σ, PassesAt CX X σ (E σ)) (ha : PA X (e :: es) t) (hkw : PK X kws tk)
    (hall : (backToKw pos (keywordEach kws X.env)).all (·.1.isSome) = true := by rfl) (hks : (backToKw pos (keywordEach kws X.env)).filterMap (·.1) = ks := by rfl) (hst : starEach (e :: es) X.env = (false, eval e X.env) :: starEach es X.env := by rfl) (hdb : (x == ("__debug__" : Str)) = false := by decide)
    (hpl : ((backTo pos (starEach (e :: es) X.env)).any (·.1) || (backToKw pos (keywordEach kws X.env)).any (·.1.isNone)) = false := by rfl) :
    PE X (.Call (.Name x p) (e :: es) kws pos) (tCallKX sp gV E t tk) := by
  refine ⟨fun pins s σ H Q I h => wpAny_Call_Name_kw (ld_glob I hg hm ?_ hdb)⟩
  refine PySem.W.callWith_KW (first := []) (h₀ := X.base) I.ok.mod.kin hk hall (thn (ha.run pos pins s σ H _ I h) fun us s2 ⟨vs, H2, I2, r, q2⟩ => ?_) hpl hst
  refine thn (hkw.run pos pins s2 σ H2 _ I2 q2) fun ws s3 ⟨zs, H3, I3, rz, q3⟩ => ⟨I3.kIn, ?_⟩
  rw [hks]
  exact run_kwX F hr hb (hx σ) I3 r rz q3
end
section
variable {K : PySem.W.Frag} {σ : L2.St} {G G' H H' H1 H2 Gk : Hp} {q : Addr} {b : Nat} {ta tb te ti tc tl tl0 : TE} {P : VP} {D : Ends}
theorem eb_or {p r s : Bool → Prop} (h1 : EF ta σ G (BV p)) (h2 : p false → EF tb σ G (BV r)) (ht : p true → s true) (hf : p false → ∀ b, r b → s b) : EF (tOrV ta tb) σ G (BV s) := fun H e Q k => h1 H e _ fun v G1 H1 g1 hv => by
  obtain ⟨z, ez, pz⟩ := hv
  refine ⟨z, ez, ?_⟩
  cases z
  · rw [if_neg Bool.false_ne_true]
    exact h2 pz H1 (g1.up.trans g1.ok) _ fun u G2 H2 g2 ⟨c, ec, hc⟩ => k u G2 H2 (((Gr.same e g1.hp).trans g2)) ⟨c, ec, hf pz c hc⟩
  · rw [if_pos rfl]
    exact k _ G1 H1 g1 ⟨true, rfl, ht pz⟩
theorem ex_any {bs : List Bool} (h : EF ta σ G (DV K (.list (bs.map PyData.bool)))) : EF (tCB (rAny K) (tCons ta tNil)) σ G (BV (· = bs.any id)) := fun H e Q k => h H e _ fun v G1 H1 g1 d => by
  obtain ⟨a, xs, rfl, hs, hd⟩ := dp_lst d
  rw [dpa_bls_eq hd] at hs
  exact ⟨a, bs, rfl, Evl.ex_l g1.ok hs, k _ G1 H1 g1 ⟨_, rfl, rfl⟩⟩
theorem ex_count {ns : List Int} {z : Int} {a : Addr} (ha : EF ta σ G (XV (.ref a))) (hs : SqL K G a (ns.map V.int)) (hz : EF tb σ G (XV (.int z))) : EF (tBM K "list" (rCntI K) ta (tCons tb tNil)) σ G (XV (.int (ns.count z : Nat))) := fun H e Q k => ha H e _ fun v G1 H1 g1 p1 => by
  cases (show v = _ from p1)
  refine ⟨.inl ⟨rfl, _, Evl.ex_l (g1.up.trans g1.ok) hs⟩, hz H1 (g1.up.trans g1.ok) _ fun u G2 H2 g2 p2 => ?_⟩
  cases (show u = _ from p2)
  exact ⟨a, ns, z, rfl, rfl, Evl.ex_l (g2.up.trans g2.ok) hs, k _ G2 H2 ((Gr.same e g1.hp).trans g2) rfl⟩
theorem ex_lenSet {ns : List Int} (h : EF ta σ G (DV K (dI ns))) (hl : ns.length ≤ 4000) : EF (tLenSetD K ta) σ G (XV (.int (metN ns : Nat))) := fun H e Q k => h H e _ fun v G1 H1 g1 d => by
  obtain ⟨a, xs, rfl, hs, hd⟩ := dp_lst d
  rw [dpa_ints_eq hd] at hs
  exact ⟨a, ns, rfl, Evl.ex_l g1.ok hs, hl, k _ G1 H1 g1 rfl⟩
/-- an int that is read, whatever else the heap holds -/
def EH (te : TE) (σ : L2.St) (H1 : Hp) (p : Int → Prop) : Prop := ∀ H2, Ex H1 H2 → ∀ Q : VK, (∀ z H3, Ex H2 H3 → p z → Q (.int z) H3) → te σ H2 Q
theorem EF.eh {p : Int → Prop} (h : EF te σ G (IV p)) (e : Ex G H1) : EH te σ H1 p := fun H2 e2 Q q => h H2 (e.trans e2) Q fun v G' H' g ⟨z, ez, pz⟩ => by rw [ez]; exact q z H' g.hp pz
/-- a new list of ints as it stands now -/
structure OX (G H : Hp) (q : Addr) (b : Nat) (H1 Gk : Hp) (ls : List Int) : Prop where
  g : Gr G Gk H H1
  kq : Gk q = none
  hq : H1 q = some (.lst (ls.map V.int))
  len : ls.length ≤ b
def OW (G H : Hp) (q : Addr) (b : Nat) (H1 : Hp) : Prop := ∃ Gk ls, OX G H q b H1 Gk ls
theorem OW.up (h : OW G H q b H1) (e : Ex H1 H2) : OW G H q b H2 := by
  obtain ⟨Gk, ls, h⟩ := h
  exact ⟨Gk, ls, h.g.then e, h.kq, e _ _ h.hq, h.len⟩
theorem OW.wide {b' : Nat} (h : OW G H q b H1) (e : b ≤ b') : OW G H q b' H1 := by
  obtain ⟨Gk, ls, h⟩ := h
  exact ⟨Gk, ls, h.g, h.kq, h.hq, Nat.le_trans h.len e⟩
theorem OX.ex {ls : List Int} (h : OX G H q b H1 Gk ls) : Ex (upd Gk q (.lst (ls.map V.int))) H1 := ex_know h.g.ok h.hq
theorem st_ins1 {i : Nat} {p : Int → Prop} (fr : H q = none) (h : OW G H q b H1) (hb : b < 900) (ho : σ[i]? = some (some (.ref q))) (hi : ∀ Gk ls, OX G H q b H1 Gk ls → EH ti σ H1 fun z => 0 ≤ z ∧ z < 100000) (hv : ∀ Gk ls, OX G H q b H1 Gk ls → EH te σ H1 p)
    (k : ∀ H2, OW G H q (b + 1) H2 → D.nx σ H2) : tDrop (tBM K "list" rIns (tVar i) (tCons ti (tCons te tNil))) D σ H1 := by
  obtain ⟨Gk, ls, h⟩ := h
  refine ⟨.ref q, ho, .inl ⟨rfl, _, Evl.sq_of h.hq⟩, hi Gk ls h H1 (Ex.refl _) _ fun z H2 e2 hz => hv Gk ls h H2 e2 _ fun y H3 e3 _ => ?_⟩
  have e13 := e2.trans e3
  have hl := h.len
  refine ⟨q, ls.map V.int, z, .int y, rfl, rfl, e13 _ _ h.hq, Nat.lt_of_le_of_lt (m := 900) (by rw [List.length_map]; omega) (by decide), hz.1, by omega, ?_⟩
  refine k _ ⟨Gk, ls.take z.toNat ++ [y] ++ ls.drop z.toNat, (h.g.then e13).put fr h.kq, h.kq, ?_, ?_⟩
  · rw [upd_same, List.map_append, List.map_append, List.map_take, List.map_drop]
    rfl
  · simp only [List.length_append, List.length_take, List.length_drop, List.length_singleton]
    omega
/-- the list's own facts, once it is handed on -/
theorem OW.know (hG : Ex G H) (fr : H q = none) (h : OW G H q b H1) : ∃ (G' : Hp) (ls : List Int), Gr G G' H H1 ∧ G' q = some (.lst (ls.map V.int)) ∧ ls.length ≤ b := by
  obtain ⟨Gk, ls, h⟩ := h
  exact ⟨_, ls, h.g.know hG fr h.hq, upd_same, h.len⟩
/-- two for's over a list of lists -/
theorem ef_lc2L {j j1 : Nat} {vs vs1 : List Nat} (xs0 : List V) (ys : Nat → List V) (I : Nat → Nat → List V → Hp → Prop) (h : EF tl0 σ G fun v G' => ∃ a, v = .ref a ∧ SqL K G' a xs0)
    (hw : ∀ x, wipe ((wipe σ vs).set j (some x)) vs = wipe σ vs) (hw1 : ∀ x y, wipe ((wipe ((wipe σ vs).set j (some x)) vs1).set j1 (some y)) vs1 = wipe ((wipe σ vs).set j (some x)) vs1) (h0 : ∀ G', Ex G G' → I 0 0 [] G')
    (hx : ∀ (i : Nat) xs G', i < xs0.length → I i (ys i).length xs G' → I (i + 1) 0 xs G')
    (hl : ∀ (i : Nat) x G', Ex G G' → xs0[i]? = some x → EF tl ((wipe σ vs).set j (some x)) G' fun v G'' => ∃ a, v = .ref a ∧ SqL K G'' a (ys i))
    (hm : ∀ i k xs G' G'', Ex G' G'' → I i k xs G' → I i k xs G'')
    (hs : ∀ (i k : Nat) x y xs G', Ex G G' → xs0[i]? = some x → (ys i)[k]? = some y → I i k xs G' → EF te ((wipe ((wipe σ vs).set j (some x)) vs1).set j1 (some y)) G' fun y G' => I i (k + 1) (xs ++ [y]) G')
    (hc : ∀ i k xs G', I i k xs G' → xs.length ≤ 1000000)
    (hP : ∀ p xs G', G p = none → G' p = none → Ex G G' → I xs0.length 0 xs G' → P (.ref p) (upd G' p (.lst xs))) : EF (tLc2 (iList K tl0) (gName j) tYes (iList K tl) (gName j1) tYes te vs vs1) σ G P := fun H0 e Q q => h H0 e _ fun v G1 H1 g1 ⟨a0, ev, hs0⟩ => by
  refine ⟨a0, ev, ⟨xs0, Evl.ex_l g1.ok hs0⟩, fun Dl hD => ?_⟩
  refine ⟨fun i m H' => m = xs0.length - i ∧ i ≤ xs0.length ∧ CX2 G1 H1 Dl (I i 0) H', ⟨xs0.length, by simp, Nat.zero_le _, ?_⟩, ?_⟩
  · exact ⟨G1, [], Ex.refl _, ex_off g1.ok (none_back g1.ok hD), none_back g1.ok hD, upd_same, h0 G1 g1.up, Ex.new hD, fun _ _ h => h⟩
  · rintro i m H' ⟨rfl, hi, p⟩
    obtain ⟨G', xs, e1, e2, gD, hd, hI, e3, hcc⟩ := p
    have hs1 := Evl.ex_l (e1.trans e2) hs0
    by_cases hlt : i < xs0.length
    · refine .inr ⟨⟨xs0, xs0[i], hs1, by simp [hlt]⟩, fun H'' => CX2 G1 H1 Dl (I (i + 1) 0) H'', fun H'' p' => ⟨xs0.length - (i + 1), by omega, rfl, hlt, p'⟩, fun x H'' yy => ?_⟩
      obtain ⟨ey, yy⟩ := yy
      subst ey
      have hxi := yy xs0 hs1
      refine ⟨hw _, tyes_go (iteT ?_)⟩
      refine hl i x G' (g1.up.trans e1) hxi _ e2 _ fun v G2 H2 g2 ⟨a, ea, hsl⟩ => ?_
      refine ⟨a, ea, ⟨ys i, Evl.ex_l g2.ok hsl⟩, fun k m H' => m = (ys i).length - k ∧ k ≤ (ys i).length ∧ CX2 G1 H1 Dl (fun xs G3 => Ex G2 G3 ∧ I i k xs G3) H', ⟨(ys i).length, by simp, Nat.zero_le _, ?_⟩, ?_⟩
      · exact ⟨G2, xs, e1.trans g2.up, g2.ok, g2.2.2.2 Dl (ne_none_of hd) gD, g2.hp _ _ hd, ⟨Ex.refl _, hm _ _ _ _ _ g2.up hI⟩, e3.trans g2.hp, fun b hb gb => g2.2.2.2 b (exNe e3 hb) (hcc b hb gb)⟩
      · rintro k m H3 ⟨rfl, hk, p3⟩
        obtain ⟨G4, xs4, f1, f2, fD, fd, ⟨fe, fI⟩, f3, fc⟩ := p3
        have hsl3 := Evl.ex_l (fe.trans f2) hsl
        by_cases hkl : k < (ys i).length
        · refine .inr ⟨⟨ys i, (ys i)[k], hsl3, by simp [hkl]⟩, fun H'' => CX2 G1 H1 Dl (fun xs G3 => Ex G2 G3 ∧ I i (k + 1) xs G3) H'', fun H'' p' => ⟨(ys i).length - (k + 1), by omega, rfl, hkl, p'⟩, fun y H'' yy => ?_⟩
          obtain ⟨ey, yy⟩ := yy
          subst ey
          have hyk := yy (ys i) hsl3
          refine ⟨hw1 _ _, ?_⟩
          refine tyes_go (iteT ?_)
          refine hs i k x y xs4 G4 (g1.up.trans f1) hxi hyk fI _ f2 _ fun v5 G5 H5 g5 p5 => ?_
          have g5D : G5 Dl = none := g5.2.2.2 Dl (ne_none_of fd) fD
          exact ⟨xs4, g5.hp _ _ fd, Nat.lt_of_le_of_lt (hc _ _ _ _ fI) (by decide), ⟨G5, xs4 ++ [v5], f1.trans g5.up, ex_off g5.ok g5D, g5D, upd_same, ⟨fe.trans g5.up, p5⟩, ex_off (f3.trans g5.hp) hD, fun b hb gb => g5.2.2.2 b (exNe f3 hb) (fc b hb gb)⟩⟩
        · have ek : k = (ys i).length := by omega
          subst ek
          exact .inl ⟨⟨ys i, hsl3, Nat.le_refl _⟩, G4, xs4, f1, f2, fD, fd, hx _ _ _ hlt fI, f3, fc⟩
    · have ei : i = xs0.length := by omega
      subst ei
      refine .inl ⟨⟨xs0, hs1, Nat.le_refl _⟩, ?_⟩
      refine q _ (upd G' Dl (.lst xs)) H' (g1.trans ⟨e1.trans (ex_in gD), ex_know e2 hd, e3, fun a h g => ?_⟩) (hP Dl xs G' (none_back (g1.up.trans g1.ok) hD) gD (g1.up.trans e1) hI)
      rw [upd_ne (fun z => h (by rw [z]; exact hD))]
      exact hcc a h g
end
/-- a list that grows: its data -/
def DSt (K : PySem.W.Frag) (G H H' : Hp) (q : Addr) (L : List PyData) : Prop := ∃ G' vs, Gr G G' H H' ∧ G' q = none ∧ H' q = some (.lst vs) ∧ DpAll K G' vs L
theorem DSt.ok {K : PySem.W.Frag} {G H H1 : Hp} {q : Addr} {L : List PyData} (h : DSt K G H H1 q L) : Ex G H1 := by
  obtain ⟨G', vs, g, _⟩ := h
  exact g.up.trans g.ok
theorem DSt.up {K : PySem.W.Frag} {G H H1 H2 : Hp} {q : Addr} {L : List PyData} (h : DSt K G H H1 q L) (e : Ex H1 H2) : DSt K G H H2 q L := by
  obtain ⟨G', vs, g, gq, hq, hd⟩ := h
  exact ⟨G', vs, g.then e, gq, e _ _ hq, hd⟩
section
variable {K : PySem.W.Frag}
theorem st_dapp {σ : L2.St} {G H H1 : Hp} {D : Ends} {te : TE} {q : Addr} {L : List PyData} {x : PyData} {i : Nat} (hqH : H q = none) (hR : DSt K G H H1 q L) (hz : L.length < 1000) (ho : σ[i]? = some (some (.ref q))) (h : ∀ G', Ex G G' → EF te σ G' fun v G2 => Dp K G2 v x) (k : ∀ H2, DSt K G H H2 q (L ++ [x]) → D.nx σ H2) : tDrop (tBM K "list" rAppend (tVar i) (tCons te tNil)) D σ H1 := by
  obtain ⟨G', vs, g, gq, hq, hd⟩ := hR
  refine st_app (P := fun v G2 => Dp K G2 v x) g.ok hq (ex_var ho) (h G' g.up) (by rw [dpa_len hd]; exact hz) fun v Gb Hb gb pv => k _ ?_
  have gbq : Gb q = none := gb.2.2.2 q (ne_none_of hq) gq
  exact ⟨Gb, vs ++ [v], (g.trans gb).put hqH gbq, gbq, upd_same, dpa_snoc (dpax hd gb.up) pv⟩
end
end Lw

set_option Elab.async false
set_option linter.all false
set_option maxRecDepth 100000
set_option maxHeartbeats 4000000
/-! what can be reached; layouts that are good -/
namespace Lw
open PySem L2
open Evl (Ex)
def inR (js : List (Int × Int)) (heads shut prev : List Int) (b : Int) : Bool := (decide (b ∈ heads) || (wo js b).any fun w => decide (w ∈ prev)) && !decide (b ∈ shut)
def rchN (js : List (Int × Int)) (heads shut : List Int) : Nat → List Int
  | 0 => []
  | i + 1 => rchN js heads shut i ++ (if inR js heads shut (rchN js heads shut i) (i : Int) = true then [(i : Int)] else [])
theorem rch_lt (js : List (Int × Int)) (heads shut : List Int) : ∀ i, ∀ b ∈ rchN js heads shut i, 0 ≤ b ∧ b < (i : Int)
  | 0, b, m => nomatch m
  | i + 1, b, m => by
    unfold rchN at m
    rcases List.mem_append.mp m with m | m
    · have := rch_lt js heads shut i b m; omega
    · split at m
      · have := List.mem_singleton.mp m; omega
      · exact nomatch m
theorem rch_len (js : List (Int × Int)) (heads shut : List Int) : ∀ i, (rchN js heads shut i).length ≤ i
  | 0 => Nat.le_refl _
  | i + 1 => by
    unfold rchN
    have := rch_len js heads shut i
    rw [List.length_append]
    split <;> simp <;> omega
def cutR (n : Nat) (js : List (Int × Int)) (hs es sh : List Int) : Bool := !(es.any fun g => decide (g ∈ rchN js hs sh n))
def cutD (n : Nat) (js : List (Int × Int)) (hs es sh : List Int) : PyData := match badB (n : Int) (hs ++ es ++ sh) with
  | some b => errD "NoBlock" b true true false
  | none => .tuple [.str "told", .bool (cutR n js hs es sh)]
theorem badB_app (n : Int) (a b : List Int) : badB n (a ++ b) = (badB n a).or (badB n b) := by
  unfold badB
  rw [List.find?_append]
theorem marks_set {n i : Nat} {R : List Int} {v : Bool} (hi : i < n) (hR : ∀ b ∈ R, b < (i : Int)) : (marksOf n R).set i v = marksOf n (R ++ (if v = true then [(i : Int)] else [])) := by
  apply List.ext_getElem?
  intro k
  rw [List.getElem?_set]
  by_cases hk : k < n
  · rw [marks_at hk]
    by_cases e : i = k
    · subst e
      rw [if_pos rfl, if_pos (by rw [marks_len]; exact hi)]
      have hn : (i : Int) ∉ R := fun m => by have := hR _ m; omega
      cases v <;> simp [hn, marks_at hk]
    · rw [if_neg e, marks_at hk]
      have e2 : ¬ (k : Int) = (i : Int) := by omega
      cases v <;> simp [e2, marks_at hk]
  · by_cases e : i = k
    · omega
    · rw [if_neg e, List.getElem?_eq_none (by rw [marks_len]; omega), List.getElem?_eq_none (by rw [marks_len]; omega)]
theorem marks_nil (n : Nat) : marksOf n [] = List.replicate n false := by
  unfold marksOf
  apply List.ext_getElem
  · simp
  · intro k h1 h2
    simp
theorem marks_rch {n i : Nat} {js : List (Int × Int)} {hs sh : List Int} (hi : i < n) : (marksOf n (rchN js hs sh i)).set i (inR js hs sh (rchN js hs sh i) (i : Int)) = marksOf n (rchN js hs sh (i + 1)) := marks_set hi fun b m => (rch_lt _ _ _ _ b m).2
theorem jbad_of {n : Int} {parks : List Int} {js : List (Int × Int)} {p : Int × Int} (h : JNew n parks js p.1 p.2) : jbad n parks js p = .ok := by
  have h1 := h.lo
  have h2 := h.lt
  have h3 := h.hi
  unfold jbad
  rw [if_neg (fun z => z ⟨h1, by omega⟩), if_neg (fun z => z ⟨by omega, h3⟩), if_neg (fun z => z.elim (fun y => by omega) h.new), if_neg (fun z => h.ew z.1 z.2), if_neg (fun z => h.we z.1 z.2)]
theorem jver_of {n : Int} {parks : List Int} : ∀ {r js : List (Int × Int)}, JOk n parks (js ++ r) → jver n parks js r = .ok
  | [], js, _ => rfl
  | p :: r, js, h => by
    have hn : JNew n parks ((js ++ p :: r).take js.length) p.1 p.2 := h.at (i := js.length) (by simp)
    rw [List.take_left] at hn
    show (match jbad n parks js p with | .ok => jver n parks (js ++ [p]) r | v => v) = .ok
    rw [jbad_of hn]
    exact jver_of (r := r) (js := js ++ [p]) (by rw [List.append_assoc]; exact h)
theorem ver_of {lens parks : List Int} {js : List (Int × Int)} (h1 : ∀ z ∈ lens, 1 ≤ z) (h2 : ∀ b ∈ parks, 0 ≤ b ∧ b < (lens.length : Int)) (h3 : JOk (lens.length : Int) parks js) : ver lens parks js = .ok := by
  unfold ver
  rw [find_no (fun x m => by have := h1 x m; exact decide_eq_false (by omega)), badB_none h2]
  exact jver_of (js := []) h3
section
variable {K : PySem.W.Frag} {σ : L2.St} {G H : Hp} {C : Addr} {cc : CCs}
theorem ef_makeY {E : XK} {t tk : TA} {lens : List Int} {js : List (Int × Int)} {parks : List Int} (h : EA t σ G fun vs G' => ∃ a1 a2, vs = [.ref a1, .ref a2] ∧ Dp K G' (.ref a1) (dI lens) ∧ Dp K G' (.ref a2) (dPs js)) (hk : EA tk σ G fun zs G' => ∃ a3, zs = [.ref a3] ∧ YdAt K G' a3 parks)
    (n2 : lens.length ≤ 200) (hl : ∀ z ∈ lens, 1 ≤ z) (hp : ∀ b ∈ parks, 0 ≤ b ∧ b < (lens.length : Int)) (hJ : JOk (lens.length : Int) parks js) (hj : js.length ≤ 900) :
    EF (tMakeK C 2 1 (spInitY K C cc) (fun vs zs => vs ++ zs) E t tk) σ G fun v G' => ∃ x, v = .ref x ∧ LayL K C G' x lens parks js := fun H e Q q =>
  h H e _ fun vs G1 H1 g1 ⟨a1, a2, ev, d1, d2⟩ => hk H1 (g1.up.trans g1.ok) _ fun zs G2 H2 g2 ⟨a3, ez, d3⟩ => by
    obtain ⟨G3, f1, f2, g3⟩ := g1.join g2
    subst ev ez
    have hv := ver_of hl hp hJ
    refine ⟨rfl, rfl, fun x dx hx hdx hne => ?_⟩
    have ex2 : Ex H2 (outH (upd (upd H2 dx (.own x)) x (.ins C dx [])) x) := fun a o ha => by
      rw [out_ne (ne_of_none ha hx), upd_ne (ne_of_none ha hx), upd_ne (ne_of_none ha hdx)]
      exact ha
    refine ⟨G3, x, dx, lens, js, parks, a1, a2, a3, rfl, g3.ok.trans (ex2.trans out_ex), none_back g3.ok hx, upd_same, dpx d1 f1, dpx d2 f1, d3.ex f2, n2, hj, by rw [hv]; trivial, fun _ G' H' g hL => ⟨rfl, ?_⟩⟩
    exact q _ G' H' (g3.trans (g.low ex2)) ⟨x, rfl, hL⟩
theorem ef_makeN {E : XK} {t : TA} {lens : List Int} {js : List (Int × Int)} {aY : Addr} (hY : ∀ G, SqT K G aY []) (h : EA t σ G fun vs G' => ∃ a1 a2, vs = [.ref a1, .ref a2] ∧ Dp K G' (.ref a1) (dI lens) ∧ Dp K G' (.ref a2) (dPs js))
    (n2 : lens.length ≤ 200) (hl : ∀ z ∈ lens, 1 ≤ z) (hJ : JOk (lens.length : Int) [] js) (hj : js.length ≤ 900) :
    EF (tMake C (spInitY K C cc) [.ref aY] E t) σ G fun v G' => ∃ x, v = .ref x ∧ LayL K C G' x lens [] js := fun H e Q q =>
  h H e _ fun vs G1 H1 g1 ⟨a1, a2, ev, d1, d2⟩ => by
    subst ev
    have hv := ver_of (parks := []) hl (fun b m => nomatch m) hJ
    intro x dx hx hdx hne
    have ex2 : Ex H1 (outH (upd (upd H1 dx (.own x)) x (.ins C dx [])) x) := fun a o ha => by
      rw [out_ne (ne_of_none ha hx), upd_ne (ne_of_none ha hx), upd_ne (ne_of_none ha hdx)]
      exact ha
    refine ⟨G1, x, dx, lens, js, [], a1, a2, aY, rfl, g1.ok.trans (ex2.trans out_ex), none_back g1.ok hx, upd_same, d1, d2, .inr (hY _), n2, hj, by rw [hv]; trivial, fun _ G' H' g hL => ⟨rfl, ?_⟩⟩
    exact q _ G' H' (g1.trans (g.low ex2)) ⟨x, rfl, hL⟩
end
def skipJ (m : Nat) : List (Int × Int) := (List.range m).map fun b : Nat => ((b : Int), (b : Int) + 2)
theorem skipJ_succ (m : Nat) : skipJ (m + 1) = skipJ m ++ [((m : Int), (m : Int) + 2)] := by
  unfold skipJ
  rw [List.range_succ, List.map_append]; rfl
theorem skipJ_len (m : Nat) : (skipJ m).length = m := by unfold skipJ; rw [List.length_map, List.length_range]
theorem mem_skipJ {m : Nat} {a b : Int} : (a, b) ∈ skipJ m ↔ 0 ≤ a ∧ a < (m : Int) ∧ b = a + 2 := by
  unfold skipJ
  rw [List.mem_map]
  refine ⟨fun ⟨k, hk, e⟩ => ?_, fun ⟨h0, h1, h2⟩ => ⟨a.toNat, List.mem_range.mpr (by omega), ?_⟩⟩
  · have hk := List.mem_range.mp hk
    obtain ⟨rfl, rfl⟩ := Prod.mk.inj e
    exact ⟨by omega, by omega, rfl⟩
  · have : ((a.toNat : Nat) : Int) = a := by omega
    rw [this, h2]
theorem mem_lineJ {m : Nat} {a b : Int} : (a, b) ∈ lineJ m ↔ 0 ≤ a ∧ a < (m : Int) ∧ b = a + 1 := by
  unfold lineJ
  rw [List.mem_map]
  refine ⟨fun ⟨k, hk, e⟩ => ?_, fun ⟨h0, h1, h2⟩ => ⟨a.toNat, List.mem_range.mpr (by omega), ?_⟩⟩
  · have hk := List.mem_range.mp hk
    obtain ⟨rfl, rfl⟩ := Prod.mk.inj e
    exact ⟨by omega, by omega, rfl⟩
  · have : ((a.toNat : Nat) : Int) = a := by omega
    rw [this, h2]
theorem one_le {l : List Int} {c : Int} (hn : l.Nodup) (h : ∀ x ∈ l, x = c) : l.length ≤ 1 := by
  cases l with
  | nil => simp
  | cons x r =>
    cases r with
    | nil => simp
    | cons y r =>
      have e1 := h x (by simp)
      have e2 := h y (by simp)
      rw [List.nodup_cons] at hn
      exact absurd (by rw [e1, e2]; simp) hn.1
theorem eo_app (a b : List (Int × Int)) (z : Int) : eo (a ++ b) z = eo a z ++ eo b z := by simp [eo, List.filter_append]
theorem wo_app (a b : List (Int × Int)) (z : Int) : wo (a ++ b) z = wo a z ++ wo b z := by simp [wo, List.filter_append]
/-- the long layout's joints -/
def longJ (n : Nat) : List (Int × Int) := lineJ (n - 1) ++ skipJ (n - 2)
theorem long_ok (n : Nat) (parks : List Int) : JOk (n : Int) parks (longJ n) := by
  unfold longJ
  by_cases h2 : n = 0
  · subst h2
    exact .nil
  have hl : JOk (n : Int) parks (lineJ (n - 1)) := lineJ_ok _ _ _ (by omega)
  have all : ∀ m, m ≤ n - 2 → JOk (n : Int) parks (lineJ (n - 1) ++ skipJ m) := fun m => by
    induction m with
    | zero => intro _; rw [show skipJ 0 = [] from rfl, List.append_nil]; exact hl
    | succ m ih =>
      intro hm
      rw [skipJ_succ, ← List.append_assoc]
      have nd := fun b => jok_nd hl b
      refine .snoc (ih (by omega)) ⟨by omega, by omega, by omega, fun z => ?_, fun _ z => ?_, fun _ z => ?_⟩
      · rcases List.mem_append.mp z with z | z
        · have := mem_lineJ.mp z; omega
        · have := mem_skipJ.mp z; omega
      · rw [eo_app, List.length_append] at z
        have a1 : (eo (lineJ (n - 1)) (m : Int)).length ≤ 1 := one_le (c := (m : Int) + 1) (nd _).1 fun x hx => by have := mem_lineJ.mp (mem_eo.mp hx); omega
        have a2 : eo (skipJ m) (m : Int) = [] := List.eq_nil_iff_forall_not_mem.mpr fun x hx => by have := mem_skipJ.mp (mem_eo.mp hx); omega
        rw [a2] at z
        simp at z
        omega
      · rw [wo_app, List.length_append] at z
        have a1 : (wo (lineJ (n - 1)) ((m : Int) + 2)).length ≤ 1 := one_le (c := (m : Int) + 1) (nd _).2.1 fun x hx => by have := mem_lineJ.mp (mem_wo.mp hx); omega
        have a2 : wo (skipJ m) ((m : Int) + 2) = [] := List.eq_nil_iff_forall_not_mem.mpr fun x hx => by have := mem_skipJ.mp (mem_wo.mp hx); omega
        rw [a2] at z
        simp at z
        omega
  exact all _ (Nat.le_refl _)
theorem mem_longJ {n : Nat} {a b : Int} : (a, b) ∈ longJ n ↔ 0 ≤ a ∧ ((a < ((n - 1 : Nat) : Int) ∧ b = a + 1) ∨ (a < ((n - 2 : Nat) : Int) ∧ b = a + 2)) := by
  unfold longJ
  rw [List.mem_append, mem_lineJ, mem_skipJ]
  omega
theorem long_cut {n : Nat} {c : Int} (h0 : 1 ≤ c) (h1 : c + 1 < (n : Int) - 1) : cutR n (longJ n) [0] [(n : Int) - 1] [c, c + 1] = true := by
  have all : ∀ i, ∀ b ∈ rchN (longJ n) [0] [c, c + 1] i, b < c := fun i => by
    induction i with
    | zero => exact fun b m => nomatch m
    | succ i ih =>
      intro b m
      unfold rchN at m
      rcases List.mem_append.mp m with m | m
      · exact ih b m
      · split at m
        · rename_i hh
          have e := List.mem_singleton.mp m
          subst e
          unfold inR at hh
          simp only [Bool.and_eq_true, Bool.or_eq_true, decide_eq_true_eq, List.any_eq_true, Bool.not_eq_true', decide_eq_false_iff_not, List.mem_cons, List.not_mem_nil, or_false] at hh
          obtain ⟨h2, h3⟩ := hh
          rcases h2 with h2 | ⟨w, hw, hp⟩
          · omega
          · have := ih w hp
            have hj := mem_longJ.mp (mem_wo.mp hw)
            omega
        · exact nomatch m
  unfold cutR
  have hn : ((n : Int) - 1) ∉ rchN (longJ n) [0] [c, c + 1] n := fun m => by have := all n _ m; omega
  simp [hn]
theorem long_open {n : Nat} {c : Int} (h0 : 1 ≤ c) (h1 : c < (n : Int) - 1) : cutR n (longJ n) [0] [(n : Int) - 1] [c] = false := by
  have all : ∀ i, i ≤ n → ∀ b, 0 ≤ b → b < (i : Int) → b ≠ c → b ∈ rchN (longJ n) [0] [c] i := fun i => by
    induction i with
    | zero => exact fun _ b h1 h2 => by omega
    | succ i ih =>
      intro hi b hb0 hb1 hc
      unfold rchN
      by_cases e : b = (i : Int)
      · refine List.mem_append.mpr (.inr ?_)
        have hh : inR (longJ n) [0] [c] (rchN (longJ n) [0] [c] i) (i : Int) = true := by
          unfold inR
          simp only [Bool.and_eq_true, Bool.or_eq_true, decide_eq_true_eq, List.any_eq_true, Bool.not_eq_true', decide_eq_false_iff_not, List.mem_cons, List.not_mem_nil, or_false]
          refine ⟨?_, by omega⟩
          by_cases i0 : i = 0
          · exact .inl (by omega)
          · right
            by_cases ec : (i : Int) - 1 = c
            · exact ⟨(i : Int) - 2, mem_wo.mpr (mem_longJ.mpr (by omega)), ih (by omega) _ (by omega) (by omega) (by omega)⟩
            · exact ⟨(i : Int) - 1, mem_wo.mpr (mem_longJ.mpr (by omega)), ih (by omega) _ (by omega) (by omega) (by omega)⟩
        rw [if_pos hh, e]
        simp
      · exact List.mem_append.mpr (.inl (ih (by omega) b hb0 (by omega) hc))
  have hn : ((n : Int) - 1) ∈ rchN (longJ n) [0] [c] n := all n (Nat.le_refl _) _ (by omega) (by omega) (by omega)
  unfold cutR
  simp [hn]
end Lw

set_option Elab.async false
set_option linter.all false
set_option maxRecDepth 100000
set_option maxHeartbeats 4000000
/-! == by an own __eq__ that may say no -/
namespace Lw
open PySem PySem.Spec L2
open Evl (Ex)
/-- the type of the other side -/
inductive OTy (H : Hp) : V → Value → Prop where
  | non : OTy H .non (.type "NoneType")
  | bl (b : Bool) : OTy H (.bl b) (.type "bool")
  | int (i : Int) : OTy H (.int i) (.type "int")
  | str (x : Str) : OTy H (.str x) (.type "str")
  | lst {a : Addr} {xs : List V} (e : H a = some (.lst xs)) : OTy H (.ref a) (.type "list")
  | tup {a : Addr} {xs : List V} (e : H a = some (.tup xs)) : OTy H (.ref a) (.type "tuple")
  | ins {a C dx : Addr} {fs : List (Str × V)} (e : H a = some (.ins C dx fs)) : OTy H (.ref a) (.ref C)
def rEqOwn (K : PySem.W.Frag) (C : Addr) (sp : Sp) (E : XK) : R2 := fun x y H Q => ∃ a dx fs t, x = .ref a ∧ H a = some (.ins C dx fs) ∧ OTy H y t ∧ PySem.W.notFirst K C t = true ∧ sp [.ref a, y] H (fun v H2 => ∃ b, v = .bl b ∧ Q (.bl b) H2) E
section
variable {X : Cx} {CX : CXT} {k : Nat} {f C : Addr} {fd : FuncData} {ps : List Str} {sp : Sp} {E : XK}
theorem oty_looks {pins : List (Addr × Obj)} {σ : L2.St} {H : Hp} {s : Shared} {x : V} {u t : Value} (I : Inv X pins σ H s) (rx : RelV x u) (ty : OTy H x t) : PySem.W.Looks (model X.prog X.w) s.heap (typeOf u) t := by
  cases ty with
  | non => cases (show u = Value.none from rx); exact PySem.W.Looks.of_pure rfl
  | bl b => cases (show u = Value.bool b from rx); exact PySem.W.Looks.of_pure rfl
  | int i => obtain ⟨t, q⟩ := (show ∃ t, u = Value.int i t from rx); cases q; exact PySem.W.Looks.of_pure rfl
  | str y => obtain ⟨t, q⟩ := (show ∃ t, u = Value.str y t from rx); cases q; exact PySem.W.Looks.of_pure rfl
  | @lst a xs e =>
    cases (show u = Value.ref a from rx)
    obtain ⟨_, _, n, _, h1⟩ := (show ObjOk X.prog X.w H s.heap a (.lst xs) from I.hok a _ e)
    exact (PySem.W.Looks.ld h1).andThen .now
  | @tup a xs e =>
    cases (show u = Value.ref a from rx)
    obtain ⟨_, _, _, o, h1, h2, _⟩ := (show ObjOk X.prog X.w H s.heap a (.tup xs) from I.hok a _ e)
    exact h2 ▸ (PySem.W.Looks.ld h1).andThen .now
  | @ins a C dx fs e =>
    cases (show u = Value.ref a from rx)
    obtain ⟨m, J, _⟩ := ins_get I.hok e
    obtain ⟨od, J, _⟩ := J.look
    exact J.type
theorem op_eqOwn (hs : PySem.W.findIn X.K (.ref C) "__eq__" = some (some (.ref f))) (hf : PySem.W.isFn X.K (.ref f) = true) (F : FnOk X.prog X.w X.K X.mg X.base CX k f fd ps sp) (hr : Room k X.A) (hb : Binds X.K fd ps []) (hx : Passes CX X E) : OpR X (compareOp .Eq) (rEqOwn X.K C sp E) := by
  intro pins s σ H x y v u Q I rx ry h
  obtain ⟨a, dx, fs, t, rfl, ha, ty, hn, hsp⟩ := h
  cases rx
  show wpAny (model X.prog X.w) X.A (richCompare .Eq (.ref a) u) (EP X pins σ Q) X.xe s
  have lk := oty_looks I ry ty
  obtain ⟨mA, J, _⟩ := ins_get I.hok ha
  obtain ⟨od, J, _⟩ := J.look
  obtain ⟨m, hF⟩ := I.fr
  refine PySem.W.cmp_K (op := .Eq) (tb := t) hr.units0 hF I.ok.mod.kin J lk hn hs hf ?_
  have hl := F.len _ _ _ _ hsp
  have r2 : Vals [V.ref a, y] [Value.ref a, u] := .cons rfl (.cons ry .nil)
  refine wpAny_call (codeAny_mono (F.run X.A X.stack s H ⟨[.ref a, u], []⟩ [.ref a, u] [.ref a, y] _ E hr I.env0 (by
    have := hb s [.ref a, u] I.kIn (by simpa using hl)
    simpa using this) r2 hsp) fun r s' hq => ?_)
  cases r with
  | error e => exact hx pins σ H s e s' I hq
  | ok fl =>
    cases fl with
    | ret w =>
      obtain ⟨z, H', I', rz, b, ez, q⟩ := I.after hq
      subst ez
      cases rz
      exact ⟨.bl b, H', I', rfl, q⟩
    | next => exact False.elim hq
    | brk => exact False.elim hq
    | cont => exact False.elim hq
end
/-- lists of ints, in order, are one list -/
theorem int_uniq : ∀ {l m : List Int}, l.Perm m → l.Pairwise (· ≤ ·) → m.Pairwise (· ≤ ·) → l = m
  | [], m, h, _, _ => by simpa using h.symm
  | x :: l, [], h, _, _ => by simpa using h
  | x :: l, y :: m, h, hl, hm => by
    have e : x = y := by
      have h1 : y ∈ x :: l := h.mem_iff.mpr (by simp)
      have h2 : x ∈ y :: m := h.mem_iff.mp (by simp)
      rcases List.mem_cons.mp h1 with h1 | h1
      · exact h1.symm
      rcases List.mem_cons.mp h2 with h2 | h2
      · exact h2
      have a1 := (List.pairwise_cons.mp hl).1 y h1
      have a2 := (List.pairwise_cons.mp hm).1 x h2
      omega
    subst e
    rw [int_uniq (List.perm_cons x |>.mp h) (List.pairwise_cons.mp hl).2 (List.pairwise_cons.mp hm).2]
def srtI (l : List Int) : List Int := l.mergeSort fun a b => decide (a ≤ b)
theorem srtI_perm (l : List Int) : (srtI l).Perm l := List.mergeSort_perm l _
theorem srtI_sorted (l : List Int) : (srtI l).Pairwise (· ≤ ·) := by
  have := List.pairwise_mergeSort (le := fun a b : Int => decide (a ≤ b)) (fun a b c h1 h2 => by simp at *; omega) (fun a b => by simp; omega) l
  exact this.imp fun h => by simpa using h
theorem srtI_of {l m : List Int} (h : l.Perm m) (hs : l.Pairwise (· ≤ ·)) : l = srtI m := int_uniq (h.trans (srtI_perm m).symm) hs (srtI_sorted m)
theorem srtI_congr {l m : List Int} (h : l.Perm m) : srtI l = srtI m := srtI_of ((srtI_perm l).trans h) (srtI_sorted l)
/-- joints in any order -/
theorem jok_perm {n : Int} {parks : List Int} {js ks : List (Int × Int)} (h : JOk n parks js) (p : ks.Perm js) : JOk n parks ks := by
  have nd := jok_nd h
  have all : ∀ i, i ≤ ks.length → JOk n parks (ks.take i) := fun i => by
    induction i with
    | zero => exact fun _ => .nil
    | succ i ih =>
      intro hi
      obtain ⟨q, hq⟩ : ∃ q, ks[i]? = some q := ⟨ks[i], List.getElem?_eq_getElem (by omega)⟩
      obtain ⟨r, hr⟩ : ∃ r, r = ks.take i := ⟨_, rfl⟩
      obtain ⟨s, hs0⟩ : ∃ s, s = ks.drop (i + 1) := ⟨_, rfl⟩
      have hs : r ++ [q] ++ s = ks := by rw [hr, hs0, ← take_next hq, List.take_append_drop]
      rw [take_next hq]
      rw [← hr] at ih ⊢
      have hm : q ∈ js := p.mem_iff.mp (by rw [← hs]; simp)
      have hb := h.mem hm
      have p2 : (r ++ [q] ++ s).Perm js := by rw [hs]; exact p
      have eoP : (eo (r ++ [q] ++ s) q.1).Perm (eo js q.1) := (p2.filter _).map _
      have woP : (wo (r ++ [q] ++ s) q.2).Perm (wo js q.2) := (p2.filter _).map _
      have e1 : eo (r ++ [q]) q.1 = eo r q.1 ++ [q.2] := eo_snoc_same r q.1 q.2
      have e2 : wo (r ++ [q]) q.2 = wo r q.2 ++ [q.1] := wo_snoc_same r q.1 q.2
      rw [eo_app, e1] at eoP
      rw [wo_app, e2] at woP
      have n1 := eoP.nodup_iff.mpr (nd q.1).1
      have l1 := eoP.length_eq
      have l2 := woP.length_eq
      simp only [List.length_append, List.length_singleton] at l1 l2
      refine .snoc (w := q.1) (e := q.2) (ih (by omega)) ⟨hb.1, hb.2.1, hb.2.2, fun z => ?_, fun hp z => ?_, fun hp z => ?_⟩
      · have m1 : q.2 ∈ eo r q.1 := mem_eo.mpr z
        rw [List.append_assoc, List.nodup_append] at n1
        exact n1.2.2 q.2 m1 q.2 (by simp) rfl
      · have := ((nd q.1).2.2 hp).1; omega
      · have := ((nd q.2).2.2 hp).2; omega
  have := all ks.length (Nat.le_refl _)
  rwa [List.take_length] at this
end Lw

set_option Elab.async false
set_option linter.all false
set_option maxRecDepth 100000
set_option maxHeartbeats 4000000
/-! new lists, layouts over a smaller knowledge, equal layouts -/
namespace Lw
open PySem PySem.Spec L2
open Evl (Ex)
/-- a new list with these data -/
def NwD (K : PySem.W.Frag) (G0 : Hp) (ds : List PyData) : VP := fun v G => ∃ a xs, v = .ref a ∧ G0 a = none ∧ G a = some (.lst xs) ∧ DpAll K G xs ds
section
variable {K : PySem.W.Frag} {C CN : Addr} {σ : L2.St} {G G0 G' H : Hp}
theorem NwD.low {G1 : Hp} {ds : List PyData} {v : V} (e : Ex G0 G1) (h : NwD K G1 ds v G) : NwD K G0 ds v G := by
  obtain ⟨a, xs, ev, h0, h1, h2⟩ := h
  exact ⟨a, xs, ev, none_back e h0, h1, h2⟩
theorem NwD.dp {ds : List PyData} {v : V} (h : NwD K G0 ds v G) : Dp K G v (.list ds) := by
  obtain ⟨a, xs, rfl, _, h1, h2⟩ := h
  exact dp_mkL h1 h2
theorem NwD.ls {ds : List PyData} {v : V} (h : NwD K G0 ds v G) : LS K ds v G := by
  obtain ⟨a, xs, rfl, _, h1, h2⟩ := h
  exact ⟨a, xs, rfl, h1, h2⟩
theorem SA.imp {sp : Sp} {vs : List V} {P P' : VP} (h : SA sp vs G P) (k : ∀ v G', P v G' → P' v G') : SA sp vs G P' := fun H e Q E q => h H e Q E fun v G' H' g p => q v G' H' g (k v G' p)
def spAskG (K : PySem.W.Frag) (C CN : Addr) (P : Hp → Nat → List Int → List (Int × Int) → Int → VP) : Sp := fun vs H Q E => ∃ (G : Hp) (p : Addr) (n : Nat) (parks : List Int) (js : List (Int × Int)) (b : Int), Ex G H ∧ vs = [.ref p, .int b] ∧ LayAt K C G p n parks js ∧ (0 ≤ b ∧ b < (n : Int) → Ret G H (P G n parks js b) Q) ∧ (¬ (0 ≤ b ∧ b < (n : Int)) → Rse CN [("block", .int b)] G H E)
theorem sa_askG {P : Hp → Nat → List Int → List (Int × Int) → Int → VP} {p : Addr} {n : Nat} {parks : List Int} {js : List (Int × Int)} {b : Int} (h : LayAt K C G p n parks js) (h0 : 0 ≤ b) (h1 : b < (n : Int)) : SA (spAskG K C CN P) [.ref p, .int b] G (P G n parks js b) := fun H e Q _ q => ⟨G, p, n, parks, js, b, e, rfl, h, fun _ => q, fun z => absurd ⟨h0, h1⟩ z⟩
def spAskSG (K : PySem.W.Frag) (C CN : Addr) (P : Hp → List Int → List (Int × Int) → Int → Bool → VP) : Sp := fun vs H Q E => ∃ (G : Hp) (p : Addr) (n : Nat) (parks : List Int) (js : List (Int × Int)) (b : Int) (c : Bool), Ex G H ∧ vs = [.ref p, .int b, .str (sd c)] ∧ LayAt K C G p n parks js ∧ (0 ≤ b ∧ b < (n : Int) → Ret G H (P G parks js b c) Q) ∧ (¬ (0 ≤ b ∧ b < (n : Int)) → Rse CN [("block", .int b)] G H E)
theorem sa_askSG {P : Hp → List Int → List (Int × Int) → Int → Bool → VP} {p : Addr} {n : Nat} {parks : List Int} {js : List (Int × Int)} {b : Int} (c : Bool) (h : LayAt K C G p n parks js) (h0 : 0 ≤ b) (h1 : b < (n : Int)) : SA (spAskSG K C CN P) [.ref p, .int b, .str (sd c)] G (P G parks js b c) := fun H e Q _ q => ⟨G, p, n, parks, js, b, c, e, rfl, h, fun _ => q, fun z => absurd ⟨h0, h1⟩ z⟩
def gEast (K : PySem.W.Frag) : Hp → Nat → List Int → List (Int × Int) → Int → VP := fun G0 _ _ js b => NwD K G0 ((srtI (eo js b)).map PyData.int)
def gWest (K : PySem.W.Frag) : Hp → Nat → List Int → List (Int × Int) → Int → VP := fun G0 _ _ js b => NwD K G0 ((srtI (wo js b)).map PyData.int)
def gBranch (K : PySem.W.Frag) : Hp → List Int → List (Int × Int) → Int → Bool → VP := fun G0 _ js b c => NwD K G0 ((srtI (ends js b c)).map PyData.int)
theorem gbranch_nl {G0 : Hp} {parks : List Int} {js : List (Int × Int)} {b : Int} {c : Bool} {v : V} (h : gBranch K G0 parks js b c v G) : NL K (endN js b c) v G := by
  have h2 := NwD.dp h
  exact ⟨srtI (ends js b c), by rw [(srtI_perm _).length_eq, ends_len], h2⟩
/-- pairs in order -/
def srtP (js : List (Int × Int)) : List (Int × Int) := js.mergeSort fun p q => decide (p.1 < q.1 ∨ (p.1 = q.1 ∧ p.2 ≤ q.2))
theorem srtP_perm (js : List (Int × Int)) : (srtP js).Perm js := List.mergeSort_perm js _
theorem srtP_sorted (js : List (Int × Int)) : (srtP js).Pairwise lexLe := by
  have := List.pairwise_mergeSort (le := fun p q : Int × Int => decide (p.1 < q.1 ∨ (p.1 = q.1 ∧ p.2 ≤ q.2))) (fun a b c h1 h2 => by simp at *; omega) (fun a b => by simp; omega) js
  exact this.imp fun h => by unfold lexLe; simpa using h
theorem srtP_of {l js : List (Int × Int)} (h : l.Perm js) (hs : l.Pairwise lexLe) : l = srtP js := sort_uniq (h.trans (srtP_perm js).symm) hs (srtP_sorted js)
theorem srtP_iff {js ks : List (Int × Int)} : srtP js = srtP ks ↔ js.Perm ks := ⟨fun h => (srtP_perm js).symm.trans (h ▸ srtP_perm ks), fun h => srtP_of ((srtP_perm js).trans h) (srtP_sorted js)⟩
def spJointsG (K : PySem.W.Frag) (C : Addr) : Sp := fun vs H Q _ => ∃ (G : Hp) (p : Addr) (n : Nat) (parks : List Int) (js : List (Int × Int)), Ex G H ∧ vs = [.ref p] ∧ LayAt K C G p n parks js ∧ JOk (n : Int) parks js ∧ n ≤ 200 ∧ js.length ≤ 900 ∧ Ret G H (NwD K G ((srtP js).map dP)) Q
/-- the constructor, over any knowledge -/
def spInitM (K : PySem.W.Frag) (C : Addr) : Sp := fun vs H Q _ => ∃ (G : Hp) (x dx : Addr) (lens : List Int) (js : List (Int × Int)) (parks : List Int) (a1 a2 a3 : Addr), vs = [.ref x, .ref a1, .ref a2, .ref a3] ∧ Ex G H ∧ G x = none ∧ H x = some (.ins C dx []) ∧
  Dp K G (.ref a1) (dI lens) ∧ Dp K G (.ref a2) (dPs js) ∧ Dp K G (.ref a3) (dI parks) ∧ lens.length ≤ 200 ∧ (∀ z ∈ lens, 1 ≤ z) ∧ (∀ b ∈ parks, 0 ≤ b ∧ b < (lens.length : Int)) ∧ JOk (lens.length : Int) parks js ∧ js.length ≤ 900 ∧
  ∀ S H', (∀ G0, Ex G0 (outH H x) → Gr G0 (pick S G0 H') (outH H x) H' ∧ LayL K C (pick S G0 H') x lens parks js) → Q .non H'
theorem ef_makeM {E : XK} {t tk : TA} {lens : List Int} {js : List (Int × Int)} {parks : List Int} (e0 : Ex G0 G) (h : EA t σ G fun vs G' => ∃ a1 a2, vs = [.ref a1, .ref a2] ∧ Dp K G' (.ref a1) (dI lens) ∧ Dp K G' (.ref a2) (dPs js)) (hk : EA tk σ G fun zs G' => ∃ a3, zs = [.ref a3] ∧ Dp K G' (.ref a3) (dI parks))
    (n2 : lens.length ≤ 200) (hl : ∀ z ∈ lens, 1 ≤ z) (hp : ∀ b ∈ parks, 0 ≤ b ∧ b < (lens.length : Int)) (hJ : JOk (lens.length : Int) parks js) (hj : js.length ≤ 900) :
    EF (tMakeK C 2 1 (spInitM K C) (fun vs zs => vs ++ zs) E t tk) σ G fun v G' => ∃ x G1, v = .ref x ∧ Ex G0 G1 ∧ Ex G1 G' ∧ LayL K C G1 x lens parks js ∧ ∀ a, G a ≠ none → G0 a = none → G1 a = none := fun H e Q q =>
  h H e _ fun vs G1 H1 g1 ⟨a1, a2, ev, d1, d2⟩ => hk H1 (g1.up.trans g1.ok) _ fun zs G2 H2 g2 ⟨a3, ez, d3⟩ => by
    obtain ⟨G3, f1, f2, g3⟩ := g1.join g2
    subst ev ez
    refine ⟨rfl, rfl, fun x dx hx hdx hne => ?_⟩
    have ex2 : Ex H2 (outH (upd (upd H2 dx (.own x)) x (.ins C dx [])) x) := fun a o ha => by
      rw [out_ne (ne_of_none ha hx), upd_ne (ne_of_none ha hx), upd_ne (ne_of_none ha hdx)]
      exact ha
    have e3 : Ex G0 G3 := e0.trans g3.up
    refine ⟨G3, x, dx, lens, js, parks, a1, a2, a3, rfl, g3.ok.trans (ex2.trans out_ex), none_back g3.ok hx, upd_same, dpx d1 f1, dpx d2 f1, dpx d3 f2, n2, hl, hp, hJ, hj, fun S H' k => ⟨rfl, ?_⟩⟩
    have k3 := k G3 (g3.ok.trans ex2)
    have k0 := k G0 (e3.trans (g3.ok.trans ex2))
    refine q _ (pick S G3 H') H' (g3.trans (k3.1.low ex2)) ⟨x, pick S G0 H', rfl, k0.1.up, fun a o ha => ?_, k0.2, fun a ha h0 => k0.1.2.2.2 a (fun z => ?_) h0⟩
    · unfold pick at ha ⊢
      split at ha
      · rename_i m
        rw [if_pos m]
        exact ha
      · rename_i m
        rw [if_neg m]
        exact e3 _ _ ha
    · cases hg : G a with
      | none => exact ha hg
      | some o => rw [ex2 _ _ (g3.ok _ _ (g3.up _ _ hg))] at z; cases z
end
theorem eqv_map {α : Type} [DecidableEq α] {f : α → PyData} (h : ∀ x y, PyData.eqv (f x) (f y) = decide (x = y)) : ∀ a b : List α, PyData.eqvAll (a.map f) (b.map f) = decide (a = b)
  | [], [] => by simp [PyData.eqvAll]
  | [], _ :: _ => by simp [PyData.eqvAll]
  | _ :: _, [] => by simp [PyData.eqvAll]
  | x :: a, y :: b => by
    simp only [List.map_cons, PyData.eqvAll, h, eqv_map h a b]
    by_cases h1 : x = y <;> by_cases h2 : a = b <;> simp [h1, h2]
theorem eqv_list {α : Type} [DecidableEq α] {f : α → PyData} (h : ∀ x y, PyData.eqv (f x) (f y) = decide (x = y)) (a b : List α) : PyData.eqv (.list (a.map f)) (.list (b.map f)) = decide (a = b) := by
  simp only [PyData.eqv]
  exact eqv_map h a b
theorem eqv_bool (a b : Bool) : PyData.eqv (.bool a) (.bool b) = decide (a = b) := by
  cases a <;> cases b <;> rfl
theorem eqv_I (a b : List Int) : PyData.eqv (dI a) (dI b) = decide (a = b) := eqv_list eqv_int a b
theorem eqv_Bs (a b : List Bool) : PyData.eqv (.list (a.map PyData.bool)) (.list (b.map PyData.bool)) = decide (a = b) := eqv_list eqv_bool a b
theorem eqv_LL (a b : List (List Int)) : PyData.eqv (.list (a.map dI)) (.list (b.map dI)) = decide (a = b) := eqv_list (f := dI) eqv_I a b
theorem eqv_Ps (a b : List (Int × Int)) : PyData.eqv (dPs a) (dPs b) = decide (a = b) := eqv_list (f := dP) eqv_pair a b
theorem lay_all {f : α → PyData} (h : ∀ x, (f x).canLay0 = true) : ∀ l : List α, PyData.canLayAll0 (l.map f) = true
  | [] => by simp [PyData.canLayAll0]
  | x :: l => by simp [PyData.canLayAll0, h, lay_all h l]
theorem dep_all {f : α → PyData} {k : Nat} (h : ∀ x, (f x).depth ≤ k) : ∀ l : List α, PyData.depthAll (l.map f) ≤ k
  | [] => by simp [PyData.depthAll]
  | x :: l => by simp only [List.map_cons, PyData.depthAll]; have := h x; have := dep_all h l; omega
theorem sh_list {f : α → PyData} {k : Nat} (h1 : ∀ x, (f x).canLay0 = true) (h2 : ∀ x, (f x).depth ≤ k) (hk : k ≤ 60) (l : List α) : SeqAt.shaped (.list (l.map f)) = true := shaped_of (by simp only [PyData.canLay0]; exact lay_all h1 l) (by have := dep_all h2 l; simp only [PyData.depth]; omega)
theorem sh_Bs (l : List Bool) : SeqAt.shaped (.list (l.map PyData.bool)) = true := sh_list (k := 1) (fun _ => by simp [PyData.canLay0]) (fun _ => by simp [PyData.depth]) (by omega) l
theorem sh_LL (l : List (List Int)) : SeqAt.shaped (.list (l.map dI)) = true := sh_list (f := dI) (k := 2) (fun x => by simp only [dI, PyData.canLay0]; exact lay_ints x) (fun x => by have := dep_ints x; simp only [dI, PyData.depth]; omega) (by omega) l
theorem ess_eq {n : Nat} {parks parks' : List Int} {js js' : List (Int × Int)} {ess ess' : List (List Int)} (h : Srt (eo js) n ess) (h' : Srt (eo js') n ess') (j : JOk (n : Int) parks js) (j' : JOk (n : Int) parks' js') : ess = ess' ↔ js.Perm js' := by
  refine ⟨fun e => ?_, fun p => ?_⟩
  · subst e
    exact (fan_all h j).symm.trans (fan_all h' j')
  · apply List.ext_getElem?
    intro b
    by_cases hb : b < n
    · obtain ⟨x, hx, _, p1, s1⟩ := h.get hb
      obtain ⟨y, hy, _, p2, s2⟩ := h'.get hb
      rw [hx, hy, int_uniq (p1.trans (((p.filter _).map _).trans p2.symm)) s1 s2]
    · rw [List.getElem?_eq_none (by rw [h.len]; omega), List.getElem?_eq_none (by rw [h'.len]; omega)]
/-- two tracks make equal layouts -/
def alikeB (l1 p1 : List Int) (j1 : List (Int × Int)) (l2 p2 : List Int) (j2 : List (Int × Int)) : Bool := decide (l1 = l2) && (decide (marksOf l1.length p1 = marksOf l1.length p2) && decide (srtP j1 = srtP j2))
end Lw

set_option Elab.async false
set_option linter.all false
set_option maxRecDepth 100000
set_option maxHeartbeats 4000000
/-! the program's small defs, with their errors -/
namespace Kx
open PySem L2 Lw
open Evl (Ex)
def top (i : Nat) : Stmt := PySem.Challenge.pw_railhouse_k03_equal_layouts_and_copies.main.body.getD i (.Pass ⟨0, 0, 0, 0⟩)
abbrev s_NoBlock_init : Stmt := inClass (top 3) 0
theorem sc_NoBlock_init : FnScope ["self", "block"] ["self", "block"] (defScope s_NoBlock_init) := ⟨rfl, rfl, rfl, by decide +kernel, rfl, by decide +kernel, by decide +kernel⟩
abbrev s_Layout_contains : Stmt := inClass (top 7) 3
theorem sc_Layout_contains : FnScope ["self", "block"] ["self", "block"] (defScope s_Layout_contains) := ⟨rfl, rfl, rfl, by decide +kernel, rfl, by decide +kernel, by decide +kernel⟩
abbrev s_check_block : Stmt := top 8
theorem sc_check_block : FnScope ["layout", "block"] ["layout", "block"] (defScope s_check_block) := ⟨rfl, rfl, rfl, by decide +kernel, rfl, by decide +kernel, by decide +kernel⟩
abbrev s_Layout_is_yard : Stmt := inClass (top 7) 5
theorem sc_Layout_is_yard : FnScope ["self", "block"] ["self", "block"] (defScope s_Layout_is_yard) := ⟨rfl, rfl, rfl, by decide +kernel, rfl, by decide +kernel, by decide +kernel⟩
abbrev s_Layout_branches : Stmt := inClass (top 7) 8
theorem sc_Layout_branches : FnScope ["self", "block", "side"] ["self", "block", "side"] (defScope s_Layout_branches) := ⟨rfl, rfl, rfl, by decide +kernel, rfl, by decide +kernel, by decide +kernel⟩
abbrev s_Layout_east_of : Stmt := inClass (top 7) 6
theorem sc_Layout_east_of : FnScope ["self", "block"] ["self", "block"] (defScope s_Layout_east_of) := ⟨rfl, rfl, rfl, by decide +kernel, rfl, by decide +kernel, by decide +kernel⟩
abbrev s_Layout_west_of : Stmt := inClass (top 7) 7
theorem sc_Layout_west_of : FnScope ["self", "block"] ["self", "block"] (defScope s_Layout_west_of) := ⟨rfl, rfl, rfl, by decide +kernel, rfl, by decide +kernel, by decide +kernel⟩
abbrev s_is_point : Stmt := top 10
theorem sc_is_point : FnScope ["layout", "block", "side"] ["layout", "block", "side"] (defScope s_is_point) := ⟨rfl, rfl, rfl, by decide +kernel, rfl, by decide +kernel, by decide +kernel⟩
abbrev s_check_blocks : Stmt := top 9
theorem sc_check_blocks : FnScope ["layout", "blocks", "block"] ["layout", "blocks"] (defScope s_check_blocks) := ⟨rfl, rfl, rfl, by decide +kernel, rfl, by decide +kernel, by decide +kernel⟩
abbrev s_Layout_length_of : Stmt := inClass (top 7) 4
theorem sc_Layout_length_of : FnScope ["self", "block"] ["self", "block"] (defScope s_Layout_length_of) := ⟨rfl, rfl, rfl, by decide +kernel, rfl, by decide +kernel, by decide +kernel⟩
section
variable {P : Program} {w : World} {K : PySem.W.Frag} {mg : Str → Option Value} {base : Heap} {C CN : Addr} {f : Addr} {fd : FuncData}
theorem ok_nb (T : OexC K C) (hno : PySem.W.findIn K (.ref C) "block" = some none) (F : Fun K "__init__" "NoBlock.__init__" s_NoBlock_init f fd) : FnOk P w K mg base CX0 1 f fd ["self", "block"] (spIni1 C "block") := by
  refine F.ok sc_NoBlock_init (fun vs H Q E h => ?_) (fun cdv A outer s H vs Q E hr h => ?_)
  · obtain ⟨a, y, rfl, _⟩ := h
    rfl
  · obtain ⟨a, y, rfl, ha, k⟩ := h
    refine ⟨_, pss_one (ps_ost (pv 0) (pv 1)), ?_⟩
    exact ⟨_, rfl, _, rfl, a, C, rfl, T, hno, .inl ⟨ha, fun d hd hn => k d hd hn⟩⟩
theorem ok_contains (T : Cl K C) (F : Fun K "__contains__" "Layout.__contains__" s_Layout_contains f fd) : FnOk P w K mg base CX0 1 f fd ["self", "block"] (spContains C) := by
  refine F.ok sc_Layout_contains (fun vs H Q E h => ?_) (fun cdv A outer s H vs Q E hr h => ?_)
  · obtain ⟨G, p, n, b, _, rfl, _⟩ := h
    rfl
  · obtain ⟨G, p, n, b, hG, rfl, ⟨dx, fs, hp, hs⟩, k⟩ := h
    refine ⟨_, (pss_one (ps_ret (pe_chain op_le op_lt pe_int (pv 1) (pe_fld (pv 0) rfl)))), ?_⟩
    refine st_ret (P := BV (· = decide (0 ≤ b ∧ b < n))) hG (ef_chain (p := (· = decide (0 ≤ b))) (q := (· = decide (b < n))) mo_XV mo_XV mo_XV ex_c (ex_var rfl) (ef_fld (P := XV (.int n)) (ex_var rfl) hp T.cl T.size hs rfl) (fun x y G' hx hy => ?_) (fun _ x y G' hx hy => ?_) (fun h c hc => ?_) (fun h => ?_)) (fun v G' H' g p => k v G' H' g (by obtain ⟨z, rfl, rfl⟩ := p; rfl))
    · cases (show x = .int 0 from hx)
      cases (show y = .int b from hy)
      exact ro_I0 ⟨_, rfl, rfl⟩
    · cases (show x = .int b from hx)
      cases (show y = .int n from hy)
      exact ro_I0 ⟨_, rfl, rfl⟩
    · have h0 := of_decide_eq_true h.symm
      rw [hc]
      by_cases q : b < n
      · rw [decide_eq_true q, decide_eq_true ⟨h0, q⟩]
      · rw [decide_eq_false q, decide_eq_false fun z => q z.2]
    · have h0 := of_decide_eq_false h.symm
      exact (decide_eq_false fun z => h0 z.1).symm
theorem ok_check_block {fN : Addr} {fdN : FuncData} (Z_NoBlock : Err P w K mg base "NoBlock" CN fN fdN ["self", "block"] (spIni1 CN "block")) (F : Fun K "check_block" "check_block" s_check_block f fd) (Cc : CalM P w K mg base C "__contains__" 1 ["self", "block"] (spContains C)) : FnOk P w K mg base (L2.CX P w) 3 f fd ["layout", "block"] (spCheckX C CN) := by
  obtain ⟨f1, fd1, G_contains, M_contains, b_contains⟩ := Cc
  refine F.okX sc_check_block (fun vs H Q E h => ?_) (fun cdv A outer s H vs Q E hr h => ?_)
  · obtain ⟨G, p, n, b, _, rfl, _⟩ := h
    rfl
  · obtain ⟨G, p, n, b, hG, rfl, hs, k0, k1⟩ := h
    refine ⟨_, (pss_one (ps_if (pt_cmpR (op_notInOwn M_contains G_contains (hr.mono (by decide)) b_contains pass0) (pv 1) (pv 0) (by rfl))
 (pss_one (ps_raise rfl (takes_of rfl rfl rfl rfl) (pmk_oex Z_NoBlock.cls Z_NoBlock.ini Z_NoBlock.tI Z_NoBlock.fn (hr.mono (by decide)) Z_NoBlock.bnd .nil pass0 (by rfl) Z_NoBlock.gl (pa_cons (pv 1) pa_nil)))) pss_nil)), ?_⟩
    refine st_if (p := (· = !decide (0 ≤ b ∧ b < n))) hG (et_test (eb_notIn (a := p) (x := .int b) (b := decide (0 ≤ b ∧ b < n)) (ex_var rfl) (ex_var rfl) (by obtain ⟨dx, fs, a, _⟩ := hs; exact ⟨dx, fs, a⟩) (fun G' e H e' Q _ q => ⟨G', p, n, b, e', rfl, hs.ex e, q⟩) rfl)) (fun h H' e => ?_) (fun h H' e => ?_)
    · have hb : ¬ (0 ≤ b ∧ b < n) := fun z => by rw [decide_eq_true z] at h; cases h
      exact mk_one (hG.trans e) (ex_var (v := .int b) rfl) fun G' H2 d g hd => k1 hb G' H2 d ((Gr.same hG e).trans g) hd
    · have hb : 0 ≤ b ∧ b < n := Classical.byContradiction fun z => by rw [decide_eq_false z] at h; cases h
      exact k0 hb _ G H' (.same hG e) rfl
theorem ok_is_yard (T : Cl K C) (F : Fun K "is_yard" "Layout.is_yard" s_Layout_is_yard f fd) (Cc : CalX P w K mg base "check_block" 3 ["layout", "block"] (spCheckX C CN)) : FnOk P w K mg base (L2.CX P w) 4 f fd ["self", "block"] (spAskX K C CN pYard) := by
  obtain ⟨f1, fd1, G_check_block, m_check_block, k_check_block, b_check_block⟩ := Cc
  refine F.okX sc_Layout_is_yard (fun vs H Q E h => ?_) (fun cdv A outer s H vs Q E hr h => ?_)
  · obtain ⟨G, p, n, parks, js, b, _, rfl, _⟩ := h
    rfl
  · obtain ⟨G, p, n, parks, js, b, hG, rfl, hL, k0, k1⟩ := h
    refine ⟨_, (pss_cons (ps_expr (pe_callSD G_check_block (hr.mono (by decide)) rfl m_check_block k_check_block b_check_block .nil (fun σ => passAt (takes_of rfl rfl rfl rfl) σ) (pa_cons (pv 0) (pa_cons (pv 1) pa_nil))))
 (pss_one (ps_ret (pe_ix ix_list (pe_fld (pv 0) rfl) (pv 1) (fun _ _ => rfl))))), ?_⟩
    refine st_checkX hG (ex_var (v := .ref p) rfl) (ex_var (v := .int b) rfl) hL.size (fun ⟨h0, h1⟩ H2 g => ?_) k1
    · obtain ⟨dx, fs, l, ym, e, wa, ess, wss, hp, hf, hm, he, hw, s1, s2⟩ := hL
      refine st_ret (P := XV (.bl (decide (b ∈ parks)))) (hG.trans g) (ed_ixL (q := (· = b)) (EF.dv (ef_fld (P := XV (.ref ym)) (ex_var rfl) hp T.cl T.marks hf.marks rfl) hm) (EF.iv (ex_var rfl)) fun i ei => ?_) (fun v' G2 H3 g2 p2 => k0 ⟨h0, h1⟩ v' G2 H3 ((Gr.same hG g).trans g2) p2)
      obtain ⟨j, rfl⟩ : ∃ j : Nat, b = (j : Int) := ⟨b.toNat, by omega⟩
      subst ei
      refine ⟨j, .bool (decide ((j : Int) ∈ parks)), rfl, ?_, fun v G' d => by cases d; rfl⟩
      rw [List.getElem?_map, marks_at (by omega)]
      rfl
theorem ok_east_of (T : Cl K C) (B : Blt mg) (F : Fun K "east_of" "Layout.east_of" s_Layout_east_of f fd) (Cc : CalX P w K mg base "check_block" 3 ["layout", "block"] (spCheckX C CN)) : FnOk P w K mg base (L2.CX P w) 4 f fd ["self", "block"] (spAskG K C CN (gEast K)) := by
  obtain ⟨f1, fd1, G_check_block, m_check_block, k_check_block, b_check_block⟩ := Cc
  have m_list := B.list
  refine F.okX sc_Layout_east_of (fun vs H Q E h => ?_) (fun cdv A outer s H vs Q E hr h => ?_)
  · obtain ⟨G, p, n, parks, js, b, _, rfl, _⟩ := h
    rfl
  · obtain ⟨G, p, n, parks, js, b, hG, rfl, hL, k0, k1⟩ := h
    refine ⟨_, (pss_cons (ps_expr (pe_callSD G_check_block (hr.mono (by decide)) rfl m_check_block k_check_block b_check_block .nil (fun σ => passAt (takes_of rfl rfl rfl rfl) σ) (pa_cons (pv 0) (pa_cons (pv 1) pa_nil))))
 (pss_one (ps_ret (pe_callTy call_list_of (by rfl) m_list (by decide +kernel) (pa_cons (pe_ix ix_list (pe_fld (pv 0) rfl) (pv 1) (fun _ _ => rfl)) pa_nil))))), ?_⟩
    refine st_checkX hG (ex_var (v := .ref p) rfl) (ex_var (v := .int b) rfl) hL.size (fun ⟨h0, h1⟩ H2 g => ?_) k1
    obtain ⟨dx, fs, l, ym, e, wa, ess, wss, hp, hf, hm, he, hw, s1, s2⟩ := hL
    obtain ⟨j, rfl⟩ : ∃ j : Nat, b = (j : Int) := ⟨b.toNat, by omega⟩
    obtain ⟨x, hx, _, hx2, hx3⟩ := s1.get (b := j) (by omega)
    refine st_ret (P := fun v G' => ∃ p2 xs, v = .ref p2 ∧ G p2 = none ∧ G' p2 = some (.lst xs) ∧ DpAll K G' xs (x.map PyData.int)) (hG.trans g) (ed_list (ed_ixL (q := (· = (j : Int))) (P := DV K (dI x)) (EF.dv (ef_fld (P := XV (.ref e)) (ex_var rfl) hp T.cl T.east hf.east rfl) he) (EF.iv (ex_var rfl)) fun i ei => ?_)) (fun v' G2 H3 g2 p2 => k0 ⟨h0, h1⟩ v' G2 H3 ((Gr.same hG g).trans g2) ?_)
    · subst ei
      exact ⟨j, dI x, rfl, by rw [List.getElem?_map, hx]; rfl, fun v G' d => d⟩
    · obtain ⟨q, xs, rfl, q0, hq, hd⟩ := p2
      rw [srtI_of hx2 hx3] at hd
      exact ⟨q, xs, rfl, q0, hq, hd⟩
theorem ok_west_of (T : Cl K C) (B : Blt mg) (F : Fun K "west_of" "Layout.west_of" s_Layout_west_of f fd) (Cc : CalX P w K mg base "check_block" 3 ["layout", "block"] (spCheckX C CN)) : FnOk P w K mg base (L2.CX P w) 4 f fd ["self", "block"] (spAskG K C CN (gWest K)) := by
  obtain ⟨f1, fd1, G_check_block, m_check_block, k_check_block, b_check_block⟩ := Cc
  have m_list := B.list
  refine F.okX sc_Layout_west_of (fun vs H Q E h => ?_) (fun cdv A outer s H vs Q E hr h => ?_)
  · obtain ⟨G, p, n, parks, js, b, _, rfl, _⟩ := h
    rfl
  · obtain ⟨G, p, n, parks, js, b, hG, rfl, hL, k0, k1⟩ := h
    refine ⟨_, (pss_cons (ps_expr (pe_callSD G_check_block (hr.mono (by decide)) rfl m_check_block k_check_block b_check_block .nil (fun σ => passAt (takes_of rfl rfl rfl rfl) σ) (pa_cons (pv 0) (pa_cons (pv 1) pa_nil))))
 (pss_one (ps_ret (pe_callTy call_list_of (by rfl) m_list (by decide +kernel) (pa_cons (pe_ix ix_list (pe_fld (pv 0) rfl) (pv 1) (fun _ _ => rfl)) pa_nil))))), ?_⟩
    refine st_checkX hG (ex_var (v := .ref p) rfl) (ex_var (v := .int b) rfl) hL.size (fun ⟨h0, h1⟩ H2 g => ?_) k1
    obtain ⟨dx, fs, l, ym, e, wa, ess, wss, hp, hf, hm, he, hw, s1, s2⟩ := hL
    obtain ⟨j, rfl⟩ : ∃ j : Nat, b = (j : Int) := ⟨b.toNat, by omega⟩
    obtain ⟨x, hx, _, hx2, hx3⟩ := s2.get (b := j) (by omega)
    refine st_ret (P := fun v G' => ∃ p2 xs, v = .ref p2 ∧ G p2 = none ∧ G' p2 = some (.lst xs) ∧ DpAll K G' xs (x.map PyData.int)) (hG.trans g) (ed_list (ed_ixL (q := (· = (j : Int))) (P := DV K (dI x)) (EF.dv (ef_fld (P := XV (.ref wa)) (ex_var rfl) hp T.cl T.west hf.west rfl) hw) (EF.iv (ex_var rfl)) fun i ei => ?_)) (fun v' G2 H3 g2 p2 => k0 ⟨h0, h1⟩ v' G2 H3 ((Gr.same hG g).trans g2) ?_)
    · subst ei
      exact ⟨j, dI x, rfl, by rw [List.getElem?_map, hx]; rfl, fun v G' d => d⟩
    · obtain ⟨q, xs, rfl, q0, hq, hd⟩ := p2
      rw [srtI_of hx2 hx3] at hd
      exact ⟨q, xs, rfl, q0, hq, hd⟩
theorem ok_branches (T : Cl K C) (Ce : CalMX P w K mg base C "east_of" 4 ["self", "block"] (spAskG K C CN (gEast K))) (Cw : CalMX P w K mg base C "west_of" 4 ["self", "block"] (spAskG K C CN (gWest K))) (F : Fun K "branches" "Layout.branches" s_Layout_branches f fd) :
    FnOk P w K mg base (L2.CX P w) 5 f fd ["self", "block", "side"] (spAskSG K C CN (gBranch K)) := by
  obtain ⟨f1, fd1, G_east_of, M_east_of, b_east_of⟩ := Ce
  obtain ⟨f2, fd2, G_west_of, M_west_of, b_west_of⟩ := Cw
  have cL := T.cl
  refine F.okX sc_Layout_branches (fun vs H Q E h => ?_) (fun cdv A outer s H vs Q E hr h => ?_)
  · obtain ⟨G, p, n, parks, js, b, c, _, rfl, _⟩ := h
    rfl
  · obtain ⟨G, p, n, parks, js, b, c, hG, rfl, hL, k0, k1⟩ := h
    refine ⟨_, (pss_cons (ps_if (pt_cmpR op_eq (pv 2) pe_str (nomark _))
 (pss_one (ps_ret (pe_methX (pv 0) cL M_east_of G_east_of (hr.mono (by decide)) b_east_of .nil (fun σ => passAt (takes_of rfl rfl rfl rfl) σ) (pa_cons (pv 1) pa_nil)))) pss_nil)
 (pss_one (ps_ret (pe_methX (pv 0) cL M_west_of G_west_of (hr.mono (by decide)) b_west_of .nil (fun σ => passAt (takes_of rfl rfl rfl rfl) σ) (pa_cons (pv 1) pa_nil))))), ?_⟩
    refine st_if (p := fun b => b = c) hG (et_test (ex_eq (ex_var rfl) ex_c rfl (side_dec c))) (fun h H' e => ?_) (fun h H' e => ?_)
    · subst h
      exact st_retM1 (hG.trans e) (ex_var rfl) (hL.meth (by decide +kernel)) (ex_var rfl) fun G2 H2 g => ⟨G2, p, n, parks, js, b, g.ok, rfl, hL.ex g.up, fun hb v G3 H3 g3 pv => k0 hb v G3 H3 (((Gr.same hG e).trans g).trans g3) (NwD.low ((Gr.same hG e).trans g).up pv), fun hb => (k1 hb).up ((Gr.same hG e).trans g)⟩
    · subst h
      exact st_retM1 (hG.trans e) (ex_var rfl) (hL.meth (by decide +kernel)) (ex_var rfl) fun G2 H2 g => ⟨G2, p, n, parks, js, b, g.ok, rfl, hL.ex g.up, fun hb v G3 H3 g3 pv => k0 hb v G3 H3 (((Gr.same hG e).trans g).trans g3) (NwD.low ((Gr.same hG e).trans g).up pv), fun hb => (k1 hb).up ((Gr.same hG e).trans g)⟩
theorem ok_check_blocks (F : Fun K "check_blocks" "check_blocks" s_check_blocks f fd) (Cc : CalX P w K mg base "check_block" 3 ["layout", "block"] (spCheckX C CN)) : FnOk P w K mg base CX0 4 f fd ["layout", "blocks"] (spChecks K C) := by
  obtain ⟨f1, fd1, G_check_block, m_check_block, k_check_block, b_check_block⟩ := Cc
  refine F.ok sc_check_blocks (fun vs H Q E h => ?_) (fun cdv A outer s H vs Q E hr h => ?_)
  · obtain ⟨G, p, n, a, bs, _, rfl, _⟩ := h
    rfl
  · obtain ⟨G, p, n, a, bs, hG, rfl, hs, ha, hb, k⟩ := h
    refine ⟨_, (pss_one (ps_for PassesOwn.never rfl (pi_list (pv 1)) (pg_name (i := 2) sc_check_blocks.nd rfl (by first | exact Or.inl rfl | exact Or.inr rfl))
 (pss_one (ps_expr (pe_call G_check_block (hr.mono (by decide)) rfl m_check_block k_check_block b_check_block .nil passL (pa_cons (pv 0) (pa_cons (pv 2) pa_nil))))))), ?_⟩
    refine st_forK (xs := bs.map V.int) hG (ex_var (v := .ref a) rfl) ha (fun i σ H' => Ex H H' ∧ ∃ v, σ = [some (.ref p), some (.ref a), v]) (fun H' e => ⟨e, _, rfl⟩) (fun i σ' H' hw => hG.trans hw.1) (fun i x σ' H' hi hw => ?_) (fun σ' H' hw => ?_)
    · obtain ⟨e, v, rfl⟩ := hw
      rw [List.getElem?_map] at hi
      obtain ⟨b, hb1, rfl⟩ := Option.map_eq_some_iff.mp hi
      have hbb := hb b (List.mem_of_getElem? hb1)
      exact st_drop (P := XV .non) (hG.trans e) (ex_call2 (ex_var (v := .ref p) rfl) (ex_var (v := .int b) rfl) fun G' e' => sa_checkX (hs.ex e') hbb.1 hbb.2) (fun v' G' H2 g _ => ⟨e.trans g.hp, _, rfl⟩)
    · obtain ⟨e, v, rfl⟩ := hw
      exact k _ G H' (.same hG e) rfl
theorem ok_is_point (T : Cl K C) (B : Blt mg) (F : Fun K "is_point" "is_point" s_is_point f fd) (Cy : CalMX P w K mg base C "is_yard" 4 ["self", "block"] (spAskX K C CN pYard)) (Cb : CalMX P w K mg base C "branches" 5 ["self", "block", "side"] (spAskSG K C CN (gBranch K))) :
    FnOk P w K mg base CX0 6 f fd ["layout", "block", "side"] (spAskS K C pPoint) := by
  obtain ⟨f1, fd1, G_is_yard, M_is_yard, b_is_yard⟩ := Cy
  obtain ⟨f2, fd2, G_branches, M_branches, b_branches⟩ := Cb
  have cL := T.cl
  have m_len := B.len
  refine F.ok sc_is_point (fun vs H Q E h => ?_) (fun cdv A outer s H vs Q E hr h => ?_)
  · obtain ⟨G, p, n, parks, js, b, c, _, rfl, _⟩ := h
    rfl
  · obtain ⟨G, p, n, parks, js, b, c, hG, rfl, hL, h0, h1, k⟩ := h
    refine ⟨_, (pss_one (ps_ret (pe_and (pe_not (pe_meth (pv 0) cL M_is_yard G_is_yard (hr.mono (by decide)) b_is_yard .nil passL (pa_cons (pv 1) pa_nil))) (pe_one (pe_cmpR op_eq (pe_callB call_len_seq (by rfl) m_len PySem.boot_len (pa_cons (pe_meth (pv 0) cL M_branches G_branches (hr.mono (by decide)) b_branches .nil passL (pa_cons (pv 1) (pa_cons (pv 2) pa_nil))) pa_nil)) pe_int (nomark _)))))), ?_⟩
    refine st_ret (P := BV (· = isPt parks js b c)) hG (eb_and (p := (· = !decide (b ∈ parks))) (q := (· = decide (endN js b c = 2))) ?_ (fun _ => ?_) (fun h b2 hb2 => ?_) (fun h => ?_)) (fun v G' H2 g p => k v G' H2 g (by obtain ⟨z, rfl, rfl⟩ := p; rfl))
    · exact eb_not (EF.bl (ex_meth1 (P := XV (.bl (decide (b ∈ parks)))) (ex_var rfl) (hL.meth (by decide +kernel)) (ex_var rfl) fun G' e' => sa_askX (P := pYard) (hL.ex e') h0 h1) rfl)
    · refine ei_eq (p := (· = (endN js b c : Int))) (q := (· = 2)) ?_ (EF.iv ex_c) fun x y hx hy => ?_
      · exact EF.iv (en_len ((ex_meth2 (P := NL K (endN js b c)) (ex_var rfl) (hL.meth (by decide +kernel)) (ex_var rfl) (ex_var rfl) fun G' e' => SA.imp (sa_askSG (P := gBranch K) c (hL.ex e') h0 h1) fun v G2 p => gbranch_nl p)))
      · subst hx hy
        show decide _ = decide _
        congr 1
        simp
        omega
    · rw [hb2]
      unfold isPt
      rw [← h]
      rfl
    · unfold isPt
      rw [← h]
      rfl
theorem ok_length_of (T : Cl K C) (F : Fun K "length_of" "Layout.length_of" s_Layout_length_of f fd) (Cc : CalX P w K mg base "check_block" 3 ["layout", "block"] (spCheckX C CN)) : FnOk P w K mg base (L2.CX P w) 4 f fd ["self", "block"] (spLenX K C CN) := by
  obtain ⟨f1, fd1, G_check_block, m_check_block, k_check_block, b_check_block⟩ := Cc
  refine F.okX sc_Layout_length_of (fun vs H Q E h => ?_) (fun cdv A outer s H vs Q E hr h => ?_)
  · obtain ⟨G, p, lens, parks, js, b, _, rfl, _⟩ := h
    rfl
  · obtain ⟨G, p, lens, parks, js, b, hG, rfl, hL, k0, k1⟩ := h
    refine ⟨_, (pss_cons (ps_expr (pe_callSD G_check_block (hr.mono (by decide)) rfl m_check_block k_check_block b_check_block .nil (fun σ => passAt (takes_of rfl rfl rfl rfl) σ) (pa_cons (pv 0) (pa_cons (pv 1) pa_nil))))
 (pss_one (ps_ret (pe_ix ix_list (pe_fld (pv 0) rfl) (pv 1) (fun _ _ => rfl))))), ?_⟩
    refine st_checkX hG (ex_var (v := .ref p) rfl) (ex_var (v := .int b) rfl) hL.1.size (fun ⟨h0, h1⟩ H2 g => ?_) k1
    obtain ⟨_, dx, fs, l, hp, hf, hd⟩ := hL
    have hj : b.toNat < lens.length := by omega
    have hz : lens[b.toNat]? = some lens[b.toNat] := List.getElem?_eq_getElem hj
    refine st_ret (P := XV (.int lens[b.toNat])) (hG.trans g) (ed_ixL (q := (· = b)) (EF.dv (ef_fld (P := XV (.ref l)) (ex_var rfl) hp T.cl T.lens hf rfl) hd) (EF.iv (ex_var rfl)) fun i ei => ?_) (fun v' G2 H3 g2 p2 => k0 _ h0 hz v' G2 H3 ((Gr.same hG g).trans g2) p2)
    subst ei
    exact ⟨i.toNat, .int lens[i.toNat], by omega, by rw [List.getElem?_map, hz]; rfl, fun v G' d => by cases d; rfl⟩
end
end Kx

set_option Elab.async false
set_option linter.all false
set_option maxRecDepth 100000
set_option maxHeartbeats 4000000
namespace Kx
open PySem L2 Lw
open Evl (Ex)
abbrev s_Layout_joints : Stmt := inClass (top 7) 10
theorem sc_Layout_joints : FnScope ["self", "west", "east"] ["self"] (defScope s_Layout_joints) := ⟨rfl, rfl, rfl, by decide +kernel, rfl, by decide +kernel, by decide +kernel⟩
section
variable {P : Program} {w : World} {K : PySem.W.Frag} {mg : Str → Option Value} {base : Heap} {C : Addr} {f : Addr} {fd : FuncData}
theorem ok_joints (T : Cl K C) (B : Blt mg) (F : Fun K "joints" "Layout.joints" s_Layout_joints f fd) : FnOk P w K mg base CX0 1 f fd ["self"] (spJointsG K C) := by
  have m_range := B.range
  refine F.ok sc_Layout_joints (fun vs H Q E h => ?_) (fun cdv A outer s H vs Q E hr h => ?_)
  · obtain ⟨G, p, n, parks, js, _, rfl, _⟩ := h
    rfl
  · obtain ⟨G, p, n, parks, js, hG, rfl, hL, hJ, hn, hjl, k⟩ := h
    obtain ⟨dx, fs, l, ym, e, wa, ess, wss, hp, hf, hm, he, hw, s1, s2⟩ := hL
    refine ⟨_, (pss_one (ps_ret (pe_lc2 (own := [("west", 1), ("east", 2)]) (vs1 := [2]) (g := gName 1) (g1 := gName 2) (tt := tYes) (tt1 := tYes) (wi1 := iList K (tOp (rIxL K) (tFld K (tVar 0) "_east") (tVar 1))) rfl sc_Layout_joints.nd (pi_range1 rfl m_range (pa_cons (pe_fld (pv 0) rfl) pa_nil)) (blkOk_by (N := ["self", "west", "east"]) (sc := defScope s_Layout_joints) (by decide +kernel)) (by decide) (fun _ _ _ _ _ => pg_name (i := 1) sc_Layout_joints.nd rfl (Or.inl rfl)) (fun _ _ _ _ _ => pts_nil) (fun _ _ _ _ _ => (pi_list (pe_ix ix_list (pe_fld (pv 0) rfl) (pv 1) (fun _ _ => rfl)))) (fun _ _ _ _ _ => pg_name (i := 2) sc_Layout_joints.nd rfl (Or.inl rfl)) (fun _ _ _ _ _ => pts_nil) (fun _ _ _ _ _ => (pe_tup (pa_cons (pv 1) (pa_cons (pv 2) pa_nil))))))), ?_⟩
    refine st_ret (P := NwD K G ((srtP js).map dP)) hG ?_ k
    refine ef_lc2 (n := (n : Int)) (fun i => (ess.getD i []).map V.int) (fun i k xs G' => i ≤ n ∧ DpAll K G' xs ((fan ess i ++ ((ess.getD i []).take k).map (fun e => ((i : Int), e))).map dP))
      ((ea_one (ef_fld (P := XV (.int (n : Int))) (ex_var rfl) hp T.cl T.size hf.size rfl)).imp fun vs G' _ ⟨x, ev, hx⟩ => by rw [ev, show x = _ from hx]) (by omega) (fun i => by rw [List.length_map]; have := s1.len_at i; omega) (fun x => rfl) (fun x y => rfl) (fun G' _ => ⟨Nat.zero_le _, .nil⟩) (fun i xs G' hi h => ⟨by omega, ?_⟩) (fun i G' e1 hi => ?_) (fun i k xs G' G'' e1 h => ⟨h.1, dpax h.2 e1⟩) (fun i k y xs G' e1 hi hy h => ?_) (fun i k xs G' h => ?_) (fun p2 xs G' hg0 hg _ h => ⟨p2, xs, rfl, hg0, upd_same, ?_⟩)
    · have q := h.2
      rw [List.length_map, List.take_length] at q
      rw [fan_succ, List.take_zero, List.map_nil, List.append_nil]
      exact q
    · refine ed_ixL (q := (· = (i : Int))) (EF.dv (ef_fld (P := XV (.ref e)) (ex_var rfl) (e1 _ _ hp) T.cl T.east hf.east rfl) (dpx he e1)) (EF.iv (ex_var rfl)) fun z ez => ?_
      obtain ⟨x, hx, hx1, _⟩ := s1.get (b := i) (by omega)
      refine ⟨i, dI x, ez, by rw [List.getElem?_map, hx]; rfl, fun v G2 d => ?_⟩
      obtain ⟨a, xs, rfl, hs, hd⟩ := dp_lst d
      rw [dpa_ints_eq hd] at hs
      rw [hx1]
      exact ⟨a, rfl, hs⟩
    · rw [List.getElem?_map] at hy
      obtain ⟨z, hz, rfl⟩ := Option.map_eq_some_iff.mp hy
      refine ef_tup (ea_two mo_XV mo_XV (ex_var (v := .int (i : Int)) rfl) (ex_var (v := .int z) rfl)) (fun vs G' ⟨x, y, ev, _⟩ => by rw [ev]; simp) fun p2 vs G2 e2 hg1 hg2 ⟨x, y, ev, hx, hy⟩ => ⟨h.1, ?_⟩
      have em : (fan ess i ++ ((ess.getD i []).take (k + 1)).map (fun e => ((i : Int), e))).map dP = (fan ess i ++ ((ess.getD i []).take k).map (fun e => ((i : Int), e))).map dP ++ [dP ((i : Int), z)] := by
        rw [take_next hz]
        simp
      rw [em]
      refine dpa_snoc (dpax h.2 ?_) (dp_mkT upd_same ?_)
      · exact e2.trans (ex_in hg2)
      · rw [ev, hx, hy]
        exact .cons (.int _) (.cons (.int z) .nil)
    · have q := dpa_len h.2
      rw [List.length_map, List.length_append, List.length_map] at q
      have q1 := fan_len s1 h.1
      have q2 : ((ess.getD i []).take k).length ≤ js.length := Nat.le_trans (by rw [List.length_take]; omega) (s1.len_at i)
      omega
    · have q := h.2
      rw [List.take_zero, List.map_nil, List.append_nil] at q
      rw [← srtP_of (fan_all s1 hJ) (fan_sorted s1 n (Nat.le_refl _)).1]
      exact dpax q (ex_in hg)
end
end Kx

set_option Elab.async false
set_option linter.all false
set_option maxRecDepth 100000
set_option maxHeartbeats 4000000
namespace Kx
open PySem L2 Lw
open Evl (Ex)
abbrev s_Layoutadd_joint : Stmt := inClass (top 7) 1
theorem sc_Layoutadd_joint : FnScope ["self", "west", "east"] ["self", "west", "east"] (defScope s_Layoutadd_joint) := ⟨rfl, rfl, rfl, by decide +kernel, rfl, by decide +kernel, by decide +kernel⟩
section
variable {P : Program} {w : World} {K : PySem.W.Frag} {mg : Str → Option Value} {base : Heap} {C CN : Addr} {f : Addr} {fd : FuncData}
theorem ok_add (T : Cl K C) (B : Blt mg) (F : Fun K "_add_joint" "Layout._add_joint" s_Layoutadd_joint f fd) (Cc : CalX P w K mg base "check_block" 3 ["layout", "block"] (spCheckX C CN)) : FnOk P w K mg base CX0 4 f fd ["self", "west", "east"] (spAdd C) := by
  obtain ⟨f1, fd1, G_check_block, m_check_block, k_check_block, b_check_block⟩ := Cc
  have m_len := B.len
  refine F.ok sc_Layoutadd_joint (fun vs H Q E h => ?_) (fun cdv A outer s H vs Q E hr h => ?_)
  · obtain ⟨x, n, parks, js, dx, fs, l, ym, e, wa, ea, waa, u, v, rfl, _⟩ := h
    rfl
  · obtain ⟨x, n, parks, js, dx, fs, l, ym, e, w', ea, wa, u, v, rfl, S, N, hl, k⟩ := h
    refine ⟨_, (pss_cons (ps_expr (pe_call G_check_block (hr.mono (by decide)) rfl m_check_block k_check_block b_check_block .nil passL (pa_cons (pv 0) (pa_cons (pv 1) pa_nil))))
 (pss_cons (ps_expr (pe_call G_check_block (hr.mono (by decide)) rfl m_check_block k_check_block b_check_block .nil passL (pa_cons (pv 0) (pa_cons (pv 2) pa_nil))))
 (pss_cons (ps_if (PW.pt (pw_or (pt_cmpR op_ge (pv 1) (pv 2) (nomark _)) (pw_or1 (pt_cmpR (op_inD (hu65 hr)) (pv 2) (pe_ix ix_list (pe_fld (pv 0) rfl) (pv 1) (fun _ _ => rfl)) (by rfl)))))
 (pss_never) pss_nil)
 (pss_cons (ps_if (PW.pt (pw_and (pt_not (pt_val (pe_ix ix_list (pe_fld (pv 0) rfl) (pv 1) (fun _ _ => rfl)))) (pw_and1 (pt_cmpR op_eq (pe_callB call_len_seq (by rfl) m_len PySem.boot_len (pa_cons (pe_ix ix_list (pe_fld (pv 0) rfl) (pv 1) (fun _ _ => rfl)) pa_nil)) pe_int (nomark _)))))
 (pss_never) pss_nil)
 (pss_cons (ps_if (PW.pt (pw_and (pt_not (pt_val (pe_ix ix_list (pe_fld (pv 0) rfl) (pv 2) (fun _ _ => rfl)))) (pw_and1 (pt_cmpR op_eq (pe_callB call_len_seq (by rfl) m_len PySem.boot_len (pa_cons (pe_ix ix_list (pe_fld (pv 0) rfl) (pv 2) (fun _ _ => rfl)) pa_nil)) pe_int (nomark _)))))
 (pss_never) pss_nil)
 (pss_cons (ps_expr (pe_bm PySem.F.plainAttrs_list PySem.F.slot_list_append PySem.F.type_list_append mt_append (pe_ix ix_list (pe_fld (pv 0) rfl) (pv 1) (fun _ _ => rfl)) (pa_cons (pv 2) pa_nil)))
 (pss_one (ps_expr (pe_bm PySem.F.plainAttrs_list PySem.F.slot_list_append PySem.F.type_list_append mt_append (pe_ix ix_list (pe_fld (pv 0) rfl) (pv 2) (fun _ _ => rfl)) (pa_cons (pv 1) pa_nil)))))))))), ?_⟩
    obtain ⟨i, rfl⟩ : ∃ i : Nat, u = (i : Int) := ⟨u.toNat, by have := N.lo; omega⟩
    obtain ⟨j, rfl⟩ : ∃ j : Nat, v = (j : Int) := ⟨v.toNat, by have := N.lo; have := N.lt; omega⟩
    have hij := N.lt
    have hj := N.hi
    obtain ⟨a, ha⟩ : ∃ a, ea[i]? = some a := ⟨_, List.getElem?_eq_getElem (by rw [S.le]; omega)⟩
    obtain ⟨a2, ha2⟩ : ∃ a, wa[j]? = some a := ⟨_, List.getElem?_eq_getElem (by rw [S.lw]; omega)⟩
    refine st_drop (P := XV .non) (Ex.refl H) (ex_call2 (ex_var (v := .ref x) rfl) (ex_var (v := .int (i : Int)) rfl) fun G' e' => sa_checkX (S.size.ex e') (by omega) (by omega)) (fun v' G1 H1 g1 _ => ?_)
    have S1 := S.ex g1.hp
    refine st_drop (P := XV .non) (Ex.refl H1) (ex_call2 (ex_var (v := .ref x) rfl) (ex_var (v := .int (j : Int)) rfl) fun G' e' => sa_checkX (S1.size.ex e') (by omega) (by omega)) (fun v' G2 H2 g2 _ => ?_)
    have S2 := S1.ex g2.hp
    have inE : ∀ {H : Hp} {σ : L2.St}, AddSt C H x n parks js dx fs l ym e w' ea wa → σ = [some (.ref x), some (.int (i : Int)), some (.int (j : Int))] → EF (tOp (rIxL K) (tFld K (tVar 0) "_east") (tVar 1)) σ H (XV (.ref a)) := fun {H σ} S es => by
      subst es
      exact ex_ixL (ex_fld (ex_var rfl) S.ins T.cl T.east S.fld.east) (ex_var rfl) rfl (Evl.sq_of S.east) (by rw [List.getElem?_map, ha]; rfl)
    have inW : ∀ {H : Hp} {σ : L2.St}, AddSt C H x n parks js dx fs l ym e w' ea wa → σ = [some (.ref x), some (.int (i : Int)), some (.int (j : Int))] → EF (tOp (rIxL K) (tFld K (tVar 0) "_west") (tVar 2)) σ H (XV (.ref a2)) := fun {H σ} S es => by
      subst es
      exact ex_ixL (ex_fld (ex_var rfl) S.ins T.cl T.west S.fld.west) (ex_var rfl) rfl (Evl.sq_of S.west) (by rw [List.getElem?_map, ha2]; rfl)
    refine st_if0 (Ex.refl H2) (et_or (p := (· = false)) (q := (· = false)) (et_test (ei_op0 (EF.iv (ex_var rfl)) (EF.iv (ex_var rfl)) fun y z G' hy hz => ⟨_, rfl, ?_⟩)) (fun _ => et_test ((ed_inD (d := .int (j : Int)) (ds := (eo js (i : Int)).map PyData.int) (EF.dv (ex_var rfl) (.int _)) (EF.dv (inE S2 rfl) (dp_mkL (S2.ae i a ha) (dpa_ints _))) (sh_int _) (sh_ints _)).imp fun y G' _ ⟨b, eb, hb⟩ => ⟨b, eb, ?_⟩)) (fun z => nomatch z) (fun _ b hb => hb)) (fun H3 e3 => ?_)
    · subst hy hz
      exact decide_eq_false (by omega)
    · rw [hb, any_int]
      exact decide_eq_false fun z => N.new (mem_eo.mp z)
    have S3 := S2.ex e3
    refine st_if0 (Ex.refl H3) (et_and (p := (· = !decide ((i : Int) ∈ parks))) (q := (· = decide (((eo js (i : Int)).length : Int) = 2))) (et_not (et_B (EF.bl (ex_ixL (ex_fld (ex_var rfl) S3.ins T.cl T.marks S3.fld.marks) (ex_var rfl) rfl (Evl.sq_of S3.marks) (by rw [List.getElem?_map, marks_at (by omega)]; rfl)) ?_))) (fun _ => et_test (ei_eq (EF.iv (ex_lenL (inE S3 rfl) (Evl.sq_of (S3.ae i a ha)))) (EF.iv ex_c) fun y z hy hz => ?_)) (fun h b hb => ?_) (fun _ => rfl)) (fun H4 e4 => ?_)
    · rfl
    · subst hy hz
      rw [List.length_map]
    · rw [hb]
      have hp : (i : Int) ∉ parks := by simpa using h.symm
      have := N.ew hp
      exact decide_eq_false (by omega)
    have S4 := S3.ex e4
    refine st_if0 (Ex.refl H4) (et_and (p := (· = !decide ((j : Int) ∈ parks))) (q := (· = decide (((wo js (j : Int)).length : Int) = 2))) (et_not (et_B (EF.bl (ex_ixL (ex_fld (ex_var rfl) S4.ins T.cl T.marks S4.fld.marks) (ex_var rfl) rfl (Evl.sq_of S4.marks) (by rw [List.getElem?_map, marks_at (by omega)]; rfl)) ?_))) (fun _ => et_test (ei_eq (EF.iv (ex_lenL (inW S4 rfl) (Evl.sq_of (S4.aw j a2 ha2)))) (EF.iv ex_c) fun y z hy hz => ?_)) (fun h b hb => ?_) (fun _ => rfl)) (fun H5 e5 => ?_)
    · rfl
    · subst hy hz
      rw [List.length_map]
    · rw [hb]
      have hp : (j : Int) ∉ parks := by simpa using h.symm
      have := N.we hp
      exact decide_eq_false (by omega)
    have S5 := S4.ex e5
    have h0 : 0 < n := by omega
    have lE := eo_len_le js (i : Int)
    have lW := wo_len_le js (j : Int)
    refine st_app (P := XV (.int (j : Int))) (Ex.refl H5) (S5.ae i a ha) (inE S5 rfl) (ex_var rfl) (by rw [List.length_map]; omega) fun y G6 H6 g6 p6 => ?_
    cases (show y = .int (j : Int) from p6)
    have S6 := S5.ex g6.hp
    obtain ⟨n1, n2, n3, n4⟩ := S6.inner h0 (S6.ae i a ha)
    have na : a2 ≠ a := fun z => nd_ne S6.nd ha ha2 z.symm
    have in7 : EF (tOp (rIxL K) (tFld K (tVar 0) "_west") (tVar 2)) [some (.ref x), some (.int (i : Int)), some (.int (j : Int))] (upd H6 a (.lst ((eo js (i : Int)).map V.int ++ [.int (j : Int)]))) (XV (.ref a2)) :=
      ex_ixL (ex_fld (ex_var rfl) (by rw [upd_ne n1]; exact S6.ins) T.cl T.west S6.fld.west) (ex_var rfl) rfl (Evl.sq_of (by rw [upd_ne n4]; exact S6.west)) (by rw [List.getElem?_map, ha2]; rfl)
    refine st_app (P := XV (.int (i : Int))) (Ex.refl _) (by rw [upd_ne na]; exact S6.aw j a2 ha2) in7 (ex_var rfl) (by rw [List.length_map]; omega) fun y G7 H7 g7 p7 => ?_
    cases (show y = .int (i : Int) from p7)
    have eH : ∀ b o, b ≠ a → b ≠ a2 → H b = some o → upd H7 a2 (.lst ((wo js (j : Int)).map V.int ++ [.int (i : Int)])) b = some o := fun b o b1 b2 q => by
      rw [upd_ne b2]
      refine g7.hp _ _ ?_
      rw [upd_ne b1]
      exact g6.hp _ _ (e5 _ _ (e4 _ _ (e3 _ _ (g2.hp _ _ (g1.hp _ _ q)))))
    refine k _ (S.step ha ha2 ?_ ?_ eH) (fun b o b1 b2 q => eH b o (fun z => b1 (by rw [z]; exact List.mem_of_getElem? ha)) (fun z => b2 (by rw [z]; exact List.mem_of_getElem? ha2)) q)
    · rw [upd_ne na.symm, List.map_append]
      exact g7.hp _ _ upd_same
    · rw [upd_same, List.map_append]
      rfl
end
end Kx

set_option Elab.async false
set_option linter.all false
set_option maxRecDepth 100000
set_option maxHeartbeats 8000000
namespace Kx
open PySem L2 Lw
open Evl (Ex)
abbrev s_Layout_init : Stmt := inClass (top 7) 0
theorem sc_Layout_init : FnScope ["self", "lengths", "joints", "yards", "length", "west", "east", "block", "_", "blocks"] ["self", "lengths", "joints", "yards"] (defScope s_Layout_init) := ⟨rfl, rfl, rfl, by decide +kernel, rfl, by decide +kernel, by decide +kernel⟩
section
variable {P : Program} {w : World} {K : PySem.W.Frag} {mg : Str → Option Value} {base : Heap} {C : Addr} {f : Addr} {fd : FuncData}
/-- the lists that the last two comprehensions make -/
def SI (K : PySem.W.Frag) (H0 : Hp) (f : Int → List Int) (i : Nat) (acc : List V) (G' : Hp) : Prop := ∃ ess : List (List Int), DpAll K G' acc (ess.map dI) ∧ Srt f i ess ∧ ∀ v ∈ acc, ∃ a, v = .ref a ∧ H0 a = none
theorem si_step {H0 G' : Hp} {f : Int → List Int} {i : Nat} {acc : List V} {p : Addr} {ns' : List Int} (h : SI K H0 f i acc G') (hp : H0 p = none) (hq : G' p = some (.lst (ns'.map V.int))) (h1 : ns'.Perm (f (i : Int))) (h2 : ns'.Pairwise (· ≤ ·)) : SI K H0 f (i + 1) (acc ++ [.ref p]) G' := by
  obtain ⟨ess, hd, hs, hf⟩ := h
  refine ⟨ess ++ [ns'], ?_, ⟨by rw [List.length_append, hs.len]; rfl, fun b x hx => ?_⟩, fun v hv => ?_⟩
  · rw [List.map_append]
    exact dpa_snoc hd (dp_mkL hq (dpa_ints _))
  · by_cases hb : b < ess.length
    · rw [List.getElem?_append_left hb] at hx
      exact hs.at_ b x hx
    · have hl := (List.getElem?_eq_some_iff.mp hx).1
      rw [List.length_append, List.length_singleton] at hl
      have e : b = ess.length := by omega
      subst e
      rw [List.getElem?_append_right (Nat.le_refl _), Nat.sub_self] at hx
      cases hx
      rw [hs.len]
      exact ⟨h1, h2⟩
  · rcases List.mem_append.mp hv with hv | hv
    · exact hf v hv
    · have e : v = .ref p := by simpa using hv
      exact ⟨p, e, hp⟩
theorem SI.ex {H0 G' G2 : Hp} {f : Int → List Int} {i : Nat} {acc : List V} (h : SI K H0 f i acc G') (e : Ex G' G2) : SI K H0 f i acc G2 := by
  obtain ⟨ess, hd, hs, hf⟩ := h
  exact ⟨ess, dpax hd e, hs, hf⟩
theorem ok_init (T : Cl K C) (B : Blt mg) (F : Fun K "__init__" "Layout.__init__" s_Layout_init f fd) (Cc : Cal P w K mg base "check_blocks" 4 ["layout", "blocks"] (spChecks K C)) (Ca : CalM P w K mg base C "_add_joint" 4 ["self", "west", "east"] (spAdd C)) : FnOk P w K mg base CX0 5 f fd ["self", "lengths", "joints", "yards"] (spInitM K C) := by
  obtain ⟨f1, fd1, G_check_blocks, m_check_blocks, k_check_blocks, b_check_blocks⟩ := Cc
  obtain ⟨f2, fd2, G_add_joint, M_add_joint, b_add_joint⟩ := Ca
  have cL := T.cl
  have m_len := B.len
  have m_list := B.list
  have m_range := B.range
  have m_sorted := B.sorted
  refine F.ok sc_Layout_init (fun vs H Q E h => ?_) (fun cdv A outer s H vs Q E hr h => ?_)
  · obtain ⟨G, x, dx, lens, js, parks, a1, a2, a3, rfl, _⟩ := h
    rfl
  · obtain ⟨G, x, dx, lens, js, parks, a1, a2, a3, rfl, hG, gx, hx, d1, d2, d3, n2, hl, hpk, hJ, hjs, k⟩ := h
    refine ⟨_, (pss_cons (ps_for PassesOwn.never rfl (pi_list (pv 1)) (pg_name (i := 4) sc_Layout_init.nd rfl (by first | exact Or.inl rfl | exact Or.inr rfl))
 (pss_one (ps_if (pt_cmpR op_lt (pv 4) pe_int (nomark _))
 (pss_never) pss_nil)))
 (pss_cons (ps_fld (pv 0) (pe_callB call_len_seq (by rfl) m_len PySem.boot_len (pa_cons (pv 1) pa_nil)) rfl)
 (pss_cons (ps_fld (pv 0) (pe_callTy call_list_of (by rfl) m_list (by decide +kernel) (pa_cons (pv 1) pa_nil)) rfl)
 (pss_cons (ps_expr (pe_call G_check_blocks (hr.mono (by decide)) rfl m_check_blocks k_check_blocks b_check_blocks .nil pass0 (pa_cons (pv 0) (pa_cons (pv 3) pa_nil))))
 (pss_cons (ps_fld (pv 0) (pe_lc (own := [("block", 7)]) (g := gName 7) (tt := tYes) (te := (tOp (rInD K) (tVar 7) (tVar 3))) rfl sc_Layout_init.nd (pi_range1 rfl m_range (pa_cons (pe_fld (pv 0) rfl) pa_nil)) (blkOk_by (N := ["self", "lengths", "joints", "yards", "length", "west", "east", "block", "_", "blocks"]) (sc := defScope s_Layout_init) (by decide +kernel)) (fun _ _ _ _ _ => pg_name (i := 7) sc_Layout_init.nd rfl (Or.inl rfl)) (fun _ _ _ _ _ => pts_nil) (fun _ _ _ _ _ => (pe_cmpR (op_inD (hu65 hr)) (pv 7) (pv 3) (by rfl)))) rfl)
 (pss_cons (ps_fld (pv 0) (pe_lc (own := [("_", 8)]) (g := gName 8) (tt := tYes) rfl sc_Layout_init.nd (pi_range1 rfl m_range (pa_cons (pe_fld (pv 0) rfl) pa_nil)) (blkOk_by (N := ["self", "lengths", "joints", "yards", "length", "west", "east", "block", "_", "blocks"]) (sc := defScope s_Layout_init) (by decide +kernel)) (fun _ _ _ _ _ => pg_name (i := 8) sc_Layout_init.nd rfl (Or.inl rfl)) (fun _ _ _ _ _ => pts_nil) (fun _ _ _ _ _ => (pe_lst pa_nil))) rfl)
 (pss_cons (ps_fld (pv 0) (pe_lc (own := [("_", 8)]) (g := gName 8) (tt := tYes) rfl sc_Layout_init.nd (pi_range1 rfl m_range (pa_cons (pe_fld (pv 0) rfl) pa_nil)) (blkOk_by (N := ["self", "lengths", "joints", "yards", "length", "west", "east", "block", "_", "blocks"]) (sc := defScope s_Layout_init) (by decide +kernel)) (fun _ _ _ _ _ => pg_name (i := 8) sc_Layout_init.nd rfl (Or.inl rfl)) (fun _ _ _ _ _ => pts_nil) (fun _ _ _ _ _ => (pe_lst pa_nil))) rfl)
 (pss_cons (ps_for PassesOwn.never rfl (pi_list (pv 2)) (pg_tup rfl (pgs_cons (pg_name (i := 5) sc_Layout_init.nd rfl (by first | exact Or.inl rfl | exact Or.inr rfl)) (pgs_cons (pg_name (i := 6) sc_Layout_init.nd rfl (by first | exact Or.inl rfl | exact Or.inr rfl)) pgs_nil)))
 (pss_one (ps_expr (pe_meth (pv 0) cL M_add_joint G_add_joint (hr.mono (by decide)) b_add_joint .nil pass0 (pa_cons (pv 5) (pa_cons (pv 6) pa_nil))))))
 (pss_cons (ps_fld (pv 0) (pe_lc (own := [("blocks", 9)]) (g := gName 9) (tt := tYes) (te := (tCB (rSortedI K) (tCons (tVar 9) tNil))) rfl sc_Layout_init.nd (pi_list (pe_fld (pv 0) rfl)) (blkOk_by (N := ["self", "lengths", "joints", "yards", "length", "west", "east", "block", "_", "blocks"]) (sc := defScope s_Layout_init) (by decide +kernel)) (fun _ _ _ _ _ => pg_name (i := 9) sc_Layout_init.nd rfl (Or.inl rfl)) (fun _ _ _ _ _ => pts_nil) (fun _ _ _ _ _ => (pe_callB cr_sortedI (by rfl) m_sorted (by decide +kernel) (pa_cons (pv 9) pa_nil)))) rfl)
 (pss_one (ps_fld (pv 0) (pe_lc (own := [("blocks", 9)]) (g := gName 9) (tt := tYes) (te := (tCB (rSortedI K) (tCons (tVar 9) tNil))) rfl sc_Layout_init.nd (pi_list (pe_fld (pv 0) rfl)) (blkOk_by (N := ["self", "lengths", "joints", "yards", "length", "west", "east", "block", "_", "blocks"]) (sc := defScope s_Layout_init) (by decide +kernel)) (fun _ _ _ _ _ => pg_name (i := 9) sc_Layout_init.nd rfl (Or.inl rfl)) (fun _ _ _ _ _ => pts_nil) (fun _ _ _ _ _ => (pe_callB cr_sortedI (by rfl) m_sorted (by decide +kernel) (pa_cons (pv 9) pa_nil)))) rfl))))))))))), ?_⟩
    obtain ⟨_, xs1, e1, s1, t1⟩ := dp_lst d1
    cases e1
    rw [dpa_ints_eq t1] at s1
    obtain ⟨_, xs3, e3, s3, t3⟩ := dp_lst d3
    cases e3
    rw [dpa_ints_eq t3] at s3
    obtain ⟨_, xs2, e2, s2, t2⟩ := dp_lst d2
    cases e2
    have eGs : Ex G (outH H x) := ex_out hG gx
    have ox : outH H x x = none := out_self
    have len3 : ∀ (f : Str) (v : V) (fs : List (Str × V)), fs.length ≤ 10 → (putF f v fs).length ≤ 11 := fun f v fs h => by have := putF_len f v fs; omega
    refine st_forK (xs := lens.map V.int) hG (ex_var (v := .ref a1) rfl) s1 (fun i σ' H' => Ex H H' ∧ ∃ v, σ' = [some (.ref x), some (.ref a1), some (.ref a2), some (.ref a3), v, none, none, none, none, none]) (fun H' e => ⟨e, _, rfl⟩) (fun i σ' H' hw => hG.trans hw.1) (fun i y σ' H' hi hw => ?_) (fun σ' H1 hw => ?_)
    · obtain ⟨e, v, rfl⟩ := hw
      rw [List.getElem?_map] at hi
      obtain ⟨z, hz, rfl⟩ := Option.map_eq_some_iff.mp hi
      refine st_if0 (Ex.refl H') (et_test (ei_op0 (EF.iv (ex_var (v := .int z) rfl)) (EF.iv ex_c) fun a b G' ha hb => ⟨_, rfl, ?_⟩)) (fun H2 e2 => ⟨e.trans e2, _, rfl⟩)
      subst ha hb
      have := hl _ (List.mem_of_getElem? hz)
      exact decide_eq_false (by omega)
    obtain ⟨q1, v4, rfl⟩ := hw
    have eS1 : Ex (outH H x) H1 := out_ex.trans q1
    refine st_fld (P := XV (.int (lens.length : Int))) (q1 _ _ hx) ((ex_lenL (ex_var (v := .ref a1) rfl) (Evl.ex_l (eGs.trans eS1) s1)).imp fun y G' _ p => by rw [show y = _ from p, List.length_map]; rfl) (ex_var rfl) T.cl T.size (by simp) fun y G2 H2 f2 g2 p2 => ?_
    cases (show y = .int (lens.length : Int) from p2)
    have eS3 : Ex (outH H x) (upd H2 x (.ins C dx (putF "size" (.int (lens.length : Int)) []))) := ex_off (eS1.trans (f2.trans g2)) ox
    have i3 : (upd H2 x (.ins C dx (putF "size" (.int (lens.length : Int)) []))) x = some (.ins C dx (putF "size" (.int (lens.length : Int)) [])) := upd_same
    generalize upd H2 x (.ins C dx (putF "size" (.int (lens.length : Int)) [])) = H3 at eS3 i3 ⊢
    have fl1 : (putF "size" (V.int (lens.length : Int)) []).length ≤ 1 := putF_len _ _ _
    refine st_fld i3 (ed_list (EF.dv (ex_var (v := .ref a1) rfl) (dpx d1 (eGs.trans eS3)))) (ex_var rfl) T.cl T.lens (by omega) fun y G4 H4 f4 g4 p4 => ?_
    obtain ⟨l, xl, rfl, l0, l1, ld⟩ := p4
    have exl := dpa_ints_eq ld
    subst exl
    have hl4 : H4 l = some (.lst (lens.map V.int)) := g4 _ _ l1
    have lx : l ≠ x := fun z => by rw [z, i3] at l0; cases l0
    have l0S : outH H x l = none := none_back eS3 l0
    have eS5o : Ex (outH H x) (upd H4 x (.ins C dx (putF "_lengths" (.ref l) (putF "size" (.int (lens.length : Int)) [])))) := ex_off (eS3.trans (f4.trans g4)) ox
    obtain ⟨BB, hBB⟩ : ∃ BB, BB = upd (outH H x) l (.lst (lens.map V.int)) := ⟨_, rfl⟩
    have eS5 : Ex BB (upd H4 x (.ins C dx (putF "_lengths" (.ref l) (putF "size" (.int (lens.length : Int)) [])))) := by
      rw [hBB]
      exact ex_know eS5o (by rw [upd_ne lx]; exact hl4)
    have eGs0 : Ex G (outH H x) := eGs
    have eBB : Ex (outH H x) BB := by rw [hBB]; exact ex_in l0S
    have eGs : Ex G BB := eGs0.trans eBB
    have BBl : BB l = some (.lst (lens.map V.int)) := by rw [hBB]; exact upd_same
    have BBn : ∀ {a : Addr}, BB a = none → outH H x a = none := fun {a} h => by
      by_cases c : a = l
      · rw [c, BBl] at h; cases h
      · rw [hBB, upd_ne c] at h; exact h
    have ox : BB x = none := by rw [hBB, upd_ne (Ne.symm lx)]; exact ox
    clear hBB
    have i5 : (upd H4 x (.ins C dx (putF "_lengths" (.ref l) (putF "size" (.int (lens.length : Int)) [])))) x = some (.ins C dx (putF "_lengths" (.ref l) (putF "size" (.int (lens.length : Int)) []))) := upd_same
    generalize upd H4 x (.ins C dx (putF "_lengths" (.ref l) (putF "size" (.int (lens.length : Int)) []))) = H5 at eS5 eS5o i5 ⊢
    have fl2 : (putF "_lengths" (.ref l) (putF "size" (V.int (lens.length : Int)) [])).length ≤ 2 := by have := putF_len "_lengths" (.ref l) (putF "size" (V.int (lens.length : Int)) []); omega
    have z5 : (putF "_lengths" (.ref l) (putF "size" (V.int (lens.length : Int)) [])).lookup ("size" : Str) = some (.int (lens.length : Int)) := by rw [lookup_putF, if_neg (by decide +kernel), lookup_putF, if_pos rfl]
    refine st_drop (P := XV .non) (Ex.refl H5) (ex_call2 (ex_var (v := .ref x) rfl) (ex_var (v := .ref a3) rfl) fun G' e' => sa_checks (n := (lens.length : Int)) (bs := parks) ⟨dx, _, e' _ _ i5, z5⟩ (Evl.ex_l (eGs.trans (eS5.trans e')) s3) hpk) (fun v' G6 H6 g6 _ => ?_)
    have eS6 := eS5.trans g6.hp
    have i6 := g6.hp _ _ i5
    have gS : ∀ {H' : Hp} {p : Addr}, Ex BB H' → H' p = none → BB p = none := fun e h => none_back e h
    refine st_fld (P := fun v G' => ∃ p, v = .ref p ∧ H6 p = none ∧ G' p = some (.lst ((marksOf lens.length parks).map V.bl))) i6 (ef_lcR1 (n := (lens.length : Int)) (fun i xs G' => xs = (marksOf i parks).map V.bl) ((ea_one (ex_fld (v := .int (lens.length : Int)) (ex_var rfl) i6 T.cl T.size z5)).imp fun vs G' _ ⟨x, ev, hx⟩ => by rw [ev, show x = _ from hx]) (by omega) (fun x => rfl) (fun G' _ => rfl) (fun i xs G' e1 hi hxs => ec_all ((ed_inD (d := .int (i : Int)) (ds := parks.map PyData.int) (EF.dv (ex_var rfl) (.int _)) (EF.dv (ex_var (v := .ref a3) rfl) (dpx d3 (eGs.trans (eS6.trans e1)))) (sh_int _) (sh_ints _)).imp fun y G' _ ⟨b, eb, hb⟩ => ?_)) (fun p xs G' h1 h2 e1 _ hxs => ⟨p, rfl, h1, by rw [upd_same, hxs]; rfl⟩)) (ex_var rfl) T.cl T.marks (by omega) fun y G7 H7 f7 g7 p7 => ?_
    · rw [eb, hb, any_int, hxs]
      unfold marksOf
      rw [List.range_succ, List.map_append, List.map_append]
      rfl
    obtain ⟨ym, rfl, ym0, ym1⟩ := p7
    have ymS := gS eS6 ym0
    have ymx : ym ≠ x := fun z => by rw [z, i6] at ym0; cases ym0
    have ym8 : (upd H7 x (.ins C dx (putF "_yard_marks" (.ref ym) (putF "_lengths" (.ref l) (putF "size" (.int (lens.length : Int)) []))))) ym = some (.lst ((marksOf lens.length parks).map V.bl)) := by rw [upd_ne ymx]; exact g7 _ _ ym1
    have eS8 : Ex BB (upd H7 x (.ins C dx (putF "_yard_marks" (.ref ym) (putF "_lengths" (.ref l) (putF "size" (.int (lens.length : Int)) []))))) := ex_off (eS6.trans (f7.trans g7)) ox
    have i8 : (upd H7 x (.ins C dx (putF "_yard_marks" (.ref ym) (putF "_lengths" (.ref l) (putF "size" (.int (lens.length : Int)) []))))) x = some (.ins C dx (putF "_yard_marks" (.ref ym) (putF "_lengths" (.ref l) (putF "size" (.int (lens.length : Int)) [])))) := upd_same
    generalize upd H7 x (.ins C dx (putF "_yard_marks" (.ref ym) (putF "_lengths" (.ref l) (putF "size" (.int (lens.length : Int)) [])))) = H8 at ym8 eS8 i8 ⊢
    have fl3 : (putF "_yard_marks" (.ref ym) (putF "_lengths" (.ref l) (putF "size" (V.int (lens.length : Int)) []))).length ≤ 3 := by have := putF_len "_yard_marks" (.ref ym) (putF "_lengths" (.ref l) (putF "size" (V.int (lens.length : Int)) [])); omega
    have z8 : (putF "_yard_marks" (.ref ym) (putF "_lengths" (.ref l) (putF "size" (V.int (lens.length : Int)) []))).lookup ("size" : Str) = some (.int (lens.length : Int)) := by rw [lookup_putF, if_neg (by decide +kernel)]; exact z5
    have mk : ∀ {H8 : Hp} {fs : List (Str × V)} {σ : L2.St}, H8 x = some (.ins C dx fs) → fs.lookup ("size" : Str) = some (.int (lens.length : Int)) → σ = [some (.ref x), some (.ref a1), some (.ref a2), some (.ref a3), v4, none, none, none, none, none] →
        EF (tLc (iRng1 (tCons (tFld K (tVar 0) "size") tNil)) (gName 8) tYes (tLst tNil) [8]) σ H8 fun v G' => ∃ p as, v = .ref p ∧ H8 p = none ∧ G' p = some (.lst ((as : List Addr).map V.ref)) ∧ as.length = lens.length ∧ as.Nodup ∧ ∀ a ∈ as, H8 a = none ∧ G' a = some (.lst []) := fun {H8 fs σ} i8 z8 es => by
      subst es
      refine ef_lcR1 (n := (lens.length : Int)) (fun i xs G' => ∃ as : List Addr, xs = as.map V.ref ∧ as.length = i ∧ as.Nodup ∧ ∀ a ∈ as, H8 a = none ∧ G' a = some (.lst [])) ((ea_one (ex_fld (v := .int (lens.length : Int)) (ex_var rfl) i8 T.cl T.size z8)).imp fun vs G' _ ⟨x, ev, hx⟩ => by rw [ev, show x = _ from hx]) (by omega) (fun x => rfl) (fun G' _ => ⟨[], rfl, rfl, .nil, fun a m => nomatch m⟩) (fun i xs G' e1 hi hxs => ec_all (ef_lst ea_nil (fun vs _ h => by rw [h]; simp) fun q vs G2 e2 h1 h2 ev => ?_)) (fun p xs G' h1 h2 e1 _ hxs => ?_)
      · obtain ⟨as, rfl, hl, hn, ha⟩ := hxs
        have hq : q ∉ as := fun m => by
          have := (ha q m).2
          rw [h1] at this
          cases this
        refine ⟨as ++ [q], by rw [List.map_append]; rfl, by rw [List.length_append, hl]; rfl, List.nodup_append.mpr ⟨hn, by simp, fun a m b mb => ?_⟩, fun a m => ?_⟩
        · have e3 : b = q := by simpa using mb
          subst e3
          exact fun z => hq (z ▸ m)
        · rcases List.mem_append.mp m with m1 | m1
          · have aq : a ≠ q := fun z => by subst z; exact hq m1
            exact ⟨(ha a m1).1, by rw [upd_ne aq]; exact e2 _ _ (ha a m1).2⟩
          · have e3 : a = q := by simpa using m1
            subst e3
            exact ⟨none_back e1 h1, by rw [upd_same, ev]⟩
      · obtain ⟨as, rfl, hl, hn, ha⟩ := hxs
        refine ⟨p, as, rfl, h1, upd_same, by rw [hl]; simp, hn, fun a m => ⟨(ha a m).1, ?_⟩⟩
        have ap : a ≠ p := fun z => by
          subst z
          have q := (ha a m).2
          rw [h2] at q
          cases q
        rw [upd_ne ap]
        exact (ha a m).2
    refine st_fld i8 (mk i8 z8 rfl) (ex_var rfl) T.cl T.east (by omega) fun y G9 H9 f9 g9 p9 => ?_
    obtain ⟨e, ea, rfl, e0, e1, le, ne, he⟩ := p9
    generalize hfs3 : putF "_yard_marks" (.ref ym) (putF "_lengths" (.ref l) (putF "size" (V.int (lens.length : Int)) [])) = fs3 at fl3 z8 i8 ⊢
    have kp : ∀ {H0 H1 H2 : Hp} {fs fs' : List (Str × V)} {b : Addr} {o : HO}, H0 x = some (.ins C dx fs) → Ex H0 H1 → Ex H1 H2 → (H0 b = some o → b ≠ x → (upd H2 x (.ins C dx fs')) b = some o) := fun h0 q1 q2 hb hn => by rw [upd_ne hn]; exact q2 _ _ (q1 _ _ hb)
    have nx : ∀ {H0 : Hp} {fs : List (Str × V)} {b : Addr}, H0 x = some (.ins C dx fs) → H0 b = none → b ≠ x := fun h0 hb z => by rw [z, h0] at hb; cases hb
    have nl : ∀ {H0 : Hp} {fs : List (Str × V)} {b : Addr} {xs : List V}, H0 x = some (.ins C dx fs) → H0 b = some (.lst xs) → b ≠ x := fun h0 hb z => by rw [z, h0] at hb; cases hb
    have ym10 := kp (fs' := putF "_east" (.ref e) fs3) i8 f9 g9 ym8 (nl i8 ym8)
    have e10 : (upd H9 x (.ins C dx (putF "_east" (.ref e) fs3))) e = some (.lst (ea.map V.ref)) := by rw [upd_ne (nx i8 e0)]; exact g9 _ _ e1
    have ea10 : ∀ a ∈ ea, (upd H9 x (.ins C dx (putF "_east" (.ref e) fs3))) a = some (.lst []) := fun a m => by rw [upd_ne (nx i8 (he a m).1)]; exact g9 _ _ (he a m).2
    have eaS : ∀ a ∈ ea, BB a = none := fun a m => gS eS8 (he a m).1
    have eS10 : Ex BB (upd H9 x (.ins C dx (putF "_east" (.ref e) fs3))) := ex_off (eS8.trans (f9.trans g9)) ox
    have i10 : (upd H9 x (.ins C dx (putF "_east" (.ref e) fs3))) x = some (.ins C dx (putF "_east" (.ref e) fs3)) := upd_same
    have eS := gS eS8 e0
    generalize upd H9 x (.ins C dx (putF "_east" (.ref e) fs3)) = H10 at ym10 e10 ea10 eS10 i10 ⊢
    have fl4 : (putF "_east" (.ref e) fs3).length ≤ 4 := by have := putF_len "_east" (.ref e) fs3; omega
    have z10 : (putF "_east" (.ref e) fs3).lookup ("size" : Str) = some (.int (lens.length : Int)) := by rw [lookup_putF, if_neg (by decide +kernel)]; exact z8
    refine st_fld i10 (mk i10 z10 rfl) (ex_var rfl) T.cl T.west (by omega) fun y G11 H11 f11 g11 p11 => ?_
    obtain ⟨w1, wa, rfl, w0, w2, lw, nw, hw⟩ := p11
    have ym12 := kp (fs' := putF "_west" (.ref w1) (putF "_east" (.ref e) fs3)) i10 f11 g11 ym10 (nl i10 ym10)
    have e12 := kp (fs' := putF "_west" (.ref w1) (putF "_east" (.ref e) fs3)) i10 f11 g11 e10 (nl i10 e10)
    have ea12 : ∀ a ∈ ea, (upd H11 x (.ins C dx (putF "_west" (.ref w1) (putF "_east" (.ref e) fs3)))) a = some (.lst []) := fun a m => kp i10 f11 g11 (ea10 a m) (nl i10 (ea10 a m))
    have w12 : (upd H11 x (.ins C dx (putF "_west" (.ref w1) (putF "_east" (.ref e) fs3)))) w1 = some (.lst (wa.map V.ref)) := by rw [upd_ne (nx i10 w0)]; exact g11 _ _ w2
    have wa12 : ∀ a ∈ wa, (upd H11 x (.ins C dx (putF "_west" (.ref w1) (putF "_east" (.ref e) fs3)))) a = some (.lst []) := fun a m => by rw [upd_ne (nx i10 (hw a m).1)]; exact g11 _ _ (hw a m).2
    have waS : ∀ a ∈ wa, BB a = none := fun a m => gS eS10 (hw a m).1
    have eS12 : Ex BB (upd H11 x (.ins C dx (putF "_west" (.ref w1) (putF "_east" (.ref e) fs3)))) := ex_off (eS10.trans (f11.trans g11)) ox
    have i12 : (upd H11 x (.ins C dx (putF "_west" (.ref w1) (putF "_east" (.ref e) fs3)))) x = some (.ins C dx (putF "_west" (.ref w1) (putF "_east" (.ref e) fs3))) := upd_same
    have wS := gS eS10 w0
    generalize upd H11 x (.ins C dx (putF "_west" (.ref w1) (putF "_east" (.ref e) fs3))) = H12 at ym12 e12 ea12 w12 wa12 eS12 i12 ⊢
    have fl5 : (putF "_west" (.ref w1) (putF "_east" (.ref e) fs3)).length ≤ 5 := by have := putF_len "_west" (.ref w1) (putF "_east" (.ref e) fs3); omega
    have fld : FLd (putF "_west" (.ref w1) (putF "_east" (.ref e) fs3)) (lens.length : Int) l ym e w1 := by subst hfs3; exact fld5.1
    generalize putF "_west" (.ref w1) (putF "_east" (.ref e) fs3) = fs5 at i12 fl5 fld ⊢
    have S0 : AddSt C H12 x lens.length parks [] dx fs5 l ym e w1 ea wa := ⟨i12, fld, ym12, e12, w12, le, lw, fun b a h => ea12 a (List.mem_of_getElem? h), fun b a h => wa12 a (List.mem_of_getElem? h), List.nodup_append.mpr ⟨ne, nw, fun a m b mb z => by
      subst z
      have q := (hw a mb).1
      rw [ea10 a m] at q
      cases q⟩⟩
    have l2 : xs2.length = js.length := by rw [dpa_len t2, List.length_map]
    refine st_forK (xs := xs2) eS12 (ex_var (v := .ref a2) rfl) (Evl.ex_l eGs s2) (fun i σ' H' => Ex BB H' ∧ AddSt C H' x lens.length parks (js.take i) dx fs5 l ym e w1 ea wa ∧ ∃ v5 v6, σ' = [some (.ref x), some (.ref a1), some (.ref a2), some (.ref a3), v4, v5, v6, none, none, none]) (fun H' e => ⟨eS12.trans e, S0.ex e, _, _, rfl⟩) (fun i σ' H' hw => hw.1) (fun i y σ' H' hi hw => ?_) (fun σ' H13 hw => ?_)
    · obtain ⟨ew, S, v5, v6, rfl⟩ := hw
      obtain ⟨d, hd, dy⟩ := dpa_get t2 hi
      rw [List.getElem?_map] at hd
      obtain ⟨⟨u, v⟩, huv, rfl⟩ := Option.map_eq_some_iff.mp hd
      obtain ⟨a, xs, rfl, hs, hxs⟩ := dp_tup dy
      have exs : xs = [.int u, .int v] := dpa_ints_eq (zs := [u, v]) hxs
      rw [exs] at hs
      have N := hJ.at huv
      refine ⟨a, [.int u, .int v], rfl, Evl.ex_t (eGs.trans ew) hs, rfl, .int u, [.int v], rfl, .int v, [], rfl, rfl, ?_⟩
      refine ⟨_, rfl, x, dx, fs5, rfl, S.ins, S.fld.no _ (by decide +kernel) (by decide +kernel) (by decide +kernel) (by decide +kernel) (by decide +kernel), _, rfl, _, rfl, x, lens.length, parks, js.take i, dx, fs5, l, ym, e, w1, ea, wa, u, v, rfl, S, N, by rw [List.length_take]; omega, fun H2 S2 hk => ⟨fun b o q => hk b o (fun m => ?_) (fun m => ?_) (ew b o q), ?_, _, _, rfl⟩⟩
      · rw [eaS b m] at q
        cases q
      · rw [waS b m] at q
        cases q
      · rw [take_next huv]
        exact S2
    obtain ⟨eS13, S, v5, v6, rfl⟩ := hw
    rw [l2, List.take_length] at S
    have sortC : ∀ {H0 : Hp} {fs : List (Str × V)} {nm : Str} {o : Addr} {as : List Addr} {f : Int → List Int} {σ : L2.St}, H0 x = some (.ins C dx fs) → NoAttr K C nm → fs.lookup nm = some (.ref o) → H0 o = some (.lst (as.map V.ref)) → as.length = lens.length → (∀ (b : Nat) a, as[b]? = some a → H0 a = some (.lst ((f (b : Int)).map V.int))) → σ = [some (.ref x), some (.ref a1), some (.ref a2), some (.ref a3), v4, v5, v6, none, none, none] →
        EF (tLc (iList K (tFld K (tVar 0) nm)) (gName 9) tYes (tCB (rSortedI K) (tCons (tVar 9) tNil)) [9]) σ H0 fun v G' => ∃ p acc, v = .ref p ∧ H0 p = none ∧ G' p = some (.lst acc) ∧ SI K H0 f lens.length acc G' := fun {H0 fs nm o as f σ} hi hn hl ho hlen ha es => by
      subst es
      refine ef_lcL (xs := as.map V.ref) (fun i acc G' => SI K H0 f i acc G') ((ex_fld (v := .ref o) (ex_var rfl) hi T.cl hn hl).imp fun v G' e p => ⟨o, p, Evl.ex_l e (Evl.sq_of ho)⟩) (by rw [List.length_map]; omega) (fun x => rfl) (fun G' _ => ⟨[], .nil, ⟨rfl, fun b x h => by simp at h⟩, fun v m => nomatch m⟩) (fun i y acc G' e1 hi2 hI => ?_) (fun p acc G' h1 h2 e1 _ hI => ⟨p, acc, rfl, h1, upd_same, ?_⟩)
      · rw [List.getElem?_map] at hi2
        obtain ⟨a, hai, rfl⟩ := Option.map_eq_some_iff.mp hi2
        refine ec_all ((ef_sortI (ns := f (i : Int)) (ex_var (v := .ref a) rfl) (Evl.sq_of (e1 _ _ (ha i a hai)))).imp fun v G2 e2 p => ?_)
        obtain ⟨p, ns', rfl, h1, h2, h3, h4⟩ := p
        exact si_step (hI.ex e2) (none_back e1 h1) h2 h3 h4
      · rw [List.length_map, hlen] at hI
        exact hI.ex (ex_in h2)
    refine st_fld S.ins (sortC S.ins T.east fld.east S.east S.le S.ae rfl) (ex_var rfl) T.cl T.east (by omega) fun y G14 H14 f14 g14 p14 => ?_
    obtain ⟨e2', acc1, rfl, ee0, ee1, ess1, D1, Sr1, F1⟩ := p14
    have freshS : ∀ {H' : Hp} {acc : List V}, Ex BB H' → (∀ v ∈ acc, ∃ a, v = V.ref a ∧ H' a = none) → ∀ a, V.ref a ∈ acc → BB a = none := fun e h a m => by
      obtain ⟨b, eb, hb⟩ := h _ m
      cases eb
      exact gS e hb
    have freshX : ∀ {H' : Hp} {fs : List (Str × V)} {acc : List V}, H' x = some (.ins C dx fs) → (∀ v ∈ acc, ∃ a, v = V.ref a ∧ H' a = none) → ∀ a, V.ref a ∈ acc → a ≠ x := fun e h a m => by
      obtain ⟨b, eb, hb⟩ := h _ m
      cases eb
      exact nx e hb
    have eS15 : Ex BB (upd H14 x (.ins C dx (putF "_east" (.ref e2') fs5))) := ex_off (eS13.trans (f14.trans g14)) ox
    have i15 : (upd H14 x (.ins C dx (putF "_east" (.ref e2') fs5))) x = some (.ins C dx (putF "_east" (.ref e2') fs5)) := upd_same
    have ym15 := kp (fs' := putF "_east" (.ref e2') fs5) S.ins f14 g14 S.marks (nl S.ins S.marks)
    have w15 := kp (fs' := putF "_east" (.ref e2') fs5) S.ins f14 g14 S.west (nl S.ins S.west)
    have aw15 : ∀ (b : Nat) a, wa[b]? = some a → (upd H14 x (.ins C dx (putF "_east" (.ref e2') fs5))) a = some (.lst ((wo js (b : Int)).map V.int)) := fun b a h => kp S.ins f14 g14 (S.aw b a h) (nl S.ins (S.aw b a h))
    have e15 : (upd H14 x (.ins C dx (putF "_east" (.ref e2') fs5))) e2' = some (.lst acc1) := by rw [upd_ne (nx S.ins ee0)]; exact g14 _ _ ee1
    have D15 : DpAll K (upd H14 x (.ins C dx (putF "_east" (.ref e2') fs5))) acc1 (ess1.map dI) := dpa_upd (freshX S.ins F1) (dpax D1 g14)
    have S1x : ∀ a, V.ref a ∈ acc1 → BB a = none := freshS eS13 F1
    have X1x : ∀ a, V.ref a ∈ acc1 → a ≠ x := freshX S.ins F1
    have eeS := gS eS13 ee0
    have eex := nx S.ins ee0
    generalize upd H14 x (.ins C dx (putF "_east" (.ref e2') fs5)) = H15 at eS15 i15 ym15 w15 aw15 e15 D15 ⊢
    have fld6 : FLd (putF "_east" (.ref e2') fs5) (lens.length : Int) l ym e2' w1 := fld.putE (by omega)
    have fl6 : (putF "_east" (.ref e2') fs5).length ≤ 6 := by have := putF_len "_east" (.ref e2') fs5; omega
    generalize putF "_east" (.ref e2') fs5 = fs6 at i15 fld6 fl6 ⊢
    refine st_fld i15 (sortC i15 T.west fld6.west w15 S.lw aw15 rfl) (ex_var rfl) T.cl T.west (by omega) fun y G16 H16 f16 g16 p16 => ?_
    obtain ⟨w2', acc2, rfl, ww0, ww1, ess2, D2, Sr2, F2⟩ := p16
    have eS17 : Ex BB (upd H16 x (.ins C dx (putF "_west" (.ref w2') fs6))) := ex_off (eS15.trans (f16.trans g16)) ox
    have ym17 := kp (fs' := putF "_west" (.ref w2') fs6) i15 f16 g16 ym15 (nl i15 ym15)
    have e17 := kp (fs' := putF "_west" (.ref w2') fs6) i15 f16 g16 e15 eex
    have w17 : (upd H16 x (.ins C dx (putF "_west" (.ref w2') fs6))) w2' = some (.lst acc2) := by rw [upd_ne (nx i15 ww0)]; exact g16 _ _ ww1
    have D17 : DpAll K (upd H16 x (.ins C dx (putF "_west" (.ref w2') fs6))) acc1 (ess1.map dI) := dpa_upd X1x (dpax D15 (f16.trans g16))
    have D18 : DpAll K (upd H16 x (.ins C dx (putF "_west" (.ref w2') fs6))) acc2 (ess2.map dI) := dpa_upd (freshX i15 F2) (dpax D2 g16)
    have S2x : ∀ a, V.ref a ∈ acc2 → BB a = none := freshS eS15 F2
    have wwS := gS eS15 ww0
    have i17 : (upd H16 x (.ins C dx (putF "_west" (.ref w2') fs6))) x = some (.ins C dx (putF "_west" (.ref w2') fs6)) := upd_same
    have fld7 : FLd (putF "_west" (.ref w2') fs6) (lens.length : Int) l ym e2' w2' := fld6.putW (by omega)
    show Q .non (upd H16 x (.ins C dx (putF "_west" (.ref w2') fs6)))
    generalize upd H16 x (.ins C dx (putF "_west" (.ref w2') fs6)) = H17 at eS17 ym17 e17 w17 D17 D18 i17 ⊢
    have hS0 : ∀ a ∈ x :: ym :: e2' :: w2' :: (adrs acc1 ++ adrs acc2), BB a = none := fun a m => by
      rcases List.mem_cons.mp m with rfl | m
      · exact ox
      rcases List.mem_cons.mp m with rfl | m
      · exact ymS
      rcases List.mem_cons.mp m with rfl | m
      · exact eeS
      rcases List.mem_cons.mp m with rfl | m
      · exact wwS
      rcases List.mem_append.mp m with m | m
      · exact S1x a (mem_adrs.mp m)
      · exact S2x a (mem_adrs.mp m)
    have hS : ∀ a ∈ l :: x :: ym :: e2' :: w2' :: (adrs acc1 ++ adrs acc2), outH H x a = none := fun a m => by
      rcases List.mem_cons.mp m with rfl | m
      · exact l0S
      · exact BBn (hS0 a m)
    refine k (l :: x :: ym :: e2' :: w2' :: (adrs acc1 ++ adrs acc2)) H17 fun G0 e0 => ⟨pick_gr hS e0 (eBB.trans eS17), ⟨dx, _, l, ym, e2', w2', ess1, ess2, by rw [pick_in (by simp)]; exact i17, fld7, dp_mkL (xs := (marksOf lens.length parks).map V.bl) (by rw [pick_in (by simp)]; exact ym17) ?_, dp_mkL (xs := acc1) (by rw [pick_in (by simp)]; exact e17) (dpa_pick (fun a m => by simp [mem_adrs, m]) D17), dp_mkL (xs := acc2) (by rw [pick_in (by simp)]; exact w17) (dpa_pick (fun a m => by simp [mem_adrs, m]) D18), Sr1, Sr2⟩, dx, _, l, by rw [pick_in (by simp)]; exact i17, fld7.lens, dp_mkL (xs := lens.map V.int) (by rw [pick_in (List.mem_cons_self ..)]; exact eS17 _ _ BBl) (dpa_ints _)⟩
    exact dpa_bls _
end
end Kx

set_option Elab.async false
set_option linter.all false
set_option maxRecDepth 100000
set_option maxHeartbeats 8000000
namespace Kx
open PySem L2 Lw
open Evl (Ex)
abbrev s_Layout_points : Stmt := inClass (top 7) 11
theorem sc_Layout_points : FnScope ["self", "blocks", "block", "side"] ["self"] (defScope s_Layout_points) := ⟨rfl, rfl, rfl, by decide +kernel, rfl, by decide +kernel, by decide +kernel⟩
section
variable {P : Program} {w : World} {K : PySem.W.Frag} {mg : Str → Option Value} {base : Heap} {C CN : Addr} {f : Addr} {fd : FuncData}
def dPt (b : Int) (c : Bool) : PyData := .tuple [.int b, .str (sd c)]
def ptsAt (parks : List Int) (js : List (Int × Int)) (b : Int) (cs : List Bool) : List PyData := (cs.filter fun c => isPt parks js b c).map (dPt b)
def ptsD (parks : List Int) (js : List (Int × Int)) (n : Nat) : List PyData := (List.range n).flatMap fun (b : Nat) => ptsAt parks js (b : Int) [true, false]
theorem ptsD_succ (parks : List Int) (js : List (Int × Int)) (n : Nat) : ptsD parks js (n + 1) = ptsD parks js n ++ ptsAt parks js (n : Int) [true, false] := by
  unfold ptsD
  rw [List.range_succ, List.flatMap_append]
  simp
def spPts (K : PySem.W.Frag) (C : Addr) : Sp := fun vs H Q _ => ∃ (G : Hp) (p : Addr) (n : Nat) (parks : List Int) (js : List (Int × Int)), Ex G H ∧ vs = [.ref p] ∧ LayAt K C G p n parks js ∧ n ≤ 200 ∧ Ret G H (NwD K G (ptsD parks js n)) Q
theorem ok_points (T : Cl K C) (B : Blt mg) (F : Fun K "points" "Layout.points" s_Layout_points f fd) (Cp : Cal P w K mg base "is_point" 6 ["layout", "block", "side"] (spAskS K C pPoint)) : FnOk P w K mg base CX0 7 f fd ["self"] (spPts K C) := by
  obtain ⟨f1, fd1, G_is_point, m_is_point, k_is_point, b_is_point⟩ := Cp
  have m_range := B.range
  refine F.ok sc_Layout_points (fun vs H Q E h => ?_) (fun cdv A outer s H vs Q E hr h => ?_)
  · obtain ⟨G, p, n, parks, js, _, rfl, _⟩ := h
    rfl
  · obtain ⟨G, p, n, parks, js, hG, rfl, hL, hn, k⟩ := h
    refine ⟨_, (pss_cons (ps_set (i := 1) sc_Layout_points.nd rfl (by first | exact Or.inl rfl | exact Or.inr rfl) (pe_callTy cr_range1 (by rfl) m_range (by decide +kernel) (pa_cons (pe_fld (pv 0) rfl) pa_nil)))
 (pss_one (ps_ret (pe_lc2 (own := [("block", 2), ("side", 3)]) (vs1 := [3]) (g := gName 2) (g1 := gName 3) (tt := tYes) (tt1 := (tB (tCall (spAskS K C pPoint) [] E0 (tCons (tVar 0) (tCons (tVar 2) (tCons (tVar 3) tNil)))))) (wi1 := iTup K (tTup (tCons (tC (.str "east")) (tCons (tC (.str "west")) tNil)))) (te := (tTup (tCons (tVar 2) (tCons (tVar 3) tNil)))) rfl sc_Layout_points.nd (pi_rngV (pv 1)) (blkOk_by (N := ["self", "blocks", "block", "side"]) (sc := defScope s_Layout_points) (by decide +kernel)) (by decide) (fun _ _ _ _ _ => pg_name (i := 2) sc_Layout_points.nd rfl (Or.inl rfl)) (fun _ _ _ _ _ => pts_nil) (fun _ _ _ _ _ => (pi_tup (pe_tup (pa_cons pe_str (pa_cons pe_str pa_nil))))) (fun _ _ _ _ _ => pg_name (i := 3) sc_Layout_points.nd rfl (Or.inl rfl)) (fun _ _ _ _ _ => pts_one (pt_val (pe_call G_is_point (hr.mono (by decide)) rfl m_is_point k_is_point b_is_point .nil pass0 (pa_cons (pv 0) (pa_cons (pv 2) (pa_cons (pv 3) pa_nil)))))) (fun _ _ _ _ _ => (pe_tup (pa_cons (pv 2) (pa_cons (pv 3) pa_nil)))))))), ?_⟩
    have hL0 := hL
    obtain ⟨dx, fs, l, ym, e, wa, ess, wss, hp, hf, hm, he, hw, s1, s2⟩ := hL
    refine st_asg (P := fun v G' => ∃ a, v = .ref a ∧ G' a = some (.rng 0 (n : Int))) hG (ef_cb (ea_one (ef_fld (P := XV (.int (n : Int))) (ex_var rfl) hp T.cl T.size hf.size rfl)) fun vs G' e ⟨x, ev, hx⟩ => ?_) fun v1 G1 H1 g1 ⟨a, ev, ha⟩ => ?_
    · rw [ev, show x = _ from hx]
      exact fun H e Q q => ⟨(n : Int), rfl, fun p2 hp2 => q _ _ _ (.new e hp2) ⟨p2, rfl, upd_same⟩⟩
    subst ev
    dsimp only
    refine st_ret (P := NwD K G1 (ptsD parks js n)) g1.ok ?_ fun v G2 H2 g2 p2 => ?_
    rotate_left
    · exact k v G2 H2 (g1.trans g2) (p2.low g1.up)
    refine ef_lc2T (n := (n : Int)) [.str eastS, .str westS] (fun i k xs G' => i ≤ n ∧ k ≤ 2 ∧ DpAll K G' xs (ptsD parks js i ++ ptsAt parks js (i : Int) ([true, false].take k))) (ef_var (v := .ref a) rfl ⟨a, rfl, ha⟩) (by omega) (fun x => rfl) (fun x y => rfl) (fun G' _ => ⟨Nat.zero_le _, Nat.zero_le _, .nil⟩) (fun i xs G' hi h => ⟨by omega, Nat.zero_le _, ?_⟩) (fun i G' e1 hi => ?_) (fun i k xs G' G'' e1 h => ⟨h.1, h.2.1, dpax h.2.2 e1⟩) (fun i k y xs G' e1 hi hy h => ?_) (fun i k xs G' h => ?_) (fun p2 xs G' hg0 hg _ h => ⟨p2, xs, rfl, hg0, upd_same, ?_⟩)
    · have q : DpAll K G' xs (ptsD parks js i ++ ptsAt parks js (i : Int) [true, false]) := h.2.2
      rw [ptsD_succ]
      have e0 : ptsAt parks js ((i + 1 : Nat) : Int) (([true, false] : List Bool).take 0) = [] := rfl
      rw [e0, List.append_nil]
      exact q
    · exact ef_tup (ea_two mo_XV mo_XV (ex_c (v := .str eastS)) (ex_c (v := .str westS))) (fun vs G' ⟨x, y, ev, _⟩ => by rw [ev]; simp) fun q vs G2 _ _ _ ⟨x, y, ev, hx, hy⟩ => ⟨q, rfl, by rw [ev, show x = _ from hx, show y = _ from hy]; exact Evl.st_of upd_same⟩
    · have hk : ∃ c, ([true, false] : List Bool)[k]? = some c ∧ y = .str (sd c) := by
        match k with
        | 0 => exact ⟨true, rfl, (Option.some.inj hy).symm⟩
        | 1 => exact ⟨false, rfl, (Option.some.inj hy).symm⟩
        | k + 2 => simp at hy
      obtain ⟨c, hc, rfl⟩ := hk
      have hk2 : k + 1 ≤ 2 := (List.getElem?_eq_some_iff.mp hc).1
      have tn : ptsAt parks js (i : Int) (([true, false] : List Bool).take (k + 1)) = ptsAt parks js (i : Int) (([true, false] : List Bool).take k) ++ ptsAt parks js (i : Int) [c] := by
        rw [take_next hc]
        unfold ptsAt
        rw [List.filter_append, List.map_append]
      have one : ptsAt parks js (i : Int) [c] = if isPt parks js (i : Int) c = true then [dPt (i : Int) c] else [] := by
        unfold ptsAt
        by_cases q : isPt parks js (i : Int) c = true
        · rw [if_pos q, List.filter_cons, if_pos q]; rfl
        · rw [if_neg q, List.filter_cons, if_neg q]; rfl
      refine ec_if (p := (· = isPt parks js (i : Int) c)) (et_B (EF.bl (ex_call3 (P := XV (.bl (isPt parks js (i : Int) c))) (ex_var (v := .ref p) rfl) (ex_var (v := .int (i : Int)) rfl) (ex_var (v := .str (sd c)) rfl) fun G3 e3 => sa_askS' (P := pPoint) c (hL0.ex (g1.up.trans (e1.trans e3))) (by omega) (by omega)) rfl)) (fun hb => ?_) (fun hb => ?_)
      · refine ef_tup (ea_two mo_XV mo_XV (ex_var (v := .int (i : Int)) rfl) (ex_var (v := .str (sd c)) rfl)) (fun vs G' ⟨x, y, ev, _⟩ => by rw [ev]; simp) fun q vs G2 e2 _ hq2 ⟨x, y, ev, hx, hy⟩ => ⟨h.1, hk2, ?_⟩
        rw [tn, one, if_pos hb.symm, ← List.append_assoc]
        exact dpa_snoc (dpax h.2.2 (e2.trans (ex_in hq2))) (dp_mkT upd_same (by rw [ev, hx, hy]; exact .cons (.int _) (.cons (.str _) .nil)))
      · refine ⟨h.1, hk2, ?_⟩
        rw [tn, one, if_neg (by rw [← hb]; exact Bool.false_ne_true), List.append_nil]
        exact h.2.2
    · have q := dpa_len h.2.2
      have q1 : ∀ b cs, (ptsAt parks js b cs).length ≤ cs.length := fun b cs => by unfold ptsAt; rw [List.length_map]; exact List.length_filter_le _ _
      have q2 : ∀ m, (ptsD parks js m).length ≤ 2 * m := fun m => by
        induction m with
        | zero => exact Nat.le_refl _
        | succ m ih =>
          rw [ptsD_succ, List.length_append]
          have := q1 (m : Int) [true, false]
          simp only [List.length_cons, List.length_nil] at this
          omega
      have q3 := q2 i
      have q4 := q1 (i : Int) (([true, false] : List Bool).take k)
      have q5 : (([true, false] : List Bool).take k).length ≤ 2 := by rw [List.length_take]; simp; omega
      rw [q, List.length_append]
      have := h.1
      omega
    · have q : DpAll K G' xs (ptsD parks js n ++ ptsAt parks js (n : Int) (([true, false] : List Bool).take 0)) := h.2.2
      have e0 : ptsAt parks js (n : Int) (([true, false] : List Bool).take 0) = [] := rfl
      rw [e0, List.append_nil] at q
      exact dpax q (ex_in hg)
end
end Kx

set_option Elab.async false
set_option linter.all false
set_option maxRecDepth 100000
set_option maxHeartbeats 4000000
/-! lists of new lists; lists that will be changed -/
namespace Lw
open PySem PySem.Spec L2
open Evl (Ex)
section
variable {K : PySem.W.Frag} {C : Addr} {σ : L2.St} {G G0 G' H H' H1 : Hp} {ta tb te tl ti : TE} {P : VP} {D : Ends}
theorem el_mapR {ta : TA} {j : Nat} {n : Nat} {g : Nat → PyData} (h : EA ta σ G fun us _ => us = [.int (n : Int)]) (hn : n ≤ 1000) (hw : ∀ x, wipe ((wipe σ [j]).set j (some x)) [j] = wipe σ [j]) (he : ∀ (i : Nat) G', Ex G G' → i < n → EF te ((wipe σ [j]).set j (some (.int (i : Int)))) G' (DV K (g i))) :
    EF (tLc (iRng1 ta) (gName j) tYes te [j]) σ G (LS K ((List.range n).map g)) := by
  refine ef_lcR1 (n := (n : Int)) (fun i acc G' => DpAll K G' acc ((List.range i).map g)) h ⟨by omega, by omega⟩ hw (fun G' _ => .nil) (fun i acc G' e1 hi hI => ?_) (fun p acc G' h1 h2 _ _ hI => ⟨p, acc, rfl, upd_same, ?_⟩)
  · refine ec_all ((he i G' e1 (by omega)).imp fun v G2 e2 p => ?_)
    rw [List.range_succ, List.map_append]
    exact dpa_snoc (dpax hI e2) p
  · have en : ((n : Int)).toNat = n := by omega
    rw [en] at hI
    exact dpax hI (ex_in h2)
theorem eb_inI {a : Int} {l : List Int} (ha : EF ta σ G (XV (.int a))) (hb : EF tb σ G (DV K (dI l))) : EF (tOp (rInD K) ta tb) σ G (BV (· = decide (a ∈ l))) := (ed_inD (EF.dv ha (.int a)) hb (sh_int _) (sh_ints _)).imp fun v _ _ ⟨z, ez, hz⟩ => ⟨z, ez, by rw [hz]; exact any_int l a⟩
theorem eb_eqD {d e : PyData} {c : Bool} (ha : EF ta σ G (DV K d)) (hb : EF tb σ G (DV K e)) (hd : SeqAt.shaped d = true) (he : SeqAt.shaped e = true) (hc : PyData.eqv d e = c) : EF (tOp (rEqD K) ta tb) σ G (BV (· = c)) :=
  ef_op mo_DV mo_DV ha hb fun x y G' _ hx hy => fun H e Q k => ⟨_, _, dpx hx e, dpx hy e, hd, he, k _ G' H (.refl e) ⟨_, rfl, hc⟩⟩
theorem et_neD {d e : PyData} {c : Bool} (ha : EF ta σ G (DV K d)) (hb : EF tb σ G (DV K e)) (hd : SeqAt.shaped d = true) (he : SeqAt.shaped e = true) (hc : PyData.eqv d e = c) : ET (tTest (tOp (rNeD K) ta tb)) σ G (· = !c) :=
  et_test (ef_op mo_DV mo_DV ha hb fun x y G' _ hx hy => fun H e Q k => ⟨_, _, dpx hx e, dpx hy e, hd, he, k _ G' H (.refl e) ⟨_, rfl, by rw [hc]⟩⟩)
theorem e_isi {y : V} {t : Value} {b : Bool} (hy : EF ta σ G (XV y)) (ht : ∀ H, Ex G H → TyX K H y t) (hk : PySem.W.kitOne K t (.ref C) = some b) : EF (tCB (rIsi K) (tCons ta (tCons (tC (.ref C)) tNil))) σ G (BV (· = b)) :=
  ef_cb (ea_x hy (ea_x ex_c ea_nil)) fun vs G' e ev => fun H e2 Q q => ⟨y, .ref C, t, .ref C, b, ev, .own C, ht H (e.trans e2), hk, q _ G' H (.refl e2) ⟨b, rfl, rfl⟩⟩
theorem ed_srtP {a : Addr} {xs : List V} {js : List (Int × Int)} (ha : EF ta σ G (XV (.ref a))) (hs : SqL K G a xs) (hx : DpAll K G xs (js.map dP)) : EF (tCB (rSortPD K) (tCons ta tNil)) σ G (DV K (dPs (srtP js))) := (ef_sortPD ha hs hx).imp fun v _ _ ⟨l, p, s, d⟩ => by rw [srtP_of p s] at d; exact d
/-- the joints of a track as a list that can be read -/
theorem trk_j {t : Trk} {v : V} (d : Dp K G v (dT t)) : ∃ a xs, (∀ {σ : L2.St} {i : Nat} {G' : Hp}, Ex G G' → σ[i]? = some (some v) → EF (tOp (rIxT K) (tVar i) (tC (.int 1))) σ G' (XV (.ref a))) ∧ SqL K G a xs ∧ DpAll K G xs (t.joints.map dP) := by
  obtain ⟨b, ys, rfl, hs, hd⟩ := dp_tup d
  obtain ⟨v1, hv1, d1⟩ := dpa_get' (i := 1) (d := dPs t.joints) hd rfl
  obtain ⟨a, xs, rfl, s1, x1⟩ := dp_lst d1
  exact ⟨a, xs, fun e h => ex_ixT (i := 1) (ex_var h) ex_c (Evl.ex_t e hs) hv1, s1, x1⟩
/-- a value put into a list that is ours -/
theorem st_insV {q : Addr} {ys : List V} {i : Nat} {m : Int} (eG : Ex G H1) (hq : H1 q = some (.lst ys)) (hz : ys.length < 1000) (ho : σ[i]? = some (some (.ref q))) (hi : EF ti σ G (IV fun z => 0 ≤ z ∧ z < m)) (hm : m ≤ 100000) (hv : EF te σ G P)
    (k : ∀ z v G2 H2, Gr G G2 H1 H2 → (0 ≤ z ∧ z < m) → P v G2 → D.nx σ (upd H2 q (.lst (ys.take z.toNat ++ [v] ++ ys.drop z.toNat)))) : tDrop (tBM K "list" rIns (tVar i) (tCons ti (tCons te tNil))) D σ H1 := by
  refine ⟨.ref q, ho, .inl ⟨rfl, _, Evl.sq_of hq⟩, hi H1 eG _ fun u G2 H2 g2 ⟨z, ez, hz2⟩ => hv H2 (g2.up.trans g2.ok) _ fun v G3 H3 g3 pv => ?_⟩
  subst ez
  have e13 := g2.hp.trans g3.hp
  refine ⟨q, ys, z, v, rfl, rfl, e13 _ _ hq, Nat.lt_of_lt_of_le hz (by decide), hz2.1, by omega, ?_⟩
  exact k z v G3 H3 ((Gr.same eG g2.hp).trans g3) hz2 pv
/-- a list of new lists -/
def LN (K : PySem.W.Frag) (G0 : Hp) (ds : List PyData) : VP := fun v G => ∃ l bs, v = .ref l ∧ G0 l = none ∧ G l = some (.lst bs) ∧ DpAll K G bs ds ∧ ∀ b ∈ bs, ∃ a xs, b = .ref a ∧ G0 a = none ∧ a ≠ l ∧ G a = some (.lst xs) ∧ xs.length ≤ 900
theorem mo_LN {ds : List PyData} : Mo (LN K G0 ds) := fun v G G' e ⟨l, bs, ev, h0, h1, h2, h3⟩ => ⟨l, bs, ev, h0, e _ _ h1, dpax h2 e, fun b m => by obtain ⟨a, xs, eb, q0, q1, q2, q3⟩ := h3 b m; exact ⟨a, xs, eb, q0, q1, e _ _ q2, q3⟩⟩
theorem mo_NwD {ds : List PyData} : Mo (NwD K G0 ds) := fun v G G' e ⟨a, xs, ev, h0, h1, h2⟩ => ⟨a, xs, ev, h0, e _ _ h1, dpax h2 e⟩
theorem LN.dp {ds : List PyData} {v : V} (h : LN K G0 ds v G) : Dp K G v (.list ds) := by
  obtain ⟨l, bs, rfl, _, h1, h2, _⟩ := h
  exact dp_mkL h1 h2
theorem dpa_apd {G : Hp} : ∀ {vs us : List V} {ds es : List PyData}, DpAll K G vs ds → DpAll K G us es → DpAll K G (vs ++ us) (ds ++ es)
  | _, _, _, _, .nil, h => h
  | _, _, _, _, .cons a r, h => .cons a (dpa_apd r h)
theorem en_two {d1 d2 : List PyData} (e0 : Ex G0 G) (h1 : EF ta σ G (NwD K G0 d1)) (h2 : EF tb σ G (NwD K G0 d2)) (n1 : d1.length ≤ 900) (n2 : d2.length ≤ 900) : EF (tLst (tCons ta (tCons tb tNil))) σ G (LN K G0 [.list d1, .list d2]) :=
  ef_lst (ea_two mo_NwD mo_NwD h1 h2) (fun vs G' ⟨x, y, ev, _⟩ => by rw [ev]; simp) fun p vs G' e hp hp' ⟨x, y, ev, hx, hy⟩ => by
    have ei := ex_in (o := .lst vs) hp'
    have dx := dpx hx.dp ei
    have dy := dpx hy.dp ei
    obtain ⟨a, xs, rfl, a0, a1, a2⟩ := hx
    obtain ⟨b, ys, rfl, b0, b1, b2⟩ := hy
    have ne : ∀ {a : Addr} {xs : List V}, G' a = some (.lst xs) → a ≠ p := fun h z => by rw [z, hp'] at h; cases h
    refine ⟨p, vs, rfl, none_back e0 hp, upd_same, by rw [ev] at dx dy ⊢; exact .cons dx (.cons dy .nil), fun u m => ?_⟩
    rw [ev] at m
    simp only [List.mem_cons, List.not_mem_nil, or_false] at m
    rcases m with rfl | rfl
    · exact ⟨a, xs, rfl, a0, ne a1, ei _ _ a1, by rw [dpa_len a2]; exact n1⟩
    · exact ⟨b, ys, rfl, b0, ne b1, ei _ _ b1, by rw [dpa_len b2]; exact n2⟩
theorem en_cat {d1 d2 : List PyData} (e0 : Ex G0 G) (ha : EF ta σ G (LN K G0 d1)) (hb : EF tb σ G (LN K G0 d2)) (hz : d1.length + d2.length ≤ 100000) : EF (tOp rCat ta tb) σ G (LN K G0 (d1 ++ d2)) :=
  ef_op mo_LN mo_LN ha hb fun x y G' e ⟨l, xs, ex, l0, h1, q1, r1⟩ ⟨b, ys, ey, b0, h2, q2, r2⟩ => fun H e2 Q k => by
    refine ⟨l, b, xs, ys, ex, ey, e2 _ _ h1, e2 _ _ h2, ?_, fun p hp => k _ _ _ (.new e2 hp) ⟨p, _, rfl, none_back (e0.trans (e.trans e2)) hp, upd_same, ?_, fun u m => ?_⟩⟩
    · rw [dpa_len q1, dpa_len q2]
      exact Nat.le_trans hz (by decide)
    · have e3 := ex_in (o := .lst (xs ++ ys)) (none_back e2 hp)
      exact dpa_apd (dpax q1 e3) (dpax q2 e3)
    · have hp' := none_back e2 hp
      have e3 := ex_in (o := .lst (xs ++ ys)) hp'
      have ne : ∀ {a : Addr} {xs : List V}, G' a = some (.lst xs) → a ≠ p := fun h z => by rw [z, hp'] at h; cases h
      rcases List.mem_append.mp m with m | m
      · obtain ⟨a, zs, eu, a0, _, a1, a2⟩ := r1 u m
        exact ⟨a, zs, eu, a0, ne a1, e3 _ _ a1, a2⟩
      · obtain ⟨a, zs, eu, a0, _, a1, a2⟩ := r2 u m
        exact ⟨a, zs, eu, a0, ne a1, e3 _ _ a1, a2⟩
end
/-- lists that are there, some of them not empty -/
def LSt (B B0 : List Addr) (N : Nat) (H : Hp) : Prop := ∀ a ∈ B, ∃ xs, H a = some (.lst xs) ∧ xs.length ≤ N ∧ (a ∈ B0 → 0 < xs.length)
theorem LSt.up {B B0 : List Addr} {N : Nat} {H H' : Hp} (h : LSt B B0 N H) (e : Ex H H') : LSt B B0 N H' := fun a m => by
  obtain ⟨xs, h1, h2⟩ := h a m
  exact ⟨xs, e _ _ h1, h2⟩
theorem LSt.wide {B B0 : List Addr} {N N' : Nat} {H : Hp} (h : LSt B B0 N H) (e : N ≤ N') : LSt B B0 N' H := fun a m => by
  obtain ⟨xs, h1, h2, h3⟩ := h a m
  exact ⟨xs, h1, by omega, h3⟩
theorem LSt.put {B B0 : List Addr} {N : Nat} {H : Hp} {q : Addr} {ys : List V} (h : LSt B B0 N H) (h1 : ys.length ≤ N) (h2 : 0 < ys.length) : LSt B B0 N (upd H q (.lst ys)) := fun a m => by
  by_cases e : a = q
  · rw [e]
    exact ⟨ys, upd_same, h1, fun _ => h2⟩
  · rw [upd_ne e]
    exact h a m
def listsD (parks : List Int) (js : List (Int × Int)) (pt : List PyData) : Nat → List PyData
  | 0 => [.list ((srtP js).map dP), .list pt]
  | n + 1 => listsD parks js pt n ++ [dI (srtI (eo js (n : Int))), dI (srtI (wo js (n : Int)))] ++ [dI (srtI (eo js (n : Int))), dI (srtI (wo js (n : Int)))]
theorem listsD_len (parks : List Int) (js : List (Int × Int)) (pt : List PyData) : ∀ n, (listsD parks js pt n).length = 2 + 4 * n
  | 0 => rfl
  | n + 1 => by
    unfold listsD
    rw [List.length_append, List.length_append, listsD_len parks js pt n]
    simp
    omega
end Lw

set_option Elab.async false
set_option linter.all false
set_option maxRecDepth 100000
set_option maxHeartbeats 8000000
namespace Kx
open PySem L2 Lw
open Evl (Ex)
abbrev s_Layout_eq : Stmt := inClass (top 7) 2
theorem sc_Layout_eq : FnScope ["self", "other"] ["self", "other"] (defScope s_Layout_eq) := ⟨rfl, rfl, rfl, by decide +kernel, rfl, by decide +kernel, by decide +kernel⟩
abbrev s_mixed : Stmt := top 16
theorem sc_mixed : FnScope ["_law_row", "_law_cell_here", "_law_mixed_here", "_law_k"] ["_law_row", "_law_cell_here"] (defScope s_mixed) := ⟨rfl, rfl, rfl, by decide +kernel, rfl, by decide +kernel, by decide +kernel⟩
abbrev s_alike : Stmt := top 18
theorem sc_alike : FnScope ["_law_track_here", "_law_other", "_law_size", "_law_block"] ["_law_track_here", "_law_other"] (defScope s_alike) := ⟨rfl, rfl, rfl, by decide +kernel, rfl, by decide +kernel, by decide +kernel⟩
abbrev s_lists : Stmt := top 19
theorem sc_lists : FnScope ["_law_layout", "_law_size", "_law_rows", "_law_block"] ["_law_layout", "_law_size"] (defScope s_lists) := ⟨rfl, rfl, rfl, by decide +kernel, rfl, by decide +kernel, by decide +kernel⟩
section
variable {P : Program} {w : World} {K : PySem.W.Frag} {mg : Str → Option Value} {base : Heap} {C CN : Addr} {f : Addr} {fd : FuncData}
def spEqL (K : PySem.W.Frag) (C : Addr) : Sp := fun vs H Q _ => ∃ (G : Hp) (p : Addr) (lens parks : List Int) (js : List (Int × Int)) (y : V), Ex G H ∧ vs = [.ref p, y] ∧ LayL K C G p lens parks js ∧ JOk (lens.length : Int) parks js ∧
  ((∃ q lens' parks' js', y = .ref q ∧ LayL K C G q lens' parks' js' ∧ JOk (lens'.length : Int) parks' js' ∧ Ret G H (XV (.bl (alikeB lens parks js lens' parks' js'))) Q) ∨ (∃ t, (∀ H', Ex G H' → TyX K H' y t) ∧ PySem.W.kitOne K t (.ref C) = some false ∧ Ret G H (XV (.bl false)) Q))
theorem ok_eq (T : Cl K C) (B : Blt mg) (m_Layout : mg "Layout" = some (.ref C)) (ca : PySem.W.findIn K (.ref C) "__class__" = some (some (.builtin "object.__class__"))) (on : PySem.W.specialIn K (.builtin "object.__class__") "__get__" = some (some (.builtin "getset_descriptor.__get__"))) (ot : PySem.W.takesIn K (.builtin "object.__class__") = some true) (cm : PySem.W.mroIn K C (.type "object") = some true) (kk : PySem.W.kitOne K (.ref C) (.ref C) = some true)
    (F : Fun K "__eq__" "Layout.__eq__" s_Layout_eq f fd) : FnOk P w K mg base CX0 1 f fd ["self", "other"] (spEqL K C) := by
  have m_isinstance := B.isinstance
  refine F.ok sc_Layout_eq (fun vs H Q E h => ?_) (fun cdv A outer s H vs Q E hr h => ?_)
  · obtain ⟨G, p, lens, parks, js, y, _, rfl, _⟩ := h
    rfl
  · obtain ⟨G, p, lens, parks, js, y, hG, rfl, hL, hJ, h2⟩ := h
    refine ⟨_, (pss_one (ps_ret (pe_and (pe_callB call_isi (by rfl) m_isinstance (by decide +kernel) (pa_cons (pv 1) (pa_cons (pe_glob (v := .ref C) (by rfl) m_Layout rfl) pa_nil))) (pe_and (pe_cmpR (op_eqD (hu64 hr)) (pe_fld (pv 0) rfl) (pe_fld (pv 1) rfl) (nomark _)) (pe_and (pe_cmpR (op_eqD (hu64 hr)) (pe_fld (pv 0) rfl) (pe_fld (pv 1) rfl) (nomark _)) (pe_one (pe_cmpR (op_eqD (hu64 hr)) (pe_fld (pv 0) rfl) (pe_fld (pv 1) rfl) (nomark _)))))))), ?_⟩
    rcases h2 with ⟨q, lens', parks', js', rfl, hL', hJ', k⟩ | ⟨t, ht, hk, k⟩
    · obtain ⟨⟨dx, fs, l, ym, e, wa, ess, wss, hp, hf, hm, he, hw, s1, s2⟩, dxl, fsl, ll, hpl, hfl, hdl⟩ := hL
      obtain ⟨⟨dx', fs', l', ym', e', wa', ess', wss', hp', hf', hm', he', hw', s1', s2'⟩, dxl', fsl', ll', hpl', hfl', hdl'⟩ := hL'
      refine st_ret (P := BV (· = alikeB lens parks js lens' parks' js')) hG (eb_and (p := (· = true)) (q := (· = alikeB lens parks js lens' parks' js')) (e_isi (ex_var (v := .ref q) rfl) (fun H e => .base (.ins (e _ _ hp') T.cl ca on ot cm)) kk) (fun _ => ?_) (fun _ b hb => hb) (fun z => nomatch z)) fun v G' H' g p => k v G' H' g (by obtain ⟨z, rfl, rfl⟩ := p; rfl)
      refine eb_and (p := (· = decide (lens = lens'))) (q := (· = (decide (marksOf lens.length parks = marksOf lens.length parks') && decide (srtP js = srtP js')))) (eb_eqD (ef_fld (P := DV K (dI lens)) (ex_var (v := .ref p) rfl) hpl T.cl T.lens hfl hdl) (ef_fld (P := DV K (dI lens')) (ex_var (v := .ref q) rfl) hpl' T.cl T.lens hfl' hdl') (sh_ints _) (sh_ints _) (eqv_I _ _)) (fun h => ?_) (fun h b hb => by unfold alikeB; rw [← h, hb]; rfl) (fun h => by unfold alikeB; rw [← h]; rfl)
      have el : lens = lens' := of_decide_eq_true h.symm
      subst el
      refine eb_and (p := (· = decide (marksOf lens.length parks = marksOf lens.length parks'))) (q := (· = decide (srtP js = srtP js'))) (eb_eqD (ef_fld (P := DV K (.list ((marksOf lens.length parks).map PyData.bool))) (ex_var (v := .ref p) rfl) hp T.cl T.marks hf.marks hm) (ef_fld (P := DV K (.list ((marksOf lens.length parks').map PyData.bool))) (ex_var (v := .ref q) rfl) hp' T.cl T.marks hf'.marks hm') (sh_Bs _) (sh_Bs _) (eqv_Bs _ _)) (fun _ => ?_) (fun h b hb => by rw [← h, hb]; rfl) (fun h => by rw [← h]; rfl)
      exact eb_eqD (ef_fld (P := DV K (.list (ess.map dI))) (ex_var (v := .ref p) rfl) hp T.cl T.east hf.east he) (ef_fld (P := DV K (.list (ess'.map dI))) (ex_var (v := .ref q) rfl) hp' T.cl T.east hf'.east he') (sh_LL _) (sh_LL _) ((eqv_LL _ _).trans (decide_eq_decide.mpr ((ess_eq s1 s1' hJ hJ').trans srtP_iff.symm)))
    · exact st_ret (P := BV (· = false)) hG (eb_and (p := (· = false)) (q := fun _ => True) (s := (· = false)) (e_isi (ex_var (v := y) rfl) ht hk) (fun z => nomatch z) (fun z => nomatch z) (fun _ => rfl)) fun v G' H' g p => k v G' H' g (by obtain ⟨z, rfl, rfl⟩ := p; rfl)
def spMix (K : PySem.W.Frag) : Sp := fun vs H Q _ => ∃ (G : Hp) (a : Addr) (xs : List V) (ds : List PyData) (c : Int), Ex G H ∧ vs = [.ref a, .int c] ∧ SqL K G a xs ∧ DpAll K G xs ds ∧ ds.length ≤ 900 ∧ Ret G H (fun v G' => ∃ es : List PyData, es.Perm ds ∧ LS K es v G') Q
theorem ok_mix (B : Blt mg) (F : Fun K "_law_mixed" "_law_mixed" s_mixed f fd) (Cd : Cal P w K mg base "_law_draw" 1 ["_law_cell_here", "_law_k", "_law_size"] spDraw) : FnOk P w K mg base CX0 2 f fd ["_law_row", "_law_cell_here"] (spMix K) := by
  obtain ⟨f1, fd1, G_draw, m_draw, k_draw, b_draw⟩ := Cd
  have m_len := B.len
  have m_range := B.range
  refine F.ok sc_mixed (fun vs H Q E h => ?_) (fun cdv A outer s H vs Q E hr h => ?_)
  · obtain ⟨G, a, xs, ds, c, _, rfl, _⟩ := h
    rfl
  · obtain ⟨G, a, xs, ds, c, hG, rfl, hs, hd, hl, k⟩ := h
    refine ⟨_, (pss_cons (ps_set (i := 2) sc_mixed.nd rfl (by first | exact Or.inl rfl | exact Or.inr rfl) (pe_lst pa_nil))
 (pss_cons (ps_for PassesOwn.never rfl (pi_range1 rfl m_range (pa_cons (pe_callB call_len_seq (by rfl) m_len PySem.boot_len (pa_cons (pv 0) pa_nil)) pa_nil)) (pg_name (i := 3) sc_mixed.nd rfl (by first | exact Or.inl rfl | exact Or.inr rfl))
 (pss_one (ps_expr (pe_bm PySem.F.plainAttrs_list PySem.F.slot_list_insert PySem.F.type_list_insert mt_insert (pv 2) (pa_cons (pe_call G_draw (hr.mono (by decide)) rfl m_draw k_draw b_draw .nil pass0 (pa_cons (pv 1) (pa_cons (pv 3) (pa_cons (pe_op op_add (pv 3) pe_int) pa_nil)))) (pa_cons (pe_ix ix_list (pv 0) (pv 3) (fun _ _ => rfl)) pa_nil))))))
 (pss_one (ps_ret (pv 2))))), ?_⟩
    have hxl := dpa_len hd
    refine st_asg (P := fun v G' => ∃ q, v = .ref q ∧ G q = none ∧ G' q = some (.lst [])) hG (ef_lst ea_nil (fun vs _ h => by rw [h]; simp) fun q vs G' _ h h' e => ⟨q, rfl, h, by rw [e]; exact upd_same⟩) fun v2 G1 H1 g1 p1 => ?_
    obtain ⟨q, rfl, gq, hq1⟩ := p1
    have fq : H q = none := g1.fresh gq hq1
    refine st_forR1 (n := (xs.length : Int)) g1.ok ((ea_one (ex_lenL (ex_var (v := .ref a) rfl) (Evl.ex_l g1.up hs))).imp fun vs G' _ ⟨x, ev, hx⟩ => by rw [ev, show x = _ from hx]) (by omega) (by omega)
      (fun i σ' H' => (∃ v3, σ' = [some (.ref a), some (.int c), some (.ref q), v3]) ∧ Ex G H' ∧ Ex H H' ∧ ∃ ys es, H' q = some (.lst ys) ∧ DpAll K G ys es ∧ es.Perm (ds.take i) ∧ ys.length = i)
      (fun H' e => ⟨⟨_, rfl⟩, g1.up.trans (g1.ok.trans e), g1.hp.trans e, [], [], e _ _ (g1.ok _ _ hq1), .nil, .refl _, rfl⟩) (fun i σ' H' hi hw => ?_) (fun σ' H' hw => ?_)
    · obtain ⟨⟨v3, rfl⟩, eG, eH, ys, es, hq, hy, hp, hyl⟩ := hw
      have hx : xs[i]? = some xs[i] := List.getElem?_eq_getElem (by omega)
      obtain ⟨d, hd1, dx⟩ := dpa_get hd hx
      have hesl : es.length = ys.length := (dpa_len hy).symm
      refine st_insV (P := XV xs[i]) (m := (i : Int) + 1) eG hq (by omega) rfl (ei_draw (n := (i : Int) + 1) (EF.ivp (ex_var (v := .int c) rfl) trivial) (EF.ivp (ex_var (v := .int (i : Int)) rfl) ⟨by omega, by omega⟩) (EF.iv (ex_add (ex_var (v := .int (i : Int)) rfl) (ex_c (v := .int 1)))) (by omega) (by omega)) (by omega) (ex_ixL (i := i) (ex_var (v := .ref a) rfl) (ex_var (v := .int (i : Int)) rfl) rfl hs hx) fun z v G2 H2 g2 hz pv => ?_
      rw [show v = _ from pv]
      refine ⟨⟨_, rfl⟩, ex_off (eG.trans g2.hp) gq, ex_off (eH.trans g2.hp) fq, _, es.take z.toNat ++ [d] ++ es.drop z.toNat, upd_same, dpa_apd (dpa_apd (dpa_take _ hy) (.cons dx .nil)) (dpa_drop _ hy), ?_, ?_⟩
      · rw [take_next hd1]
        refine List.Perm.trans ?_ (hp.append_right [d])
        rw [List.append_assoc]
        refine (List.Perm.append_left _ List.perm_append_comm).trans ?_
        rw [← List.append_assoc, List.take_append_drop]
      · simp only [List.length_append, List.length_take, List.length_drop, List.length_singleton]
        omega
    · obtain ⟨⟨v3, rfl⟩, eG, eH, ys, es, hq, hy, hp, hyl⟩ := hw
      have en : ((xs.length : Int)).toNat = ds.length := by omega
      rw [en, List.take_length] at hp
      refine st_ret (P := XV (.ref q)) (ex_know eG hq) (ex_var rfl) fun v G' H6 g p => ?_
      rw [show v = _ from p]
      exact k _ _ H6 ((Gr.same hG (eH.trans g.hp)).know hG fq (g.hp _ _ hq)) ⟨es, hp, q, ys, rfl, upd_same, dpax hy (ex_in gq)⟩
def spAlk (K : PySem.W.Frag) : Sp := fun vs H Q _ => ∃ (G : Hp) (x y : V) (t u : Trk), Ex G H ∧ vs = [x, y] ∧ Dp K G x (dT t) ∧ Dp K G y (dT u) ∧ t.lens.length ≤ 200 ∧ Ret G H (XV (.bl (alikeB t.lens t.parks t.joints u.lens u.parks u.joints))) Q
theorem marks_map (n : Nat) (ps : List Int) : (List.range n).map (fun b : Nat => PyData.bool (decide (((b : Nat) : Int) ∈ ps))) = (marksOf n ps).map PyData.bool := by unfold marksOf; rw [List.map_map]; rfl
theorem ok_alk (B : Blt mg) (F : Fun K "_law_alike" "_law_alike" s_alike f fd) : FnOk P w K mg base CX0 1 f fd ["_law_track_here", "_law_other"] (spAlk K) := by
  have m_len := B.len
  have m_range := B.range
  have m_sorted := B.sorted
  refine F.ok sc_alike (fun vs H Q E h => ?_) (fun cdv A outer s H vs Q E hr h => ?_)
  · obtain ⟨G, x, y, t, u, _, rfl, _⟩ := h
    rfl
  · obtain ⟨G, x, y, t, u, hG, rfl, dx, dy, hn, k⟩ := h
    refine ⟨_, (pss_cons (ps_set (i := 2) sc_alike.nd rfl (by first | exact Or.inl rfl | exact Or.inr rfl) (pe_callB call_len_seq (by rfl) m_len PySem.boot_len (pa_cons (pe_ix ix_tup (pv 0) pe_int (fun _ _ => rfl)) pa_nil)))
 (pss_cons (ps_if (PW.pt (pw_or (pt_cmpR (op_neD (hu64 hr)) (pe_ix ix_tup (pv 0) pe_int (fun _ _ => rfl)) (pe_ix ix_tup (pv 1) pe_int (fun _ _ => rfl)) (nomark _)) (pw_or1 (pt_cmpR (op_neD (hu64 hr)) (pe_callB cr_sortPD (by rfl) m_sorted (by decide +kernel) (pa_cons (pe_ix ix_tup (pv 0) pe_int (fun _ _ => rfl)) pa_nil)) (pe_callB cr_sortPD (by rfl) m_sorted (by decide +kernel) (pa_cons (pe_ix ix_tup (pv 1) pe_int (fun _ _ => rfl)) pa_nil)) (nomark _)))))
 (pss_one (ps_ret pe_bl)) pss_nil)
 (pss_one (ps_ret (pe_cmpR (op_eqD (hu64 hr)) (pe_lc (own := [("_law_block", 3)]) (g := gName 3) (tt := tYes) (te := (tOp (rInD K) (tVar 3) (tOp (rIxT K) (tVar 0) (tC (.int 2))))) rfl sc_alike.nd (pi_range1 rfl m_range (pa_cons (pv 2) pa_nil)) (blkOk_by (N := ["_law_track_here", "_law_other", "_law_size", "_law_block"]) (sc := defScope s_alike) (by decide +kernel)) (fun _ _ _ _ _ => pg_name (i := 3) sc_alike.nd rfl (Or.inl rfl)) (fun _ _ _ _ _ => pts_nil) (fun _ _ _ _ _ => (pe_cmpR (op_inD (hu65 hr)) (pv 3) (pe_ix ix_tup (pv 0) pe_int (fun _ _ => rfl)) (by rfl)))) (pe_lc (own := [("_law_block", 3)]) (g := gName 3) (tt := tYes) (te := (tOp (rInD K) (tVar 3) (tOp (rIxT K) (tVar 1) (tC (.int 2))))) rfl sc_alike.nd (pi_range1 rfl m_range (pa_cons (pv 2) pa_nil)) (blkOk_by (N := ["_law_track_here", "_law_other", "_law_size", "_law_block"]) (sc := defScope s_alike) (by decide +kernel)) (fun _ _ _ _ _ => pg_name (i := 3) sc_alike.nd rfl (Or.inl rfl)) (fun _ _ _ _ _ => pts_nil) (fun _ _ _ _ _ => (pe_cmpR (op_inD (hu65 hr)) (pv 3) (pe_ix ix_tup (pv 1) pe_int (fun _ _ => rfl)) (by rfl)))) (nomark _)))))), ?_⟩
    obtain ⟨a1, x1, r1, s1, j1⟩ := trk_j dx
    obtain ⟨a2, x2, r2, s2, j2⟩ := trk_j dy
    refine st_asg (P := XV (.int (t.lens.length : Int))) hG ((ex_lenD (ed_t0 (v := x) rfl dx)).imp fun v _ _ p => by rw [show v = _ from p, List.length_map]; rfl) fun v2 G2 H2 g2 p2 => ?_
    cases (show v2 = _ from p2)
    have dx2 := dpx dx g2.up
    have dy2 := dpx dy g2.up
    refine st_if (p := (· = (!decide (t.lens = u.lens) || !decide (srtP t.joints = srtP u.joints)))) g2.ok (et_or (p := (· = !decide (t.lens = u.lens))) (q := (· = !decide (srtP t.joints = srtP u.joints))) (et_neD (ed_t0 (v := x) rfl dx2) (ed_t0 (v := y) rfl dy2) (sh_ints _) (sh_ints _) (eqv_I _ _)) (fun _ => et_neD (ed_srtP (r1 g2.up rfl) (Evl.ex_l g2.up s1) (dpax j1 g2.up)) (ed_srtP (r2 g2.up rfl) (Evl.ex_l g2.up s2) (dpax j2 g2.up)) (sh_pairs _) (sh_pairs _) (eqv_Ps _ _)) (fun h => by rw [← h]; rfl) (fun h b hb => by rw [← h, hb]; rfl)) (fun h H3 e3 => ?_) (fun h H3 e3 => ?_)
    · refine st_ret (P := XV (.bl false)) (g2.ok.trans e3) ex_c fun v G' H' g p => k v G' H' ((g2.then e3).trans g) ?_
      rw [show v = _ from p]
      show V.bl false = V.bl _
      congr 1
      unfold alikeB
      cases h1 : decide (t.lens = u.lens) with
      | false => rfl
      | true =>
        cases h2 : decide (srtP t.joints = srtP u.joints) with
        | false => simp
        | true => rw [h1, h2] at h; cases h
    · have mk : ∀ {i : Nat} {v : V} {s : Trk} {σ : L2.St}, Dp K G2 v (dT s) → σ[2]? = some (some (.int (t.lens.length : Int))) → (∀ z, ((wipe σ [3]).set 3 (some z))[i]? = some (some v)) → (∀ z, ((wipe σ [3]).set 3 (some z))[3]? = some (some z)) → (∀ z, wipe ((wipe σ [3]).set 3 (some z)) [3] = wipe σ [3]) → EF (tLc (iRng1 (tCons (tVar 2) tNil)) (gName 3) tYes (tOp (rInD K) (tVar 3) (tOp (rIxT K) (tVar i) (tC (.int 2)))) [3]) σ G2 (DV K (.list ((marksOf t.lens.length s.parks).map PyData.bool))) := fun d h2 h h3 hw => by
        rw [← marks_map]
        exact (el_mapR (n := t.lens.length) ((ea_one (ex_var h2)).imp fun vs G' _ ⟨x, ev, hx⟩ => by rw [ev, show x = _ from hx]) (by omega) hw fun j G' e hj => (eb_inI (ex_var (h3 _)) (ed_t2 (h _) (dpx d e))).imp fun v _ _ ⟨z, ez, hz⟩ => by rw [ez, hz]; exact .bl _).ls_dv
      refine st_ret (P := BV (· = decide (marksOf t.lens.length t.parks = marksOf t.lens.length u.parks))) (g2.ok.trans e3) (eb_eqD (mk (i := 0) dx2 rfl (fun z => rfl) (fun z => rfl) (fun z => rfl)) (mk (i := 1) dy2 rfl (fun z => rfl) (fun z => rfl) (fun z => rfl)) (sh_Bs _) (sh_Bs _) (eqv_Bs _ _)) fun v G' H' g p => k v G' H' ((g2.then e3).trans g) ?_
      obtain ⟨z, rfl, rfl⟩ := p
      show V.bl _ = V.bl _
      congr 1
      unfold alikeB
      cases h1 : decide (t.lens = u.lens) with
      | false => rw [h1] at h; cases h
      | true =>
        cases h2 : decide (srtP t.joints = srtP u.joints) with
        | false => rw [h1, h2] at h; cases h
        | true => simp
def spLst (K : PySem.W.Frag) (C : Addr) : Sp := fun vs H Q _ => ∃ (G : Hp) (p : Addr) (n : Nat) (parks : List Int) (js : List (Int × Int)), Ex G H ∧ vs = [.ref p, .int (n : Int)] ∧ LayAt K C G p n parks js ∧ JOk (n : Int) parks js ∧ n ≤ 200 ∧ js.length ≤ 900 ∧ Ret G H (LN K G (listsD parks js (ptsD parks js n) n)) Q
theorem ptsD_len (parks : List Int) (js : List (Int × Int)) : ∀ m, (ptsD parks js m).length ≤ 2 * m
  | 0 => Nat.le_refl _
  | m + 1 => by
    have ih := ptsD_len parks js m
    rw [ptsD_succ, List.length_append]
    have : (ptsAt parks js (m : Int) [true, false]).length ≤ 2 := by unfold ptsAt; rw [List.length_map]; exact List.length_filter_le _ _
    omega
theorem ok_lst (T : Cl K C) (B : Blt mg) (F : Fun K "_law_lists" "_law_lists" s_lists f fd) (Cj : CalM P w K mg base C "joints" 1 ["self"] (spJointsG K C)) (Cp : CalM P w K mg base C "points" 7 ["self"] (spPts K C)) (Ce : CalMX P w K mg base C "east_of" 4 ["self", "block"] (spAskG K C CN (gEast K))) (Cw : CalMX P w K mg base C "west_of" 4 ["self", "block"] (spAskG K C CN (gWest K))) (Cb : CalMX P w K mg base C "branches" 5 ["self", "block", "side"] (spAskSG K C CN (gBranch K))) :
    FnOk P w K mg base CX0 8 f fd ["_law_layout", "_law_size"] (spLst K C) := by
  obtain ⟨f1, fd1, G_joints, M_joints, b_joints⟩ := Cj
  obtain ⟨f2, fd2, G_mpoints, M_mpoints, b_mpoints⟩ := Cp
  obtain ⟨f3, fd3, G_east_of, M_east_of, b_east_of⟩ := Ce
  obtain ⟨f4, fd4, G_west_of, M_west_of, b_west_of⟩ := Cw
  obtain ⟨f5, fd5, G_branches, M_branches, b_branches⟩ := Cb
  have cL := T.cl
  have m_range := B.range
  refine F.ok sc_lists (fun vs H Q E h => ?_) (fun cdv A outer s H vs Q E hr h => ?_)
  · obtain ⟨G, p, n, parks, js, _, rfl, _⟩ := h
    rfl
  · obtain ⟨G, p, n, parks, js, hG, rfl, hL, hJ, hn, hj, k⟩ := h
    refine ⟨_, (pss_cons (ps_set (i := 2) sc_lists.nd rfl (by first | exact Or.inl rfl | exact Or.inr rfl) (pe_lst (pa_cons (pe_meth0 (pv 0) cL M_joints G_joints (hr.mono (by decide)) b_joints .nil pass0) (pa_cons (pe_meth0 (pv 0) cL M_mpoints G_mpoints (hr.mono (by decide)) b_mpoints .nil pass0) pa_nil))))
 (pss_cons (ps_for PassesOwn.never rfl (pi_range1 rfl m_range (pa_cons (pv 1) pa_nil)) (pg_name (i := 3) sc_lists.nd rfl (by first | exact Or.inl rfl | exact Or.inr rfl))
 (pss_cons (ps_set (i := 2) sc_lists.nd rfl (by first | exact Or.inl rfl | exact Or.inr rfl) (pe_op op_cat (pv 2) (pe_lst (pa_cons (pe_meth (pv 0) cL M_east_of G_east_of (hr.mono (by decide)) b_east_of .nil passL (pa_cons (pv 3) pa_nil)) (pa_cons (pe_meth (pv 0) cL M_west_of G_west_of (hr.mono (by decide)) b_west_of .nil passL (pa_cons (pv 3) pa_nil)) pa_nil)))))
 (pss_one (ps_set (i := 2) sc_lists.nd rfl (by first | exact Or.inl rfl | exact Or.inr rfl) (pe_op op_cat (pv 2) (pe_lst (pa_cons (pe_meth (pv 0) cL M_branches G_branches (hr.mono (by decide)) b_branches .nil passL (pa_cons (pv 3) (pa_cons pe_str pa_nil))) (pa_cons (pe_meth (pv 0) cL M_branches G_branches (hr.mono (by decide)) b_branches .nil passL (pa_cons (pv 3) (pa_cons pe_str pa_nil))) pa_nil))))))))
 (pss_one (ps_ret (pv 2))))), ?_⟩
    have pl := ptsD_len parks js n
    refine st_asg (P := LN K G (listsD parks js (ptsD parks js n) 0)) hG (en_two (Ex.refl G) (ex_meth0 (ex_var (v := .ref p) rfl) (hL.meth (by decide +kernel)) fun G' e' => SA.imp (P := NwD K G' ((srtP js).map dP)) (fun H e Q _ q => ⟨G', p, n, parks, js, e, rfl, hL.ex e', hJ, hn, hj, q⟩) fun v G2 h => h.low e') (ex_meth0 (ex_var (v := .ref p) rfl) (hL.meth (by decide +kernel)) fun G' e' => SA.imp (P := NwD K G' (ptsD parks js n)) (fun H e Q _ q => ⟨G', p, n, parks, js, e, rfl, hL.ex e', hn, q⟩) fun v G2 h => h.low e') (by rw [List.length_map, (srtP_perm js).length_eq]; exact hj) (by omega)) fun v2 G2 H2 g2 p2 => ?_
    refine st_forR1 (n := (n : Int)) g2.ok ((ea_one (ex_var (v := .int (n : Int)) rfl)).imp fun vs G' _ ⟨x, ev, hx⟩ => by rw [ev, show x = _ from hx]) (by omega) (by omega)
      (fun i σ' H' => ∃ v2 v3 G', σ' = [some (.ref p), some (.int (n : Int)), some v2, v3] ∧ Gr G G' H H' ∧ LN K G (listsD parks js (ptsD parks js n) i) v2 G')
      (fun H' e => ⟨_, _, G2, rfl, g2.then e, p2⟩) (fun i σ' H' hi hw => ?_) (fun σ' H' hw => ?_)
    · obtain ⟨v2, v3, G3, rfl, g3, q3⟩ := hw
      have hi2 : i < n := by omega
      have le : (srtI (eo js (i : Int))).length ≤ 900 := by rw [(srtI_perm _).length_eq]; have := eo_len_le js (i : Int); omega
      have lw : (srtI (wo js (i : Int))).length ≤ 900 := by rw [(srtI_perm _).length_eq]; have := wo_len_le js (i : Int); omega
      have len := listsD_len parks js (ptsD parks js n) i
      refine st_asg (P := LN K G (listsD parks js (ptsD parks js n) i ++ [dI (srtI (eo js (i : Int))), dI (srtI (wo js (i : Int)))])) g3.ok (en_cat g3.up (ef_var (v := v2) rfl q3) (en_two g3.up (ex_meth1 (ex_var (v := .ref p) rfl) (hL.ex g3.up |>.meth (by decide +kernel)) (ex_var (v := .int (i : Int)) rfl) fun G' e' => SA.imp (sa_askG (P := gEast K) (hL.ex (g3.up.trans e')) (by omega) (by omega)) fun v G2 h => h.low (g3.up.trans e')) (ex_meth1 (ex_var (v := .ref p) rfl) (hL.ex g3.up |>.meth (by decide +kernel)) (ex_var (v := .int (i : Int)) rfl) fun G' e' => SA.imp (sa_askG (P := gWest K) (hL.ex (g3.up.trans e')) (by omega) (by omega)) fun v G2 h => h.low (g3.up.trans e')) (by rw [List.length_map]; exact le) (by rw [List.length_map]; exact lw)) (by rw [len]; simp; omega)) fun v4 G4 H4 g4 p4 => ?_
      have g34 := g3.trans g4
      refine st_asg (P := LN K G (listsD parks js (ptsD parks js n) (i + 1))) g4.ok (en_cat g34.up (ef_var (v := v4) rfl p4) (en_two g34.up (ex_meth2 (ex_var (v := .ref p) rfl) (hL.ex g34.up |>.meth (by decide +kernel)) (ex_var (v := .int (i : Int)) rfl) (ex_c (v := .str (sd true))) fun G' e' => SA.imp (sa_askSG (P := gBranch K) true (hL.ex (g34.up.trans e')) (by omega) (by omega)) fun v G2 h => h.low (g34.up.trans e')) (ex_meth2 (ex_var (v := .ref p) rfl) (hL.ex g34.up |>.meth (by decide +kernel)) (ex_var (v := .int (i : Int)) rfl) (ex_c (v := .str (sd false))) fun G' e' => SA.imp (sa_askSG (P := gBranch K) false (hL.ex (g34.up.trans e')) (by omega) (by omega)) fun v G2 h => h.low (g34.up.trans e')) (by rw [List.length_map]; exact le) (by rw [List.length_map]; exact lw)) (by rw [List.length_append, len]; simp; omega)) fun v5 G5 H5 g5 p5 => ⟨_, _, G5, rfl, g34.trans g5, p5⟩
    · obtain ⟨v2, v3, G3, rfl, g3, q3⟩ := hw
      have en : ((n : Int)).toNat = n := by omega
      rw [en] at q3
      exact st_ret (P := LN K G (listsD parks js (ptsD parks js n) n)) g3.ok (ef_var (v := v2) rfl q3) fun v G' H6 g p => k v G' H6 (g3.trans g) p
end
end Kx

set_option Elab.async false
set_option linter.all false
set_option maxRecDepth 100000
set_option maxHeartbeats 8000000
namespace Kx
open PySem L2 Lw
open Evl (Ex)
abbrev s_cell : Stmt := top 12
theorem sc_cell : FnScope ["_law_script", "_law_k"] ["_law_script", "_law_k"] (defScope s_cell) := ⟨rfl, rfl, rfl, by decide +kernel, rfl, by decide +kernel, by decide +kernel⟩
abbrev s_draw : Stmt := top 13
theorem sc_draw : FnScope ["_law_cell_here", "_law_k", "_law_size", "_law_rest", "_law_mixed_here", "_law_turn"] ["_law_cell_here", "_law_k", "_law_size"] (defScope s_draw) := ⟨rfl, rfl, rfl, by decide +kernel, rfl, by decide +kernel, by decide +kernel⟩
section
variable {P : Program} {w : World} {K : PySem.W.Frag} {mg : Str → Option Value} {base : Heap} {C : Addr} {f : Addr} {fd : FuncData}
theorem ok_cell (B : Blt mg) (F : Fun K "_law_cell" "_law_cell" s_cell f fd) : FnOk P w K mg base CX0 1 f fd ["_law_script", "_law_k"] (Lw.spCell K) := by
  have m_len := B.len
  have m_int := B.int
  refine F.ok sc_cell (fun vs H Q E h => ?_) (fun cdv A outer s H vs Q E hr h => ?_)
  · obtain ⟨G, l, ns, k, _, rfl, _⟩ := h
    rfl
  · obtain ⟨G, l, ns, kk, hG, rfl, hs, hn, h0, h1, k⟩ := h
    refine ⟨_, (pss_cons (ps_if (pt_cmpR op_lt (pv 1) (pe_callB call_len_seq (by rfl) m_len PySem.boot_len (pa_cons (pv 0) pa_nil)) (nomark _))
 (pss_one (ps_ret (pe_ix ix_list (pv 0) (pv 1) (fun _ _ => rfl)))) pss_nil)
 (pss_cons (ps_if (pt_cmpR op_eq (pe_callB call_len_seq (by rfl) m_len PySem.boot_len (pa_cons (pv 0) pa_nil)) pe_int (nomark _))
 (pss_one (ps_ret (pe_op op_mul pe_int (pv 1)))) pss_nil)
 (pss_one (ps_ret (pe_op op_add (pe_ix ix_list (pv 0) (pe_op op_mod (pe_callTy call_int1 (by rfl) m_int (by decide +kernel) (pa_cons (pv 1) pa_nil)) (pe_callB call_len_seq (by rfl) m_len PySem.boot_len (pa_cons (pv 0) pa_nil))) (fun _ _ => rfl)) (pe_op op_mul pe_int (pv 1))))))), ?_⟩
    have lenv : ∀ {H' : Hp}, Ex G H' → EF (tCB (Evl.rLenS K) (tCons (tVar 0) tNil)) [some (.ref l), some (.int kk)] H' (XV (.int (ns.length : Int))) := fun {H'} e => (ex_lenL (ex_var (v := .ref l) rfl) (Evl.ex_l e hs)).imp fun y _ _ p => by rw [show y = _ from p, List.length_map]; rfl
    refine st_if (p := (· = decide (kk < (ns.length : Int)))) hG (et_test (ec_int (f := fun i j => decide (i < j)) (EF.iv (ex_var rfl)) (EF.iv (lenv (Ex.refl G))) fun a b ha hb => by rw [ha, hb])) (fun h H' e => ?_) (fun h H' e => ?_)
    · have hlt := of_decide_eq_true h.symm
      obtain ⟨j, rfl⟩ : ∃ j : Nat, kk = (j : Int) := ⟨kk.toNat, by omega⟩
      have hj : j < ns.length := by omega
      exact st_ret (P := XV (.int ns[j])) (hG.trans e) (ex_ixL (ex_var rfl) (ex_var rfl) rfl hs (by rw [List.getElem?_map, List.getElem?_eq_getElem hj]; rfl)) (fun v G' H2 g p => k v G' H2 ((Gr.same hG e).trans g) ⟨_, p, trivial⟩)
    refine st_if (p := (· = decide ((ns.length : Int) = 0))) (hG.trans e) (et_test (ei_eq (EF.iv (lenv (Ex.refl G))) (EF.iv ex_c) fun a b ha hb => by rw [ha, hb])) (fun h2 H2 e2 => ?_) (fun h2 H2 e2 => ?_)
    · exact st_ret (P := IV fun _ => True) (hG.trans (e.trans e2)) (ei_mul (p := (· = 7919)) (q := fun _ => True) (EF.iv ex_c) (EF.ivp (ex_var rfl) trivial) (fun a ha => by omega) fun _ _ _ _ => trivial) (fun v G' H3 g p => k v G' H3 ((Gr.same hG (e.trans e2)).trans g) p)
    · have hne := of_decide_eq_false h2.symm
      refine st_ret (P := IV fun _ => True) (hG.trans (e.trans e2)) (ei_add (p := fun _ => True) (q := fun _ => True) (ed_ixL (ds := ns.map PyData.int) (q := fun z => 0 ≤ z ∧ z < (ns.length : Int)) (EF.dv (ex_var (v := .ref l) rfl) (.lst hs (dpa_ints ns))) (ei_mod (n := (ns.length : Int)) (ei_int (EF.iv (ex_var rfl))) (EF.iv (lenv (Ex.refl G))) (by omega) fun a _ => ⟨Int.emod_nonneg _ (by omega), Int.emod_lt_of_pos _ (by omega)⟩) fun i hi => ?_) (ei_mul (p := (· = 7919)) (q := fun _ => True) (EF.iv ex_c) (EF.ivp (ex_var rfl) trivial) (fun a ha => by omega) fun _ _ _ _ => trivial) fun _ _ _ _ => trivial) (fun v G' H3 g p => k v G' H3 ((Gr.same hG (e.trans e2)).trans g) p)
      have hj : i.toNat < ns.length := by omega
      exact ⟨i.toNat, .int ns[i.toNat], by omega, by rw [List.getElem?_map, List.getElem?_eq_getElem hj]; rfl, fun v G' d => by cases d; exact ⟨_, rfl, trivial⟩⟩
theorem ok_draw (B : Blt mg) (F : Fun K "_law_draw" "_law_draw" s_draw f fd) : FnOk P w K mg base CX0 1 f fd ["_law_cell_here", "_law_k", "_law_size"] spDraw := by
  have m_abs := B.abs
  have m_int := B.int
  have m_range := B.range
  refine F.ok sc_draw (fun vs H Q E h => ?_) (fun cdv A outer s H vs Q E hr h => ?_)
  · obtain ⟨G, c, k, n, _, rfl, _⟩ := h
    rfl
  · obtain ⟨G, c, kk, n, hG, rfl, h0, h1, h2, h3, k⟩ := h
    refine ⟨_, (pss_cons (ps_set (i := 3) sc_draw.nd rfl (by first | exact Or.inl rfl | exact Or.inr rfl) (pe_callB call_abs (by rfl) m_abs (by decide +kernel) (pa_cons (pv 0) pa_nil)))
 (Evl.pss_cut (ps_if (pt_cmpR op_ge (pv 3) pe_int (nomark _))
 (pss_cons (ps_for PassesOwn.never rfl (pi_range1 rfl m_range (pa_cons (pv 1) pa_nil)) (pg_name (i := 5) sc_draw.nd rfl (by first | exact Or.inl rfl | exact Or.inr rfl))
 (pss_one (ps_set (i := 3) sc_draw.nd rfl (by first | exact Or.inl rfl | exact Or.inr rfl) (pe_op op_fdiv (pv 3) pe_int))))
 (pss_one (ps_if (pt_cmpR op_gt (pv 3) pe_int (nomark _))
 (pss_one (ps_ret (pe_op op_mod (pe_callTy call_int1 (by rfl) m_int (by decide +kernel) (pa_cons (pe_op op_mod (pe_callTy call_int1 (by rfl) m_int (by decide +kernel) (pa_cons (pv 3) pa_nil)) pe_int) pa_nil)) (pv 2)))) pss_nil))) pss_nil)
 (pss_cons (ps_set (i := 4) sc_draw.nd rfl (by first | exact Or.inl rfl | exact Or.inr rfl) (pe_op op_mod (pe_callTy call_int1 (by rfl) m_int (by decide +kernel) (pa_cons (pe_op op_add (pe_op op_add (pe_callB call_abs (by rfl) m_abs (by decide +kernel) (pa_cons (pv 0) pa_nil)) (pe_op op_mul pe_int (pv 1))) pe_int) pa_nil)) pe_int))
 (pss_cons (ps_set (i := 4) sc_draw.nd rfl (by first | exact Or.inl rfl | exact Or.inr rfl) (pe_op op_mod (pe_callTy call_int1 (by rfl) m_int (by decide +kernel) (pa_cons (pe_op op_mul (pv 4) (pe_op op_add (pv 4) pe_int)) pa_nil)) pe_int))
 (pss_cons (ps_set (i := 4) sc_draw.nd rfl (by first | exact Or.inl rfl | exact Or.inr rfl) (pe_op op_mod (pe_callTy call_int1 (by rfl) m_int (by decide +kernel) (pa_cons (pe_op op_add (pe_op op_mul (pv 4) (pe_op op_add (pv 4) pe_int)) (pe_op op_mul pe_int (pv 1))) pa_nil)) pe_int))
 (pss_one (ps_ret (pe_op op_mod (pe_callTy call_int1 (by rfl) m_int (by decide +kernel) (pa_cons (pe_op op_fdiv (pv 4) pe_int) pa_nil)) (pv 2))))))))), ?_⟩
    have fin : ∀ {G' H' : Hp} {σ : L2.St} {te : TE} {i : Nat}, Ex H H' → EF te σ G' (IV fun _ => True) → Ex G' H' → σ[i]? = some (some (.int n)) → EF (tOp (rI (fun _ j => 0 < j) fun i j => .int (i % j)) (tCB rIntI (tCons te tNil)) (tVar i)) σ G' (IV fun z => 0 ≤ z ∧ z < n) := fun e hv _ hi =>
      ei_mod (n := n) (ei_int hv) (EF.iv (ex_var hi)) (by omega) fun a _ => ⟨Int.emod_nonneg _ (by omega), Int.emod_lt_of_pos _ (by omega)⟩
    refine st_asg (P := IV fun _ => True) hG (ei_abs (EF.iv (ex_var (v := .int c) rfl))) fun v1 G1 H1 g1 ⟨r1, e1, _⟩ => ?_
    subst e1
    refine ⟨fun σ' H' => Ex H H' ∧ ∃ r v5, σ' = [some (.int c), some (.int kk), some (.int n), some (.int r), none, v5], ?_, ?_⟩
    · refine st_if (p := fun _ => True) (Ex.refl H1) (et_test (ec_int (p := fun _ => True) (q := fun _ => True) (f := fun i j => decide (j ≤ i)) (EF.ivp (ex_var rfl) trivial) (EF.ivp ex_c trivial) fun _ _ _ _ => trivial)) (fun _ H2 e2 => ?_) (fun _ H2 e2 => ⟨g1.hp.trans e2, _, _, rfl⟩)
      refine st_forR1 (n := kk) (Ex.refl H2) ((ea_one (ex_var (v := .int kk) rfl)).imp fun vs G' _ ⟨x, ev, hx⟩ => by rw [ev, show x = _ from hx]) (by omega) (by omega) (fun i σ' H' => Ex H H' ∧ ∃ r v5, σ' = [some (.int c), some (.int kk), some (.int n), some (.int r), none, v5]) (fun H' e => ⟨g1.hp.trans (e2.trans e), _, _, rfl⟩) (fun i σ' H' hi hw => ?_) (fun σ' H' hw => ?_)
      · obtain ⟨e, r, v5, rfl⟩ := hw
        refine st_asg (P := IV fun _ => True) (Ex.refl H') (ei_div (n := 64) (EF.iv (ex_var (v := .int r) rfl)) (EF.iv ex_c) (by omega) (by omega) fun _ _ => trivial) fun v2 G2 H2 g2 ⟨r2, er, _⟩ => ?_
        subst er
        exact ⟨e.trans g2.hp, _, _, rfl⟩
      · obtain ⟨e, r, v5, rfl⟩ := hw
        refine st_if (p := fun _ => True) (Ex.refl H') (et_test (ec_int (p := fun _ => True) (q := fun _ => True) (f := fun i j => decide (j < i)) (EF.ivp (ex_var (v := .int r) rfl) trivial) (EF.ivp ex_c trivial) fun _ _ _ _ => trivial)) (fun _ H3 e3 => ?_) (fun _ H3 e3 => ⟨e.trans e3, _, _, rfl⟩)
        exact st_ret (P := IV fun z => 0 ≤ z ∧ z < n) (hG.trans (e.trans e3)) (fin (e.trans e3) (ei_mod (n := 64) (s := fun _ => True) (ei_int (EF.iv (ex_var (v := .int r) rfl))) (EF.iv ex_c) (by omega) fun _ _ => trivial) (hG.trans (e.trans e3)) rfl) fun v G' H4 g p => k v G' H4 ((Gr.same hG (e.trans e3)).trans g) p
    · rintro σ1 H2 ⟨e2, r, v5, rfl⟩
      have big : ∀ (m : Int), 0 < m → m ≤ 2147483647 → ∀ a, (fun z : Int => 0 ≤ z ∧ z < 2147483647) (a % m) := fun m hm hm2 a => ⟨Int.emod_nonneg _ (by omega), by have := Int.emod_lt_of_pos a hm; omega⟩
      refine st_asg (P := IV fun z => 0 ≤ z ∧ z < 2147483647) (Ex.refl H2) (ei_mod (n := 2147483647) (ei_int (p := fun _ => True) (ei_add (p := fun _ => True) (q := fun _ => True) (ei_add (p := fun _ => True) (q := fun _ => True) (ei_abs (EF.iv (ex_var (v := .int c) rfl))) (ei_mul (p := (· = 7919)) (q := fun _ => True) (EF.iv ex_c) (EF.ivp (ex_var (v := .int kk) rfl) trivial) (fun a ha => by omega) fun _ _ _ _ => trivial) fun _ _ _ _ => trivial) (EF.ivp ex_c trivial) fun _ _ _ _ => trivial)) (EF.iv ex_c) (by omega) fun a _ => big _ (by omega) (by omega) a) fun v1 G3 H3 g3 ⟨m1, em1, hm1⟩ => ?_
      subst em1
      refine st_asg (P := IV fun z => 0 ≤ z ∧ z < 2147483647) (Ex.refl H3) (ei_mod (n := 2147483629) (ei_int (p := fun _ => True) (ei_mul (p := fun z => 0 ≤ z ∧ z < 2147483647) (q := fun _ => True) (EF.ivp (ex_var (v := .int m1) rfl) hm1) (ei_add (p := fun _ => True) (q := fun _ => True) (EF.ivp (ex_var (v := .int m1) rfl) trivial) (EF.ivp ex_c trivial) fun _ _ _ _ => trivial) (fun a ha => by omega) fun _ _ _ _ => trivial)) (EF.iv ex_c) (by omega) fun a _ => big _ (by omega) (by omega) a) fun v1 G4 H4 g4 ⟨m2, em2, hm2⟩ => ?_
      subst em2
      refine st_asg (P := IV fun z => 0 ≤ z ∧ z < 2147483647) (Ex.refl H4) (ei_mod (n := 2147483647) (ei_int (p := fun _ => True) (ei_add (p := fun _ => True) (q := fun _ => True) (ei_mul (p := fun z => 0 ≤ z ∧ z < 2147483647) (q := fun _ => True) (EF.ivp (ex_var (v := .int m2) rfl) hm2) (ei_add (p := fun _ => True) (q := fun _ => True) (EF.ivp (ex_var (v := .int m2) rfl) trivial) (EF.ivp ex_c trivial) fun _ _ _ _ => trivial) (fun a ha => by omega) fun _ _ _ _ => trivial) (ei_mul (p := (· = 31)) (q := fun _ => True) (EF.iv ex_c) (EF.ivp (ex_var (v := .int kk) rfl) trivial) (fun a ha => by omega) fun _ _ _ _ => trivial) fun _ _ _ _ => trivial)) (EF.iv ex_c) (by omega) fun a _ => big _ (by omega) (by omega) a) fun v1 G5 H5 g5 ⟨m3, em3, hm3⟩ => ?_
      subst em3
      have eH : Ex H H5 := e2.trans (g3.hp.trans (g4.hp.trans g5.hp))
      exact st_ret (P := IV fun z => 0 ≤ z ∧ z < n) (hG.trans eH) (fin eH (ei_div (n := 9) (s := fun _ => True) (EF.iv (ex_var (v := .int m3) rfl)) (EF.iv ex_c) (by omega) (by omega) fun _ _ => trivial) (hG.trans eH) rfl) fun v G' H6 g p => k v G' H6 ((Gr.same hG eH).trans g) p
end
end Kx

set_option Elab.async false
set_option linter.all false
set_option maxRecDepth 100000
set_option maxHeartbeats 16000000
namespace Kx
open PySem L2 Lw
open Evl (Ex)
abbrev s_track : Stmt := top 15
theorem sc_track : FnScope ["_law_cell_here", "_law_most", "_law_size", "_law_lengths", "_law_parks", "_law_joints", "_law_block", "_law_turn", "_law_other", "_law_fits_here", "_law_pair"] ["_law_cell_here", "_law_most"] (defScope s_track) := ⟨rfl, rfl, rfl, by decide +kernel, rfl, by decide +kernel, by decide +kernel⟩
section
variable {P : Program} {w : World} {K : PySem.W.Frag} {mg : Str → Option Value} {base : Heap} {C : Addr} {f : Addr} {fd : FuncData}
theorem ok_track (B : Blt mg) (F : Fun K "_law_track" "_law_track" s_track f fd) (Cd : Cal P w K mg base "_law_draw" 1 ["_law_cell_here", "_law_k", "_law_size"] spDraw) : FnOk P w K mg base CX0 2 f fd ["_law_cell_here", "_law_most"] (spTrackB K) := by
  obtain ⟨f1, fd1, G_draw, m_draw, k_draw, b_draw⟩ := Cd
  have m_len := B.len
  have m_min := B.min
  have m_int := B.int
  have m_range := B.range
  refine F.ok sc_track (fun vs H Q E h => ?_) (fun cdv A outer s H vs Q E hr h => ?_)
  · obtain ⟨G, c, m, _, rfl, _⟩ := h
    rfl
  · obtain ⟨G, c, m, hG, rfl, hm1, hm2, k⟩ := h
    refine ⟨_, (pss_cons (ps_set (i := 2) sc_track.nd rfl (by first | exact Or.inl rfl | exact Or.inr rfl) (pe_op op_add pe_int (pe_call G_draw (hr.mono (by decide)) rfl m_draw k_draw b_draw .nil pass0 (pa_cons (pv 0) (pa_cons pe_int (pa_cons (pv 1) pa_nil))))))
 (pss_cons (ps_setLc (i := 3) (own := [("_law_block", 6)]) (g := gName 6) (tt := tYes) rfl sc_track.nd rfl rfl (sw_true rfl rfl rfl (by decide +kernel)) (pi_range1 rfl m_range (pa_cons (pv 2) pa_nil)) (blkOk_by (N := ["_law_cell_here", "_law_most", "_law_size", "_law_lengths", "_law_parks", "_law_joints", "_law_block", "_law_turn", "_law_other", "_law_fits_here", "_law_pair"]) (sc := defScope s_track) (by decide +kernel)) (fun _ _ _ _ _ => pg_name (i := 6) sc_track.nd rfl (Or.inl rfl)) (fun _ _ _ _ _ => pts_nil) (fun _ _ _ _ _ => (pe_op op_add pe_int (pe_call G_draw (hr.mono (by decide)) rfl m_draw k_draw b_draw .nil pass0 (pa_cons (pv 0) (pa_cons (pe_op op_add (pe_op op_mul pe_int (pv 6)) pe_int) (pa_cons pe_int pa_nil)))))))
 (pss_cons (ps_setLc (i := 4) (own := [("_law_block", 6)]) (g := gName 6) rfl sc_track.nd rfl rfl (sw_true rfl rfl rfl (by decide +kernel)) (pi_range1 rfl m_range (pa_cons (pv 2) pa_nil)) (blkOk_by (N := ["_law_cell_here", "_law_most", "_law_size", "_law_lengths", "_law_parks", "_law_joints", "_law_block", "_law_turn", "_law_other", "_law_fits_here", "_law_pair"]) (sc := defScope s_track) (by decide +kernel)) (fun _ _ _ _ _ => pg_name (i := 6) sc_track.nd rfl (Or.inl rfl)) (fun _ _ _ _ _ => pts_one (pt_cmpR op_eq (pe_call G_draw (hr.mono (by decide)) rfl m_draw k_draw b_draw .nil pass0 (pa_cons (pv 0) (pa_cons (pe_op op_add (pe_op op_mul pe_int (pv 6)) pe_int) (pa_cons pe_int pa_nil)))) pe_int (nomark _))) (fun _ _ _ _ _ => (pv 6)))
 (pss_cons (ps_set (i := 5) sc_track.nd rfl (by first | exact Or.inl rfl | exact Or.inr rfl) (pe_lst pa_nil))
 (pss_cons (ps_for PassesOwn.never rfl (pi_range2 rfl m_range (pa_cons pe_int (pa_cons (pv 2) pa_nil))) (pg_name (i := 6) sc_track.nd rfl (by first | exact Or.inl rfl | exact Or.inr rfl))
 (pss_one (ps_for PassesOwn.never rfl (pi_range1 rfl m_range (pa_cons pe_int pa_nil)) (pg_name (i := 7) sc_track.nd rfl (by first | exact Or.inl rfl | exact Or.inr rfl))
 (pss_cons (ps_set (i := 8) sc_track.nd rfl (by first | exact Or.inl rfl | exact Or.inr rfl) (pe_op op_sub (pe_op op_sub (pv 6) pe_int) (pe_call G_draw (hr.mono (by decide)) rfl m_draw k_draw b_draw .nil pass0 (pa_cons (pv 0) (pa_cons (pe_op op_add (pe_op op_add (pe_op op_mul pe_int (pv 6)) pe_int) (pv 7)) (pa_cons (pe_callB (call_min2 rfl) (by rfl) m_min (by decide +kernel) (pa_cons (pv 6) (pa_cons pe_int pa_nil))) pa_nil))))))
 (pss_cons (ps_set (i := 9) sc_track.nd rfl (by first | exact Or.inl rfl | exact Or.inr rfl) (pe_cmpR (op_notInD (hu65 hr)) (pe_tup (pa_cons (pv 8) (pa_cons (pv 6) pa_nil))) (pv 5) (by rfl)))
 (Evl.pss_cut (ps_if (PW.pt (pw_and (pt_cmpR (op_notInD (hu65 hr)) (pv 8) (pv 4) (by rfl)) (pw_and1 (pt_cmpR op_eq (pe_callB call_len_seq (by rfl) m_len PySem.boot_len (pa_cons (pe_lc (own := [("_law_pair", 10)]) (g := gName 10) (tt := tTest (tOp rEq (tOp (rIxT K) (tVar 10) (tC (.int 0))) (tVar 8))) rfl sc_track.nd (pi_list (pv 5)) (blkOk_by (N := ["_law_cell_here", "_law_most", "_law_size", "_law_lengths", "_law_parks", "_law_joints", "_law_block", "_law_turn", "_law_other", "_law_fits_here", "_law_pair"]) (sc := defScope s_track) (by decide +kernel)) (fun _ _ _ _ _ => pg_name (i := 10) sc_track.nd rfl (Or.inl rfl)) (fun _ _ _ _ _ => pts_one (pt_cmpR op_eq (pe_ix ix_tup (pv 10) pe_int (fun _ _ => rfl)) (pv 8) (nomark _))) (fun _ _ _ _ _ => (pv 10))) pa_nil)) pe_int (nomark _)))))
 (pss_one (ps_set (i := 9) sc_track.nd rfl (by first | exact Or.inl rfl | exact Or.inr rfl) pe_bl)) pss_nil)
 (Evl.pss_cut (ps_if (PW.pt (pw_and (pt_cmpR (op_notInD (hu65 hr)) (pv 6) (pv 4) (by rfl)) (pw_and1 (pt_cmpR op_eq (pe_callB call_len_seq (by rfl) m_len PySem.boot_len (pa_cons (pe_lc (own := [("_law_pair", 10)]) (g := gName 10) (tt := tTest (tOp rEq (tOp (rIxT K) (tVar 10) (tC (.int 1))) (tVar 6))) rfl sc_track.nd (pi_list (pv 5)) (blkOk_by (N := ["_law_cell_here", "_law_most", "_law_size", "_law_lengths", "_law_parks", "_law_joints", "_law_block", "_law_turn", "_law_other", "_law_fits_here", "_law_pair"]) (sc := defScope s_track) (by decide +kernel)) (fun _ _ _ _ _ => pg_name (i := 10) sc_track.nd rfl (Or.inl rfl)) (fun _ _ _ _ _ => pts_one (pt_cmpR op_eq (pe_ix ix_tup (pv 10) pe_int (fun _ _ => rfl)) (pv 6) (nomark _))) (fun _ _ _ _ _ => (pv 10))) pa_nil)) pe_int (nomark _)))))
 (pss_one (ps_set (i := 9) sc_track.nd rfl (by first | exact Or.inl rfl | exact Or.inr rfl) pe_bl)) pss_nil)
 (Evl.pss_cut (ps_if (PW.pt (pw_and (pt_cmpR op_eq (pv 7) pe_int (nomark _)) (pw_and1 (pt_cmpR op_eq (pe_call G_draw (hr.mono (by decide)) rfl m_draw k_draw b_draw .nil pass0 (pa_cons (pv 0) (pa_cons (pe_op op_add (pe_op op_mul pe_int (pv 6)) pe_int) (pa_cons pe_int pa_nil)))) pe_int (nomark _)))))
 (pss_one (ps_set (i := 9) sc_track.nd rfl (by first | exact Or.inl rfl | exact Or.inr rfl) pe_bl)) pss_nil)
 (pss_one (ps_if (pt_val (pv 9))
 (pss_one (ps_expr (pe_bm PySem.F.plainAttrs_list PySem.F.slot_list_append PySem.F.type_list_append mt_append (pv 5) (pa_cons (pe_tup (pa_cons (pv 8) (pa_cons (pv 6) pa_nil))) pa_nil)))) pss_nil))))))))))
 (pss_one (ps_ret (pe_tup (pa_cons (pv 3) (pa_cons (pv 5) (pa_cons (pv 4) pa_nil))))))))))), ?_⟩
    refine st_asg (P := IV fun z => 1 ≤ z ∧ z ≤ m) hG (ei_add (p := (· = 1)) (q := fun z => 0 ≤ z ∧ z < m) (EF.iv ex_c) (ei_draw (n := m) (EF.ivp (ex_var (v := .int c) rfl) trivial) (EF.ivp ex_c ⟨by omega, by omega⟩) (EF.iv (ex_var (v := .int m) rfl)) (by omega) (by omega)) fun a b ha hb => by omega) fun v1 G1 H1 g1 ⟨n, en, hn⟩ => ?_
    subst en
    have ea1 : ∀ {σ : L2.St} {G' : Hp}, σ[2]? = some (some (.int n)) → EA (tCons (tVar 2) tNil) σ G' fun vs _ => vs = [.int n] := fun h => (ea_one (ex_var h)).imp fun vs G' _ ⟨x, ev, hx⟩ => by rw [ev, show x = _ from hx]
    refine st_asg (P := DL fun ns => (ns.length : Int) = n ∧ ∀ z ∈ ns, 1 ≤ z) g1.ok (ef_lens (n := n) (ea1 rfl) (by omega) (fun x => rfl) fun i G' _ hi => ei_add (p := (· = 1)) (q := fun z => 0 ≤ z ∧ z < 9) (EF.iv ex_c) (ei_draw (n := 9) (EF.ivp (ex_var (v := .int c) rfl) trivial) ((ei_k5 (b := (i : Int)) rfl (by omega) (by omega)).ivw fun z hz => by omega) (EF.iv ex_c) (by omega) (by omega)) fun a b ha hb => by omega) fun v2 G2 H2 g2 p2 => ?_
    obtain ⟨a3, lens, rfl, _, hlens, d3⟩ := dl_dp p2
    refine st_asg (P := DL fun ns => (ns.length : Int) ≤ n ∧ ∀ z ∈ ns, 0 ≤ z ∧ z < n) g2.ok (ef_parks (n := n) (ea1 rfl) (by omega) (fun x => rfl) (fun x => rfl) fun i G' _ hi => et_test (ei_eq (s := fun _ => True) (ei_draw (n := 4) (EF.ivp (ex_var (v := .int c) rfl) trivial) ((ei_k5 (b := (i : Int)) rfl (by omega) (by omega)).ivw fun z hz => by omega) (EF.iv ex_c) (by omega) (by omega)) (EF.iv ex_c) fun _ _ _ _ => trivial)) fun v3 G3 H3 g3 p3 => ?_
    obtain ⟨a4, parks, rfl, _, hparks, d4⟩ := dl_dp p3
    have d3' := dpx d3 g3.up
    have gA : Gr G G3 H H3 := g1.trans (g2.trans g3)
    refine st_asg (P := fun v G' => ∃ q, v = .ref q ∧ G3 q = none ∧ G' q = some (.lst [])) g3.ok (ef_lst ea_nil (fun vs _ h => by rw [h]; simp) fun q vs G' _ h h' e => ⟨q, rfl, h, by rw [e]; exact upd_same⟩) fun v4 G4 H4 g4 p4 => ?_
    obtain ⟨p, rfl, gp0, gp1⟩ := p4
    have hp3 := g4.fresh gp0 gp1
    have hpH : H p = none := none_back gA.hp hp3
    refine st_forR2 (lo := 1) (n := n) (g3.ok.trans g4.hp) ((ea_two mo_XV mo_XV (ex_c (v := .int 1)) (ex_var (v := .int n) rfl)).imp fun vs G' _ ⟨x, y, ev, hx, hy⟩ => by rw [ev, show x = _ from hx, show y = _ from hy]) (by omega) (fun i σ' H' => (∃ v6 v7 v8 v9, σ' = [some (.int c), some (.int m), some (.int n), some (.ref a3), some (.ref a4), some (.ref p), v6, v7, v8, v9, none]) ∧ JSt K G3 H3 H' p n parks (2 * i) (fun _ => True)) (fun H' e => ⟨⟨none, none, none, none, rfl⟩, G3, [], [], (Gr.refl g3.ok).then (g4.hp.trans e), gp0, e _ _ (g4.ok _ _ gp1), .nil, .nil, Nat.zero_le _, trivial⟩) (fun i σ' H' hi hw => ?_) (fun σ' H5 hw => ?_)
    · obtain ⟨⟨v6, v7, v8, v9, rfl⟩, hJ⟩ := hw
      have hi' : (1 : Int) + (i : Int) < n := hi
      refine st_forR1 (n := 2) (Ex.refl H') ((ea_one (ex_c (v := .int 2))).imp fun vs G' _ ⟨x, ev, hx⟩ => by rw [ev, show x = _ from hx]) (by omega) (by omega) (fun t σ' H2' => (∃ u7 u8 u9, σ' = [some (.int c), some (.int m), some (.int n), some (.ref a3), some (.ref a4), some (.ref p), some (.int (1 + (i : Int))), u7, u8, u9, none]) ∧ JSt K G3 H3 H2' p n parks (2 * i + t) (fun _ => True)) (fun H2' e => ⟨⟨_, _, _, rfl⟩, hJ.up (e) (by omega) fun js h => trivial⟩) (fun t σ' Ht ht hw => ?_) (fun σ' H2' hw => ?_)
      · obtain ⟨⟨u7, u8, u9, rfl⟩, G5, xs, js, gJ, gp5, hp5, hx, hj, hl, hR⟩ := hw
        have hl9 : js.length ≤ 900 := by omega
        refine st_asg (P := IV fun z => 0 ≤ z ∧ z < 1 + (i : Int)) (Ex.refl Ht) (ei_sub (p := (· = 1 + (i : Int) - 1)) (q := fun z => 0 ≤ z ∧ z < (if (3 : Int) < 1 + (i : Int) then 3 else 1 + (i : Int))) (ei_sub (p := (· = 1 + (i : Int))) (q := (· = 1)) (EF.iv (ex_var rfl)) (EF.iv ex_c) fun a b ha hb => by rw [ha, hb]) (ei_draw (n := if (3 : Int) < 1 + (i : Int) then 3 else 1 + (i : Int)) (EF.ivp (ex_var (v := .int c) rfl) trivial) (ei_add (p := (· = 5 * (1 + (i : Int)) + 3)) (q := (· = (t : Int))) (ei_k5 (b := 1 + (i : Int)) rfl (by omega) (by omega)) (EF.iv (ex_var rfl)) fun a b ha hb => by omega) (ei_min (p := (· = 1 + (i : Int))) (q := (· = 3)) (EF.iv (ex_var rfl)) (EF.iv ex_c) fun a b ha hb => by rw [ha, hb]) (by split <;> omega) (by split <;> omega)) fun a b ha hb => by split at hb <;> omega) fun vo Go Ho go ⟨o, eo', ho⟩ => ?_
        subst eo'
        have hp6 := go.hp _ _ hp5
        have ePo : Ex (upd G5 p (.lst xs)) Ho := ex_know (gJ.ok.trans go.hp) hp6
        have xPo : DpAll K (upd G5 p (.lst xs)) xs (js.map dP) := dpax hx (ex_in gp5)
        refine st_asg (P := BV (· = decide ((o, 1 + (i : Int)) ∉ js))) ePo ((ed_niD (d := dP (o, 1 + (i : Int))) (ds := js.map dP) (ef_tup (ea_two mo_XV mo_XV (ex_var (v := .int o) rfl) (ex_var (v := .int (1 + (i : Int))) rfl)) (fun vs G' ⟨x, y, ev, _⟩ => by rw [ev]; simp) fun q vs G' _ _ _ ⟨x, y, ev, hx, hy⟩ => dp_mkT upd_same (by rw [ev, hx, hy]; exact .cons (.int _) (.cons (.int _) .nil))) (EF.dv (ex_var (v := .ref p) rfl) (dp_mkL upd_same xPo)) (sh_pair _) (sh_pairs _)).imp fun v _ _ ⟨b, e, hb⟩ => ⟨b, e, by rw [hb, any_pair]; simp⟩) fun vf Gf Hf gf ⟨fb, efb, hfb⟩ => ?_
        subst efb
        have hA : fb = true → 0 ≤ o ∧ o < 1 + (i : Int) ∧ (o, 1 + (i : Int)) ∉ js := fun z => ⟨ho.1, ho.2, of_decide_eq_true (by rw [← hfb]; exact z)⟩
        have eF : Ex Ht Hf := go.hp.trans gf.hp
        have sgE : ∀ (fb : Bool), ∃ σ : L2.St, σ = [some (.int c), some (.int m), some (.int n), some (.ref a3), some (.ref a4), some (.ref p), some (.int (1 + (i : Int))), some (.int (t : Int)), some (.int o), some (.bl fb), none] := fun fb => ⟨_, rfl⟩
        have crowdE : ∀ {H' : Hp} {fb : Bool}, Ex Ht H' → ET (tAnd (tTest (tOp (rNotInD K) (tVar 8) (tVar 4))) (tTest (tOp rEq (tCB (Evl.rLenS K) (tCons (tLc (iList K (tVar 5)) (gName 10) (tTest (tOp rEq (tOp (rIxT K) (tVar 10) (tC (.int 0))) (tVar 8))) (tVar 10) [10]) tNil)) (tC (.int 2))))) [some (.int c), some (.int m), some (.int n), some (.ref a3), some (.ref a4), some (.ref p), some (.int (1 + (i : Int))), some (.int (t : Int)), some (.int o), some (.bl fb), none] (upd G5 p (.lst xs)) (· = (!decide (o ∈ parks) && decide ((eo js o).length = 2))) := fun {H' fb} e =>
          et_crowd (b := true) (ex_var rfl) (EF.dv (ex_var (v := .ref a4) rfl) (dpx d4 (gJ.up.trans (ex_in gp5)))) (by have q := ef_cnt (K := K) (i0 := 0) (j := 10) (so := 8) (o := o) (sel := fun p => p.1) (σ := [some (.int c), some (.int m), some (.int n), some (.ref a3), some (.ref a4), some (.ref p), some (.int (1 + (i : Int))), some (.int (t : Int)), some (.int o), some (.bl fb), none]) (fun p => rfl) (ex_var (i := 5) (v := .ref p) rfl) (Evl.sq_of (upd_same (H := G5) (a := p))) (dpax hx (ex_in gp5)) (by omega) (fun x => rfl) (fun x => rfl) (fun x => rfl); rw [eo_len] at q; exact q)
        have crowdW : ∀ {H' : Hp} {fb : Bool}, Ex Ht H' → ET (tAnd (tTest (tOp (rNotInD K) (tVar 6) (tVar 4))) (tTest (tOp rEq (tCB (Evl.rLenS K) (tCons (tLc (iList K (tVar 5)) (gName 10) (tTest (tOp rEq (tOp (rIxT K) (tVar 10) (tC (.int 1))) (tVar 6))) (tVar 10) [10]) tNil)) (tC (.int 2))))) [some (.int c), some (.int m), some (.int n), some (.ref a3), some (.ref a4), some (.ref p), some (.int (1 + (i : Int))), some (.int (t : Int)), some (.int o), some (.bl fb), none] (upd G5 p (.lst xs)) (· = (!decide (1 + (i : Int) ∈ parks) && decide ((wo js (1 + (i : Int))).length = 2))) := fun {H' fb} e =>
          et_crowd (b := true) (ex_var rfl) (EF.dv (ex_var (v := .ref a4) rfl) (dpx d4 (gJ.up.trans (ex_in gp5)))) (by have q := ef_cnt (K := K) (i0 := 1) (j := 10) (so := 6) (o := 1 + (i : Int)) (sel := fun p => p.2) (σ := [some (.int c), some (.int m), some (.int n), some (.ref a3), some (.ref a4), some (.ref p), some (.int (1 + (i : Int))), some (.int (t : Int)), some (.int o), some (.bl fb), none]) (fun p => rfl) (ex_var (i := 5) (v := .ref p) rfl) (Evl.sq_of (upd_same (H := G5) (a := p))) (dpax hx (ex_in gp5)) (by omega) (fun x => rfl) (fun x => rfl) (fun x => rfl); rw [wo_len] at q; exact q)
        have know : ∀ {H' : Hp}, Ex Ht H' → Ex (upd G5 p (.lst xs)) H' := fun e => ex_know (gJ.ok.trans e) (e _ _ hp5)
        refine ⟨fun σ' H' => Ex Ht H' ∧ ∃ b, σ' = [some (.int c), some (.int m), some (.int n), some (.ref a3), some (.ref a4), some (.ref p), some (.int (1 + (i : Int))), some (.int (t : Int)), some (.int o), some (.bl b), none] ∧ (b = true → fb = true ∧ (o ∉ parks → (eo js o).length ≠ 2)), ?_, ?_⟩
        · refine st_if (know eF) (crowdE eF) (fun h H6 e6 => ?_) (fun h H6 e6 => ⟨eF.trans e6, fb, rfl, fun z => ⟨z, fun hp => ?_⟩⟩)
          · exact st_asg (P := XV (.bl false)) (Ex.refl H6) ex_c fun v G6 H7 g7 pv => ⟨eF.trans (e6.trans g7.hp), false, by rw [show v = _ from pv]; rfl, fun z => nomatch z⟩
          · have h' : (!decide (o ∈ parks) && decide ((eo js o).length = 2)) = false := h.symm
            rw [decide_eq_false hp] at h'
            exact of_decide_eq_false (by simpa using h')
        rintro σ6 H6 ⟨e6, b6, rfl, hb6⟩
        refine ⟨fun σ' H' => Ex Ht H' ∧ ∃ b, σ' = [some (.int c), some (.int m), some (.int n), some (.ref a3), some (.ref a4), some (.ref p), some (.int (1 + (i : Int))), some (.int (t : Int)), some (.int o), some (.bl b), none] ∧ (b = true → b6 = true ∧ (1 + (i : Int) ∉ parks → (wo js (1 + (i : Int))).length ≠ 2)), ?_, ?_⟩
        · refine st_if (know e6) (crowdW e6) (fun h H7 e7 => ?_) (fun h H7 e7 => ⟨e6.trans e7, b6, rfl, fun z => ⟨z, fun hp => ?_⟩⟩)
          · exact st_asg (P := XV (.bl false)) (Ex.refl H7) ex_c fun v G7 H8 g8 pv => ⟨e6.trans (e7.trans g8.hp), false, by rw [show v = _ from pv]; rfl, fun z => nomatch z⟩
          · have h' : (!decide (1 + (i : Int) ∈ parks) && decide ((wo js (1 + (i : Int))).length = 2)) = false := h.symm
            rw [decide_eq_false hp] at h'
            exact of_decide_eq_false (by simpa using h')
        rintro σ7 H7 ⟨e7, b7, rfl, hb7⟩
        refine ⟨fun σ' H' => Ex Ht H' ∧ ∃ b, σ' = [some (.int c), some (.int m), some (.int n), some (.ref a3), some (.ref a4), some (.ref p), some (.int (1 + (i : Int))), some (.int (t : Int)), some (.int o), some (.bl b), none] ∧ (b = true → b7 = true), ?_, ?_⟩
        · refine st_if (p := fun _ => True) (Ex.refl H7) (et_and (p := fun _ => True) (q := fun _ => True) (et_test (ei_eq (s := fun _ => True) (p := fun _ => True) (q := fun _ => True) (EF.ivp (ex_var (v := .int (t : Int)) rfl) trivial) (EF.ivp ex_c trivial) fun _ _ _ _ => trivial)) (fun _ => et_test (ei_eq (s := fun _ => True) (ei_draw (n := 3) (EF.ivp (ex_var (v := .int c) rfl) trivial) ((ei_k5 (b := 1 + (i : Int)) rfl (by omega) (by omega)).ivw fun z hz => by omega) (EF.iv ex_c) (by omega) (by omega)) (EF.iv ex_c) fun _ _ _ _ => trivial)) (fun _ _ _ => trivial) (fun _ => trivial)) (fun h H8 e8 => ?_) (fun h H8 e8 => ⟨e7.trans e8, b7, rfl, fun z => z⟩)
          exact st_asg (P := XV (.bl false)) (Ex.refl H8) ex_c fun v G8 H9 g9 pv => ⟨e7.trans (e8.trans g9.hp), false, by rw [show v = _ from pv]; rfl, fun z => nomatch z⟩
        rintro σ8 H8 ⟨e8, b8, rfl, hb8⟩
        refine st_if (p := (· = b8)) (Ex.refl H8) (et_B (EF.bl (ex_var (v := .bl b8) rfl) rfl)) (fun z H9 e9 => ?_) (fun _ H9 e9 => ⟨⟨_, _, _, rfl⟩, G5, xs, js, gJ.then (e8.trans e9), gp5, e9 _ _ (e8 _ _ hp5), hx, hj, by omega, trivial⟩)
        have z := z.symm
        have eT : Ex Ht H9 := e8.trans e9
        have C2 := (hb7 (hb8 z))
        have C1 := hb6 C2.1
        have C0 := hA C1.1
        refine st_app (P := fun v G' => Dp K G' v (dP (o, 1 + (i : Int)))) (gJ.ok.trans eT) (eT _ _ hp5) (ex_var (v := .ref p) rfl) (ef_tup (ea_two mo_XV mo_XV (ex_var (v := .int o) rfl) (ex_var (v := .int (1 + (i : Int))) rfl)) (fun vs G' ⟨x, y, ev, _⟩ => by rw [ev]; simp) fun q vs G' _ _ _ ⟨x, y, ev, hx, hy⟩ => dp_mkT upd_same (by rw [ev, hx, hy]; exact .cons (.int _) (.cons (.int _) .nil))) (by rw [dpa_len hx, List.length_map]; omega) fun v Ga Ha ga pv => ?_
        have gpa : Ga p = none := ga.2.2.2 p (ne_none_of (eT _ _ hp5)) gp5
        refine ⟨⟨_, _, _, rfl⟩, Ga, xs ++ [v], js ++ [(o, 1 + (i : Int))], ((gJ.then eT).trans ga).put hp3 gpa, gpa, upd_same, ?_, .snoc hj ⟨C0.1, C0.2.1, hi', C0.2.2, C1.2, C2.2⟩, ?_, trivial⟩
        · rw [List.map_append]
          exact dpa_snoc (dpax hx ga.up) pv
        · rw [List.length_append, List.length_singleton]
          omega
      · obtain ⟨⟨u7, u8, u9, rfl⟩, hJ2⟩ := hw
        exact ⟨⟨_, _, _, _, rfl⟩, hJ2.up (Ex.refl _) (by simp; omega) fun js h => trivial⟩
    obtain ⟨⟨v6, v7, v8, v9, rfl⟩, G5, xs, js, gJ, gp5, hp5, hx, hj, hl, _⟩ := hw
    have eP : Ex (upd G5 p (.lst xs)) H5 := ex_know gJ.ok hp5
    have g35 : Ex G3 (upd G5 p (.lst xs)) := gJ.up.trans (ex_in gp5)
    dsimp only
    refine st_ret (P := TVB K m) eP (ef_tup (R := fun vs G' => ∃ x y z, vs = [x, y, z] ∧ DV K (dI lens) x G' ∧ DV K (dPs js) y G' ∧ DV K (dI parks) z G') (ea_three mo_DV mo_DV mo_DV (EF.dv (ex_var (v := .ref a3) rfl) (dpx d3' g35)) (EF.dv (ex_var (v := .ref p) rfl) (dp_mkL upd_same (dpax hx (ex_in gp5)))) (EF.dv (ex_var (v := .ref a4) rfl) (dpx d4 g35))) (fun vs G' ⟨x, y, z, ev, _⟩ => by rw [ev]; simp) fun q vs G' _ _ hq ⟨x, y, z, ev, hx, hy, hz⟩ => ?_) fun v G6 H6 g6 p6 => k v G6 H6 (((gA.trans gJ).know hG hpH hp5).trans g6) p6
    refine ⟨⟨lens, js, parks⟩, ⟨by show 1 ≤ lens.length; omega, by show lens.length ≤ 200; omega, hlens.2, by show parks.length ≤ 200; omega, fun b hb => ?_, by show js.length ≤ 900; omega, ?_⟩, by show (lens.length : Int) ≤ m; omega, by show js.length ≤ 2 * lens.length; omega, dp_mkT upd_same ?_⟩
    · show 0 ≤ b ∧ b < (lens.length : Int)
      rw [hlens.1]
      exact hparks.2 b hb
    · show JOk (lens.length : Int) parks js
      rw [hlens.1]
      exact hj
    · rw [ev]
      exact .cons (dpx hx (ex_in hq)) (.cons (dpx hy (ex_in hq)) (.cons (dpx hz (ex_in hq)) .nil))
end
end Kx

set_option Elab.async false
set_option linter.all false
set_option maxRecDepth 100000
set_option maxHeartbeats 8000000
namespace Kx
open PySem L2 Lw
open Evl (Ex)
abbrev s_same : Stmt := top 14
theorem sc_same : FnScope ["_law_actual", "_law_wanted_here", "_law_k"] ["_law_actual", "_law_wanted_here"] (defScope s_same) := ⟨rfl, rfl, rfl, by decide +kernel, rfl, by decide +kernel, by decide +kernel⟩
section
variable {P : Program} {w : World} {K : PySem.W.Frag} {mg : Str → Option Value} {base : Heap} {C : Addr} {f : Addr} {fd : FuncData}
theorem ok_same0 (B : Blt mg) (F : Fun K "_law_same" "_law_same" s_same f fd) : FnOk P w K mg base CX0 1 f fd ["_law_actual", "_law_wanted_here"] (spSameB K 0) := by
  have m_len := B.len
  have m_range := B.range
  have m_isinstance := B.isinstance
  have m_int := B.int
  have m_str := B.str
  have m_bool := B.bool
  have m_list := B.list
  have m_tuple := B.tuple
  refine F.ok sc_same (fun vs H Q E h => ?_) (fun cdv A outer s H vs Q E hr h => ?_)
  · obtain ⟨G, x, y, d, _, rfl, _⟩ := h
    rfl
  · obtain ⟨G, x, y, d, hG, rfl, dx, dy, ok, k⟩ := h
    refine ⟨_, (pss_cons (ps_if (pt_cmpR op_isN (pv 1) pe_non (nomark _))
 (pss_one (ps_ret (pe_cmpR op_isN (pv 0) pe_non (nomark _)))) pss_nil)
 (pss_cons (ps_if (pt_cmpR (op_isC (c := true)) (pv 1) pe_bl (nomark _))
 (pss_one (ps_ret (pe_cmpR (op_isC (c := true)) (pv 0) pe_bl (nomark _)))) pss_nil)
 (pss_cons (ps_if (pt_cmpR (op_isC (c := false)) (pv 1) pe_bl (nomark _))
 (pss_one (ps_ret (pe_cmpR (op_isC (c := false)) (pv 0) pe_bl (nomark _)))) pss_nil)
 (pss_cons (ps_if (pt_val (pe_callB call_isi (by rfl) m_isinstance (by decide +kernel) (pa_cons (pv 1) (pa_cons (pe_bltn (v := .ty "int") (u := .type "int") rfl m_int (by decide +kernel) rfl) pa_nil))))
 (pss_one (ps_ret (pe_and (pe_callB call_isi (by rfl) m_isinstance (by decide +kernel) (pa_cons (pv 0) (pa_cons (pe_bltn (v := .ty "int") (u := .type "int") rfl m_int (by decide +kernel) rfl) pa_nil))) (pe_and (pe_not (pe_callB call_isi (by rfl) m_isinstance (by decide +kernel) (pa_cons (pv 0) (pa_cons (pe_bltn (v := .ty "bool") (u := .type "bool") rfl m_bool (by decide +kernel) rfl) pa_nil)))) (pe_one (pe_cmpR op_eq (pv 0) (pv 1) (nomark _))))))) pss_nil)
 (pss_cons (ps_if (pt_val (pe_callB call_isi (by rfl) m_isinstance (by decide +kernel) (pa_cons (pv 1) (pa_cons (pe_bltn (v := .ty "str") (u := .type "str") rfl m_str (by decide +kernel) rfl) pa_nil))))
 (pss_one (ps_ret (pe_and (pe_callB call_isi (by rfl) m_isinstance (by decide +kernel) (pa_cons (pv 0) (pa_cons (pe_bltn (v := .ty "str") (u := .type "str") rfl m_str (by decide +kernel) rfl) pa_nil))) (pe_one (pe_cmpR op_eq (pv 0) (pv 1) (nomark _)))))) pss_nil)
 (pss_cons (ps_if (PW.pt (pw_and (pt_val (pe_callB call_isi (by rfl) m_isinstance (by decide +kernel) (pa_cons (pv 1) (pa_cons (pe_bltn (v := .ty "list") (u := .type "list") rfl m_list (by decide +kernel) rfl) pa_nil)))) (pw_and1 (pt_not (pt_val (pe_callB call_isi (by rfl) m_isinstance (by decide +kernel) (pa_cons (pv 0) (pa_cons (pe_bltn (v := .ty "list") (u := .type "list") rfl m_list (by decide +kernel) rfl) pa_nil))))))))
 (pss_one (ps_ret pe_bl)) pss_nil)
 (pss_cons (ps_if (PW.pt (pw_and (pt_val (pe_callB call_isi (by rfl) m_isinstance (by decide +kernel) (pa_cons (pv 1) (pa_cons (pe_bltn (v := .ty "tuple") (u := .type "tuple") rfl m_tuple (by decide +kernel) rfl) pa_nil)))) (pw_and1 (pt_not (pt_val (pe_callB call_isi (by rfl) m_isinstance (by decide +kernel) (pa_cons (pv 0) (pa_cons (pe_bltn (v := .ty "tuple") (u := .type "tuple") rfl m_tuple (by decide +kernel) rfl) pa_nil))))))))
 (pss_one (ps_ret pe_bl)) pss_nil)
 (pss_cons (ps_if (pt_cmpR op_ne (pe_callB call_len_seq (by rfl) m_len PySem.boot_len (pa_cons (pv 0) pa_nil)) (pe_callB call_len_seq (by rfl) m_len PySem.boot_len (pa_cons (pv 1) pa_nil)) (nomark _))
 (pss_one (ps_ret pe_bl)) pss_nil)
 (pss_cons ps_never
 (pss_one (ps_ret pe_bl))))))))))), ?_⟩
    rcases okb_cases ok with rfl | ⟨bb, rfl⟩ | ⟨ki, hki⟩
    · cases dx
      cases dy
      refine st_if (p := (· = true)) hG (et_test (EF.bl (ex_isN (ex_var (v := .non) rfl) ex_c) (by simp))) (fun _ H1 e1 => ?_) (fun h => nomatch h)
      exact st_ret (P := XV (.bl true)) (hG.trans e1) ((ex_isN (ex_var (v := .non) rfl) ex_c).imp fun v _ _ h => (show v = _ from h).trans (by simp)) fun v G' H2 g p => k v G' H2 ((Gr.same hG e1).trans g) p
    · cases dx
      cases dy
      refine st_if0 hG (et_test (EF.bl (ex_isN (ex_var (v := .bl bb) rfl) ex_c) (by simp))) fun H1 e1 => ?_
      cases bb with
      | true =>
        refine st_if (p := (· = true)) (hG.trans e1) (et_test (EF.bl (ex_isC (c := true) (ex_var (v := .bl true) rfl) ex_c) (by simp))) (fun _ H2 e2 => ?_) (fun h => nomatch h)
        exact st_ret (P := XV (.bl true)) (hG.trans (e1.trans e2)) ((ex_isC (c := true) (ex_var (v := .bl true) rfl) ex_c).imp fun v _ _ h => (show v = _ from h).trans (by simp)) fun v G' H3 g p => k v G' H3 ((Gr.same hG (e1.trans e2)).trans g) p
      | false =>
        refine st_if0 (hG.trans e1) (et_test (EF.bl (ex_isC (c := true) (ex_var (v := .bl false) rfl) ex_c) (by simp))) fun H2 e2 => ?_
        refine st_if (p := (· = true)) (hG.trans (e1.trans e2)) (et_test (EF.bl (ex_isC (c := false) (ex_var (v := .bl false) rfl) ex_c) (by simp))) (fun _ H3 e3 => ?_) (fun h => nomatch h)
        exact st_ret (P := XV (.bl true)) (hG.trans (e1.trans (e2.trans e3))) ((ex_isC (c := false) (ex_var (v := .bl false) rfl) ex_c).imp fun v _ _ h => (show v = _ from h).trans (by simp)) fun v G' H4 g p => k v G' H4 ((Gr.same hG (e1.trans (e2.trans e3))).trans g) p
    have ny := dp_not dy hki
    refine st_if0 hG (et_test (EF.bl (ex_isN (ex_var (v := y) rfl) ex_c) (decide_eq_false ny.1))) fun H1 e1 => ?_
    refine st_if0 (hG.trans e1) (et_test (EF.bl (ex_isC (c := true) (ex_var (v := y) rfl) ex_c) (decide_eq_false (ny.2 true)))) fun H2 e2 => ?_
    refine st_if0 (hG.trans (e1.trans e2)) (et_test (EF.bl (ex_isC (c := false) (ex_var (v := y) rfl) ex_c) (decide_eq_false (ny.2 false)))) fun H3 e3 => ?_
    have hG3 : Ex G H3 := hG.trans (e1.trans (e2.trans e3))
    have eH3 : Ex H H3 := e1.trans (e2.trans e3)
    cases d with
    | int z =>
      cases dx
      cases dy
      refine st_if (p := (· = true)) hG3 (et_B (EF.bl (ex_isi (d := .int z) (k := .i) (r := true) (ex_var (v := .int z) rfl) ex_c (.int z) rfl (by decide +kernel)) rfl)) (fun _ H4 e4 => ?_) (fun h => nomatch h)
      refine st_ret (P := BV (· = true)) (hG3.trans e4) (eb_and (p := (· = true)) (q := (· = true)) (EF.bl (ex_isi (d := .int z) (k := .i) (r := true) (ex_var (v := .int z) rfl) ex_c (.int z) rfl (by decide +kernel)) rfl) (fun _ => eb_and (p := (· = true)) (q := (· = true)) (eb_not (EF.bl (ex_isi (d := .int z) (k := .i) (r := false) (ex_var (v := .int z) rfl) ex_c (.int z) rfl (by decide +kernel)) rfl)) (fun _ => ei_eq (EF.iv (ex_var (v := .int z) rfl)) (EF.iv (ex_var (v := .int z) rfl)) fun a b ha hb => by rw [ha, hb]; simp) (fun _ b hb => hb) (fun h => nomatch h)) (fun _ b hb => hb) (fun h => nomatch h)) (fun v G' H5 g p => k v G' H5 ((Gr.same hG (eH3.trans e4)).trans g) (by obtain ⟨b, eb, hb⟩ := p; rw [eb, hb]; rfl))
    | str z =>
      cases dx
      cases dy
      refine st_if0 hG3 (et_B (EF.bl (ex_isi (d := .str z) (k := .s) (r := false) (ex_var (v := .str z) rfl) ex_c (.str z) rfl (by decide +kernel)) rfl)) fun H4 e4 => ?_
      refine st_if (p := (· = true)) (hG3.trans e4) (et_B (EF.bl (ex_isi (d := .str z) (k := .s) (r := true) (ex_var (v := .str z) rfl) ex_c (.str z) rfl (by decide +kernel)) rfl)) (fun _ H5 e5 => ?_) (fun h => nomatch h)
      refine st_ret (P := BV (· = true)) (hG3.trans (e4.trans e5)) (eb_and (p := (· = true)) (q := (· = true)) (EF.bl (ex_isi (d := .str z) (k := .s) (r := true) (ex_var (v := .str z) rfl) ex_c (.str z) rfl (by decide +kernel)) rfl) (fun _ => ex_eq (ex_var (v := .str z) rfl) (ex_var (v := .str z) rfl) rfl (by simp)) (fun _ b hb => hb) (fun h => nomatch h)) (fun v G' H5 g p => k v G' H5 ((Gr.same hG (eH3.trans (e4.trans e5))).trans g) (by obtain ⟨b, eb, hb⟩ := p; rw [eb, hb]; rfl))
    | list ds => exact ok.elim
    | tuple ds => exact ok.elim
    | none => cases hki
    | bool b => cases hki
    | dict ds => cases hki
theorem ok_sameS (B : Blt mg) (F : Fun K "_law_same" "_law_same" s_same f fd) {n : Nat} (Cs : Cal P w K mg base "_law_same" (n + 1) ["_law_actual", "_law_wanted_here"] (spSameB K n)) : FnOk P w K mg base CX0 (n + 2) f fd ["_law_actual", "_law_wanted_here"] (spSameB K (n + 1)) := by
  obtain ⟨f1, fd1, G_same, m_same, k_same, b_same⟩ := Cs
  have m_len := B.len
  have m_range := B.range
  have m_isinstance := B.isinstance
  have m_int := B.int
  have m_str := B.str
  have m_bool := B.bool
  have m_list := B.list
  have m_tuple := B.tuple
  refine F.ok sc_same (fun vs H Q E h => ?_) (fun cdv A outer s H vs Q E hr h => ?_)
  · obtain ⟨G, x, y, d, _, rfl, _⟩ := h
    rfl
  · obtain ⟨G, x, y, d, hG, rfl, dx, dy, ok, k⟩ := h
    refine ⟨_, (pss_cons (ps_if (pt_cmpR op_isN (pv 1) pe_non (nomark _))
 (pss_one (ps_ret (pe_cmpR op_isN (pv 0) pe_non (nomark _)))) pss_nil)
 (pss_cons (ps_if (pt_cmpR (op_isC (c := true)) (pv 1) pe_bl (nomark _))
 (pss_one (ps_ret (pe_cmpR (op_isC (c := true)) (pv 0) pe_bl (nomark _)))) pss_nil)
 (pss_cons (ps_if (pt_cmpR (op_isC (c := false)) (pv 1) pe_bl (nomark _))
 (pss_one (ps_ret (pe_cmpR (op_isC (c := false)) (pv 0) pe_bl (nomark _)))) pss_nil)
 (pss_cons (ps_if (pt_val (pe_callB call_isi (by rfl) m_isinstance (by decide +kernel) (pa_cons (pv 1) (pa_cons (pe_bltn (v := .ty "int") (u := .type "int") rfl m_int (by decide +kernel) rfl) pa_nil))))
 (pss_one (ps_ret (pe_and (pe_callB call_isi (by rfl) m_isinstance (by decide +kernel) (pa_cons (pv 0) (pa_cons (pe_bltn (v := .ty "int") (u := .type "int") rfl m_int (by decide +kernel) rfl) pa_nil))) (pe_and (pe_not (pe_callB call_isi (by rfl) m_isinstance (by decide +kernel) (pa_cons (pv 0) (pa_cons (pe_bltn (v := .ty "bool") (u := .type "bool") rfl m_bool (by decide +kernel) rfl) pa_nil)))) (pe_one (pe_cmpR op_eq (pv 0) (pv 1) (nomark _))))))) pss_nil)
 (pss_cons (ps_if (pt_val (pe_callB call_isi (by rfl) m_isinstance (by decide +kernel) (pa_cons (pv 1) (pa_cons (pe_bltn (v := .ty "str") (u := .type "str") rfl m_str (by decide +kernel) rfl) pa_nil))))
 (pss_one (ps_ret (pe_and (pe_callB call_isi (by rfl) m_isinstance (by decide +kernel) (pa_cons (pv 0) (pa_cons (pe_bltn (v := .ty "str") (u := .type "str") rfl m_str (by decide +kernel) rfl) pa_nil))) (pe_one (pe_cmpR op_eq (pv 0) (pv 1) (nomark _)))))) pss_nil)
 (pss_cons (ps_if (PW.pt (pw_and (pt_val (pe_callB call_isi (by rfl) m_isinstance (by decide +kernel) (pa_cons (pv 1) (pa_cons (pe_bltn (v := .ty "list") (u := .type "list") rfl m_list (by decide +kernel) rfl) pa_nil)))) (pw_and1 (pt_not (pt_val (pe_callB call_isi (by rfl) m_isinstance (by decide +kernel) (pa_cons (pv 0) (pa_cons (pe_bltn (v := .ty "list") (u := .type "list") rfl m_list (by decide +kernel) rfl) pa_nil))))))))
 (pss_one (ps_ret pe_bl)) pss_nil)
 (pss_cons (ps_if (PW.pt (pw_and (pt_val (pe_callB call_isi (by rfl) m_isinstance (by decide +kernel) (pa_cons (pv 1) (pa_cons (pe_bltn (v := .ty "tuple") (u := .type "tuple") rfl m_tuple (by decide +kernel) rfl) pa_nil)))) (pw_and1 (pt_not (pt_val (pe_callB call_isi (by rfl) m_isinstance (by decide +kernel) (pa_cons (pv 0) (pa_cons (pe_bltn (v := .ty "tuple") (u := .type "tuple") rfl m_tuple (by decide +kernel) rfl) pa_nil))))))))
 (pss_one (ps_ret pe_bl)) pss_nil)
 (pss_cons (ps_if (pt_cmpR op_ne (pe_callB call_len_seq (by rfl) m_len PySem.boot_len (pa_cons (pv 0) pa_nil)) (pe_callB call_len_seq (by rfl) m_len PySem.boot_len (pa_cons (pv 1) pa_nil)) (nomark _))
 (pss_one (ps_ret pe_bl)) pss_nil)
 (pss_cons (ps_for PassesOwn.never rfl (pi_range1 rfl m_range (pa_cons (pe_callB call_len_seq (by rfl) m_len PySem.boot_len (pa_cons (pv 1) pa_nil)) pa_nil)) (pg_name (i := 2) sc_same.nd rfl (by first | exact Or.inl rfl | exact Or.inr rfl))
 (pss_one (ps_if (pt_not (pt_val (pe_call G_same (hr.mono (by omega)) rfl m_same k_same b_same .nil pass0 (pa_cons (pe_ix ix_seq (pv 0) (pv 2) (fun _ _ => rfl)) (pa_cons (pe_ix ix_seq (pv 1) (pv 2) (fun _ _ => rfl)) pa_nil)))))
 (pss_one (ps_ret pe_bl)) pss_nil)))
 (pss_one (ps_ret pe_bl))))))))))), ?_⟩
    rcases okb_cases ok with rfl | ⟨bb, rfl⟩ | ⟨ki, hki⟩
    · cases dx
      cases dy
      refine st_if (p := (· = true)) hG (et_test (EF.bl (ex_isN (ex_var (v := .non) rfl) ex_c) (by simp))) (fun _ H1 e1 => ?_) (fun h => nomatch h)
      exact st_ret (P := XV (.bl true)) (hG.trans e1) ((ex_isN (ex_var (v := .non) rfl) ex_c).imp fun v _ _ h => (show v = _ from h).trans (by simp)) fun v G' H2 g p => k v G' H2 ((Gr.same hG e1).trans g) p
    · cases dx
      cases dy
      refine st_if0 hG (et_test (EF.bl (ex_isN (ex_var (v := .bl bb) rfl) ex_c) (by simp))) fun H1 e1 => ?_
      cases bb with
      | true =>
        refine st_if (p := (· = true)) (hG.trans e1) (et_test (EF.bl (ex_isC (c := true) (ex_var (v := .bl true) rfl) ex_c) (by simp))) (fun _ H2 e2 => ?_) (fun h => nomatch h)
        exact st_ret (P := XV (.bl true)) (hG.trans (e1.trans e2)) ((ex_isC (c := true) (ex_var (v := .bl true) rfl) ex_c).imp fun v _ _ h => (show v = _ from h).trans (by simp)) fun v G' H3 g p => k v G' H3 ((Gr.same hG (e1.trans e2)).trans g) p
      | false =>
        refine st_if0 (hG.trans e1) (et_test (EF.bl (ex_isC (c := true) (ex_var (v := .bl false) rfl) ex_c) (by simp))) fun H2 e2 => ?_
        refine st_if (p := (· = true)) (hG.trans (e1.trans e2)) (et_test (EF.bl (ex_isC (c := false) (ex_var (v := .bl false) rfl) ex_c) (by simp))) (fun _ H3 e3 => ?_) (fun h => nomatch h)
        exact st_ret (P := XV (.bl true)) (hG.trans (e1.trans (e2.trans e3))) ((ex_isC (c := false) (ex_var (v := .bl false) rfl) ex_c).imp fun v _ _ h => (show v = _ from h).trans (by simp)) fun v G' H4 g p => k v G' H4 ((Gr.same hG (e1.trans (e2.trans e3))).trans g) p
    have ny := dp_not dy hki
    refine st_if0 hG (et_test (EF.bl (ex_isN (ex_var (v := y) rfl) ex_c) (decide_eq_false ny.1))) fun H1 e1 => ?_
    refine st_if0 (hG.trans e1) (et_test (EF.bl (ex_isC (c := true) (ex_var (v := y) rfl) ex_c) (decide_eq_false (ny.2 true)))) fun H2 e2 => ?_
    refine st_if0 (hG.trans (e1.trans e2)) (et_test (EF.bl (ex_isC (c := false) (ex_var (v := y) rfl) ex_c) (decide_eq_false (ny.2 false)))) fun H3 e3 => ?_
    have hG3 : Ex G H3 := hG.trans (e1.trans (e2.trans e3))
    have eH3 : Ex H H3 := e1.trans (e2.trans e3)
    cases d with
    | int z =>
      cases dx
      cases dy
      refine st_if (p := (· = true)) hG3 (et_B (EF.bl (ex_isi (d := .int z) (k := .i) (r := true) (ex_var (v := .int z) rfl) ex_c (.int z) rfl (by decide +kernel)) rfl)) (fun _ H4 e4 => ?_) (fun h => nomatch h)
      refine st_ret (P := BV (· = true)) (hG3.trans e4) (eb_and (p := (· = true)) (q := (· = true)) (EF.bl (ex_isi (d := .int z) (k := .i) (r := true) (ex_var (v := .int z) rfl) ex_c (.int z) rfl (by decide +kernel)) rfl) (fun _ => eb_and (p := (· = true)) (q := (· = true)) (eb_not (EF.bl (ex_isi (d := .int z) (k := .i) (r := false) (ex_var (v := .int z) rfl) ex_c (.int z) rfl (by decide +kernel)) rfl)) (fun _ => ei_eq (EF.iv (ex_var (v := .int z) rfl)) (EF.iv (ex_var (v := .int z) rfl)) fun a b ha hb => by rw [ha, hb]; simp) (fun _ b hb => hb) (fun h => nomatch h)) (fun _ b hb => hb) (fun h => nomatch h)) (fun v G' H5 g p => k v G' H5 ((Gr.same hG (eH3.trans e4)).trans g) (by obtain ⟨b, eb, hb⟩ := p; rw [eb, hb]; rfl))
    | str z =>
      cases dx
      cases dy
      refine st_if0 hG3 (et_B (EF.bl (ex_isi (d := .str z) (k := .s) (r := false) (ex_var (v := .str z) rfl) ex_c (.str z) rfl (by decide +kernel)) rfl)) fun H4 e4 => ?_
      refine st_if (p := (· = true)) (hG3.trans e4) (et_B (EF.bl (ex_isi (d := .str z) (k := .s) (r := true) (ex_var (v := .str z) rfl) ex_c (.str z) rfl (by decide +kernel)) rfl)) (fun _ H5 e5 => ?_) (fun h => nomatch h)
      refine st_ret (P := BV (· = true)) (hG3.trans (e4.trans e5)) (eb_and (p := (· = true)) (q := (· = true)) (EF.bl (ex_isi (d := .str z) (k := .s) (r := true) (ex_var (v := .str z) rfl) ex_c (.str z) rfl (by decide +kernel)) rfl) (fun _ => ex_eq (ex_var (v := .str z) rfl) (ex_var (v := .str z) rfl) rfl (by simp)) (fun _ b hb => hb) (fun h => nomatch h)) (fun v G' H5 g p => k v G' H5 ((Gr.same hG (eH3.trans (e4.trans e5))).trans g) (by obtain ⟨b, eb, hb⟩ := p; rw [eb, hb]; rfl))
    | list ds =>
      have sx : ∃ xs, SqA K G x xs ∧ DpAll K G xs ds := by
        obtain ⟨a, xs, rfl, hs, hd⟩ := dp_lst dx
        exact ⟨xs, ⟨a, rfl, .inl hs⟩, hd⟩
      have sy : ∃ xs, SqA K G y xs ∧ DpAll K G xs ds := by
        obtain ⟨a, xs, rfl, hs, hd⟩ := dp_lst dy
        exact ⟨xs, ⟨a, rfl, .inl hs⟩, hd⟩
      obtain ⟨xs, sx, hxs⟩ := sx
      obtain ⟨ys, sy, hys⟩ := sy
      obtain ⟨few, okd⟩ := ok
      refine st_if0 hG3 (et_B (EF.bl (ex_isi (d := .list ds) (k := .l) (r := false) (ex_var (v := y) rfl) ex_c dy rfl (by decide +kernel)) rfl)) fun H4 e4 => ?_
      refine st_if0 (hG3.trans e4) (et_B (EF.bl (ex_isi (d := .list ds) (k := .l) (r := false) (ex_var (v := y) rfl) ex_c dy rfl (by decide +kernel)) rfl)) fun H5 e5 => ?_
      have hG5 : Ex G H5 := hG3.trans (e4.trans e5)
      refine st_if0 hG5 (et_and (p := (· = true)) (q := (· = false)) (s := (· = false)) (et_B (EF.bl (ex_isi (d := .list ds) (k := .l) (r := true) (ex_var (v := y) rfl) ex_c dy rfl (by decide +kernel)) rfl)) (fun _ => et_not (et_B (EF.bl (ex_isi (d := .list ds) (k := .l) (r := true) (ex_var (v := x) rfl) ex_c dx rfl (by decide +kernel)) rfl))) (fun _ b hb => hb) (fun _ => rfl)) fun H6 e6 => ?_
      refine st_if0 (hG5.trans e6) (et_and (p := (· = false)) (q := fun _ => True) (s := (· = false)) (et_B (EF.bl (ex_isi (d := .list ds) (k := .l) (r := false) (ex_var (v := y) rfl) ex_c dy rfl (by decide +kernel)) rfl)) (fun h => nomatch h) (fun h => nomatch h) (fun _ => rfl)) fun H7 e7 => ?_
      have hG7 : Ex G H7 := hG5.trans (e6.trans e7)
      have eH7 : Ex H H7 := eH3.trans (e4.trans (e5.trans (e6.trans e7)))
      refine st_if0 hG7 (et_test (ei_ne (EF.iv (ex_lenA (ex_var (v := x) rfl) sx)) (EF.iv (ex_lenA (ex_var (v := y) rfl) sy)) fun a b ha hb => ?_)) fun H8 e8 => ?_
      · rw [ha, hb, dpa_len hxs, dpa_len hys]
        simp
      refine st_forR1 (n := (ds.length : Int)) (hG7.trans e8) ((ea_one (ex_lenA (ex_var (v := y) rfl) sy)).imp fun vs G' _ ⟨x, ev, hx⟩ => by rw [ev, show x = _ from hx, dpa_len hys]) (by omega) (by omega) (fun i σ' H' => Ex H H' ∧ ∃ v, σ' = [some x, some y, v]) (fun H' e => ⟨eH7.trans (e8.trans e), _, rfl⟩) (fun i σ' H' hi hw => ?_) (fun σ' H9 hw => ?_)
      · obtain ⟨e, v, rfl⟩ := hw
        have hi' : i < ds.length := by omega
        obtain ⟨u, hu, du⟩ := dpa_get' hxs (List.getElem?_eq_getElem hi')
        obtain ⟨v, hv, dv⟩ := dpa_get' hys (List.getElem?_eq_getElem hi')
        exact st_if0 (hG.trans e) (et_not (et_B (EF.bl (ex_call2 (P := XV (.bl true)) (ex_ixA (ex_var (v := x) rfl) (ex_var (v := .int (i : Int)) rfl) sx hu) (ex_ixA (ex_var (v := y) rfl) (ex_var (v := .int (i : Int)) rfl) sy hv) fun G' e' => sa_sameB (dpx du e') (dpx dv e') (okd _ (List.getElem_mem hi'))) rfl))) fun H2 e2 => ⟨e.trans e2, _, rfl⟩
      · obtain ⟨e, v, rfl⟩ := hw
        dsimp only
        refine st_ret (P := XV (.bl true)) (hG.trans e) ex_c fun v G' H2 g p => ?_
        exact k v G' H2 ((Gr.same hG e).trans g) p
    | tuple ds =>
      have sx : ∃ xs, SqA K G x xs ∧ DpAll K G xs ds := by
        obtain ⟨a, xs, rfl, hs, hd⟩ := dp_tup dx
        exact ⟨xs, ⟨a, rfl, .inr hs⟩, hd⟩
      have sy : ∃ xs, SqA K G y xs ∧ DpAll K G xs ds := by
        obtain ⟨a, xs, rfl, hs, hd⟩ := dp_tup dy
        exact ⟨xs, ⟨a, rfl, .inr hs⟩, hd⟩
      obtain ⟨xs, sx, hxs⟩ := sx
      obtain ⟨ys, sy, hys⟩ := sy
      obtain ⟨few, okd⟩ := ok
      refine st_if0 hG3 (et_B (EF.bl (ex_isi (d := .tuple ds) (k := .t) (r := false) (ex_var (v := y) rfl) ex_c dy rfl (by decide +kernel)) rfl)) fun H4 e4 => ?_
      refine st_if0 (hG3.trans e4) (et_B (EF.bl (ex_isi (d := .tuple ds) (k := .t) (r := false) (ex_var (v := y) rfl) ex_c dy rfl (by decide +kernel)) rfl)) fun H5 e5 => ?_
      have hG5 : Ex G H5 := hG3.trans (e4.trans e5)
      refine st_if0 hG5 (et_and (p := (· = false)) (q := fun _ => True) (s := (· = false)) (et_B (EF.bl (ex_isi (d := .tuple ds) (k := .t) (r := false) (ex_var (v := y) rfl) ex_c dy rfl (by decide +kernel)) rfl)) (fun h => nomatch h) (fun h => nomatch h) (fun _ => rfl)) fun H6 e6 => ?_
      refine st_if0 (hG5.trans e6) (et_and (p := (· = true)) (q := (· = false)) (s := (· = false)) (et_B (EF.bl (ex_isi (d := .tuple ds) (k := .t) (r := true) (ex_var (v := y) rfl) ex_c dy rfl (by decide +kernel)) rfl)) (fun _ => et_not (et_B (EF.bl (ex_isi (d := .tuple ds) (k := .t) (r := true) (ex_var (v := x) rfl) ex_c dx rfl (by decide +kernel)) rfl))) (fun _ b hb => hb) (fun _ => rfl)) fun H7 e7 => ?_
      have hG7 : Ex G H7 := hG5.trans (e6.trans e7)
      have eH7 : Ex H H7 := eH3.trans (e4.trans (e5.trans (e6.trans e7)))
      refine st_if0 hG7 (et_test (ei_ne (EF.iv (ex_lenA (ex_var (v := x) rfl) sx)) (EF.iv (ex_lenA (ex_var (v := y) rfl) sy)) fun a b ha hb => ?_)) fun H8 e8 => ?_
      · rw [ha, hb, dpa_len hxs, dpa_len hys]
        simp
      refine st_forR1 (n := (ds.length : Int)) (hG7.trans e8) ((ea_one (ex_lenA (ex_var (v := y) rfl) sy)).imp fun vs G' _ ⟨x, ev, hx⟩ => by rw [ev, show x = _ from hx, dpa_len hys]) (by omega) (by omega) (fun i σ' H' => Ex H H' ∧ ∃ v, σ' = [some x, some y, v]) (fun H' e => ⟨eH7.trans (e8.trans e), _, rfl⟩) (fun i σ' H' hi hw => ?_) (fun σ' H9 hw => ?_)
      · obtain ⟨e, v, rfl⟩ := hw
        have hi' : i < ds.length := by omega
        obtain ⟨u, hu, du⟩ := dpa_get' hxs (List.getElem?_eq_getElem hi')
        obtain ⟨v, hv, dv⟩ := dpa_get' hys (List.getElem?_eq_getElem hi')
        exact st_if0 (hG.trans e) (et_not (et_B (EF.bl (ex_call2 (P := XV (.bl true)) (ex_ixA (ex_var (v := x) rfl) (ex_var (v := .int (i : Int)) rfl) sx hu) (ex_ixA (ex_var (v := y) rfl) (ex_var (v := .int (i : Int)) rfl) sy hv) fun G' e' => sa_sameB (dpx du e') (dpx dv e') (okd _ (List.getElem_mem hi'))) rfl))) fun H2 e2 => ⟨e.trans e2, _, rfl⟩
      · obtain ⟨e, v, rfl⟩ := hw
        dsimp only
        refine st_ret (P := XV (.bl true)) (hG.trans e) ex_c fun v G' H2 g p => ?_
        exact k v G' H2 ((Gr.same hG e).trans g) p
    | none => cases hki
    | bool b => cases hki
    | dict ds => cases hki
end
end Kx

set_option Elab.async false
set_option linter.all false
set_option maxRecDepth 100000
set_option maxHeartbeats 8000000
namespace Kx
open PySem L2 Lw
open Evl (Ex)
abbrev s_wanted : Stmt := top 20
theorem sc_wanted : FnScope ["_law_track_here", "_law_points", "_law_ends", "_law_block", "_law_east", "_law_west", "_law_pair"] ["_law_track_here"] (defScope s_wanted) := ⟨rfl, rfl, rfl, by decide +kernel, rfl, by decide +kernel, by decide +kernel⟩
abbrev s_fits : Stmt := top 21
theorem sc_fits : FnScope ["_law_layout", "_law_track_here", "_law_size", "_law_parks", "_law_block"] ["_law_layout", "_law_track_here"] (defScope s_fits) := ⟨rfl, rfl, rfl, by decide +kernel, rfl, by decide +kernel, by decide +kernel⟩
section
variable {P : Program} {w : World} {K : PySem.W.Frag} {mg : Str → Option Value} {base : Heap} {C CN : Addr} {f : Addr} {fd : FuncData}
theorem ef_sortS {σ : L2.St} {G : Hp} {ta : TE} {l0 : List Int} (ha : EF ta σ G fun v G' => ∃ p : Addr, v = .ref p ∧ G' p = some (.lst (l0.map V.int))) : EF (tCB (rSortedI K) (tCons ta tNil)) σ G (PLs K l0) := fun H e Q q => ha H e _ fun x G1 H1 g1 ⟨p, ev, hp⟩ =>
  ⟨p, l0, by rw [ev], Evl.sq_of (g1.ok _ _ hp), fun ns' p2 h1 h2 h3 => q _ _ _ (g1.trans (.new g1.ok h3)) ⟨ns', h1, h2, dp_mkL upd_same (dpa_ints _)⟩⟩
theorem ptsAt_two (parks : List Int) (js : List (Int × Int)) (b : Int) : ptsAt parks js b [true, false] = (if isPt parks js b true = true then [dPt b true] else []) ++ (if isPt parks js b false = true then [dPt b false] else []) := by
  unfold ptsAt
  by_cases h1 : isPt parks js b true = true <;> by_cases h2 : isPt parks js b false = true <;> simp [h1, h2]
theorem ef_srtI {σ : L2.St} {G : Hp} {ta : TE} {l0 : List Int} (ha : EF ta σ G fun v G' => ∃ p : Addr, v = .ref p ∧ G' p = some (.lst (l0.map V.int))) : EF (tCB (rSortedI K) (tCons ta tNil)) σ G (DV K (dI (srtI l0))) := (ef_sortS ha).imp fun v _ _ ⟨l, p, s, d⟩ => by rw [srtI_of p s] at d; exact d
/-- the ends of a block, out of the joints -/
theorem ef_endL {σ : L2.St} {G : Hp} {tl tb : TE} {a : Addr} {xs : List V} {js : List (Int × Int)} {b : Int} {j i0 i1 : Nat} {sel oth : Int × Int → Int} {eof : List (Int × Int) → Int → List Int} (h : EF tl σ G (XV (.ref a))) (hs : SqL K G a xs) (hx : DpAll K G xs (js.map dP)) (hl : js.length ≤ 900)
    (h1 : ∀ p : Int × Int, ([PyData.int p.1, .int p.2])[i0]? = some (.int (sel p))) (h2 : ∀ p : Int × Int, ([PyData.int p.1, .int p.2])[i1]? = some (.int (oth p))) (h3 : ∀ js p, sel p = b → eof (js ++ [p]) b = eof js b ++ [oth p]) (h4 : ∀ js p, sel p ≠ b → eof (js ++ [p]) b = eof js b) (h5 : eof [] b = [])
    (hw : ∀ x, wipe ((wipe σ [j]).set j (some x)) [j] = wipe σ [j]) (hj : ∀ x, ((wipe σ [j]).set j (some x))[j]? = some (some x)) (hb : ∀ x G', EF tb ((wipe σ [j]).set j (some x)) G' (XV (.int b))) :
    EF (tLc (iList K tl) (gName j) (tTest (tOp rEq (tOp (rIxT K) (tVar j) (tC (.int (i0 : Int)))) tb)) (tOp (rIxT K) (tVar j) (tC (.int (i1 : Int)))) [j]) σ G fun v G' => ∃ p : Addr, v = .ref p ∧ G' p = some (.lst ((eof js b).map V.int)) := by
  have hxl : xs.length = js.length := by rw [dpa_len hx, List.length_map]
  refine ef_lcL (xs := xs) (fun i acc G' => acc = (eof (js.take i) b).map V.int) (h.imp fun v G' e p => ⟨a, p, Evl.ex_l e hs⟩) (by omega) hw (fun G' _ => by rw [List.take_zero, h5]; rfl) (fun i x acc G2 e2 hi hI => ?_) (fun p acc G2 _ _ _ _ hI => ⟨p, rfl, by rw [upd_same, hI, hxl, List.take_length]⟩)
  obtain ⟨d, hd1, dy⟩ := dpa_get hx hi
  rw [List.getElem?_map] at hd1
  obtain ⟨o, ho, rfl⟩ := Option.map_eq_some_iff.mp hd1
  refine ec_if (p := (· = decide (sel o = b))) (et_eqI (ei_pair (i := i0) (ex_var (hj _)) (dpx dy e2) ex_c (h1 o)) (hb _ _)) (fun hb => ?_) (fun hb => ?_)
  · refine (ei_pair (i := i1) (ex_var (hj _)) (dpx dy e2) ex_c (h2 o)).imp fun v _ _ p => ?_
    rw [show v = _ from p, hI, take_next ho, h3 _ _ (of_decide_eq_true hb.symm), List.map_append]
    rfl
  · rw [take_next ho, h4 _ _ (of_decide_eq_false hb.symm)]
    exact hI
def endsD (js : List (Int × Int)) : Nat → List PyData
  | 0 => []
  | n + 1 => endsD js n ++ [dI (srtI (eo js (n : Int))), dI (srtI (wo js (n : Int))), dI (srtI (eo js (n : Int))), dI (srtI (wo js (n : Int)))]
theorem endsD_len (js : List (Int × Int)) : ∀ n, (endsD js n).length = 4 * n
  | 0 => rfl
  | n + 1 => by unfold endsD; rw [List.length_append, endsD_len js n]; simp; omega
theorem lists_ends (parks : List Int) (js : List (Int × Int)) (pt : List PyData) : ∀ n, listsD parks js pt n = [.list ((srtP js).map dP), .list pt] ++ endsD js n
  | 0 => rfl
  | n + 1 => by unfold listsD endsD; rw [lists_ends parks js pt n]; simp
def spWnt (K : PySem.W.Frag) : Sp := fun vs H Q _ => ∃ (G : Hp) (x : V) (t : Trk), Ex G H ∧ vs = [x] ∧ Dp K G x (dT t) ∧ t.lens.length ≤ 200 ∧ t.joints.length ≤ 900 ∧ Ret G H (DV K (.list (listsD t.parks t.joints (ptsD t.parks t.joints t.lens.length) t.lens.length))) Q
theorem ok_wnt (B : Blt mg) (F : Fun K "_law_wanted" "_law_wanted" s_wanted f fd) : FnOk P w K mg base CX0 1 f fd ["_law_track_here"] (spWnt K) := by
  have m_len := B.len
  have m_range := B.range
  have m_sorted := B.sorted
  refine F.ok sc_wanted (fun vs H Q E h => ?_) (fun cdv A outer s H vs Q E hr h => ?_)
  · obtain ⟨G, x, t, _, rfl, _⟩ := h
    rfl
  · obtain ⟨G, x, t, hG, rfl, dx, hn, hj, k⟩ := h
    refine ⟨_, (pss_cons (ps_set (i := 1) sc_wanted.nd rfl (by first | exact Or.inl rfl | exact Or.inr rfl) (pe_lst pa_nil))
 (pss_cons (ps_set (i := 2) sc_wanted.nd rfl (by first | exact Or.inl rfl | exact Or.inr rfl) (pe_lst pa_nil))
 (pss_cons (ps_for PassesOwn.never rfl (pi_range1 rfl m_range (pa_cons (pe_callB call_len_seq (by rfl) m_len PySem.boot_len (pa_cons (pe_ix ix_tup (pv 0) pe_int (fun _ _ => rfl)) pa_nil)) pa_nil)) (pg_name (i := 3) sc_wanted.nd rfl (by first | exact Or.inl rfl | exact Or.inr rfl))
 (pss_cons (ps_set (i := 4) sc_wanted.nd rfl (by first | exact Or.inl rfl | exact Or.inr rfl) (pe_callB cr_sortedI (by rfl) m_sorted (by decide +kernel) (pa_cons (pe_lc (own := [("_law_pair", 6)]) (g := gName 6) (tt := tTest (tOp rEq (tOp (rIxT K) (tVar 6) (tC (.int 0))) (tVar 3))) (te := (tOp (rIxT K) (tVar 6) (tC (.int 1)))) rfl sc_wanted.nd (pi_list (pe_ix ix_tup (pv 0) pe_int (fun _ _ => rfl))) (blkOk_by (N := ["_law_track_here", "_law_points", "_law_ends", "_law_block", "_law_east", "_law_west", "_law_pair"]) (sc := defScope s_wanted) (by decide +kernel)) (fun _ _ _ _ _ => pg_name (i := 6) sc_wanted.nd rfl (Or.inl rfl)) (fun _ _ _ _ _ => pts_one (pt_cmpR op_eq (pe_ix ix_tup (pv 6) pe_int (fun _ _ => rfl)) (pv 3) (nomark _))) (fun _ _ _ _ _ => (pe_ix ix_tup (pv 6) pe_int (fun _ _ => rfl)))) pa_nil)))
 (pss_cons (ps_set (i := 5) sc_wanted.nd rfl (by first | exact Or.inl rfl | exact Or.inr rfl) (pe_callB cr_sortedI (by rfl) m_sorted (by decide +kernel) (pa_cons (pe_lc (own := [("_law_pair", 6)]) (g := gName 6) (tt := tTest (tOp rEq (tOp (rIxT K) (tVar 6) (tC (.int 1))) (tVar 3))) (te := (tOp (rIxT K) (tVar 6) (tC (.int 0)))) rfl sc_wanted.nd (pi_list (pe_ix ix_tup (pv 0) pe_int (fun _ _ => rfl))) (blkOk_by (N := ["_law_track_here", "_law_points", "_law_ends", "_law_block", "_law_east", "_law_west", "_law_pair"]) (sc := defScope s_wanted) (by decide +kernel)) (fun _ _ _ _ _ => pg_name (i := 6) sc_wanted.nd rfl (Or.inl rfl)) (fun _ _ _ _ _ => pts_one (pt_cmpR op_eq (pe_ix ix_tup (pv 6) pe_int (fun _ _ => rfl)) (pv 3) (nomark _))) (fun _ _ _ _ _ => (pe_ix ix_tup (pv 6) pe_int (fun _ _ => rfl)))) pa_nil)))
 (pss_cons (ps_set (i := 2) sc_wanted.nd rfl (by first | exact Or.inl rfl | exact Or.inr rfl) (pe_op op_cat (pv 2) (pe_lst (pa_cons (pv 4) (pa_cons (pv 5) (pa_cons (pv 4) (pa_cons (pv 5) pa_nil)))))))
 (Evl.pss_cut (ps_if (PW.pt (pw_and (pt_cmpR (op_notInD (hu65 hr)) (pv 3) (pe_ix ix_tup (pv 0) pe_int (fun _ _ => rfl)) (by rfl)) (pw_and1 (pt_cmpR op_eq (pe_callB call_len_seq (by rfl) m_len PySem.boot_len (pa_cons (pv 4) pa_nil)) pe_int (nomark _)))))
 (pss_one (ps_expr (pe_bm PySem.F.plainAttrs_list PySem.F.slot_list_append PySem.F.type_list_append mt_append (pv 1) (pa_cons (pe_tup (pa_cons (pv 3) (pa_cons pe_str pa_nil))) pa_nil)))) pss_nil)
 (pss_one (ps_if (PW.pt (pw_and (pt_cmpR (op_notInD (hu65 hr)) (pv 3) (pe_ix ix_tup (pv 0) pe_int (fun _ _ => rfl)) (by rfl)) (pw_and1 (pt_cmpR op_eq (pe_callB call_len_seq (by rfl) m_len PySem.boot_len (pa_cons (pv 5) pa_nil)) pe_int (nomark _)))))
 (pss_one (ps_expr (pe_bm PySem.F.plainAttrs_list PySem.F.slot_list_append PySem.F.type_list_append mt_append (pv 1) (pa_cons (pe_tup (pa_cons (pv 3) (pa_cons pe_str pa_nil))) pa_nil)))) pss_nil)))))))
 (pss_one (ps_ret (pe_op op_cat (pe_lst (pa_cons (pe_callB cr_sortPD (by rfl) m_sorted (by decide +kernel) (pa_cons (pe_ix ix_tup (pv 0) pe_int (fun _ _ => rfl)) pa_nil)) (pa_cons (pv 1) pa_nil))) (pv 2))))))), ?_⟩
    obtain ⟨aj, xj, rj, sj, dj⟩ := trk_j dx
    refine st_asg (P := fun v G' => ∃ q, v = .ref q ∧ G q = none ∧ G' q = some (.lst [])) hG (ef_lst ea_nil (fun vs _ h => by rw [h]; simp) fun q vs G' _ h h' e => ⟨q, rfl, h, by rw [e]; exact upd_same⟩) fun v1 G1 H1 g1 p1 => ?_
    obtain ⟨q, rfl, gq, hq1⟩ := p1
    have fq : H q = none := g1.fresh gq hq1
    have hq1' := g1.ok _ _ hq1
    refine st_asg (P := LS K []) (hG.trans g1.hp) (el_lst (G := G) ea_nil (by simp) fun vs G' _ h => by rw [h]; exact .nil) fun v2 G2 H2 g2 p2 => ?_
    have g02 : Gr G G2 H H2 := (Gr.same hG g1.hp).trans g2
    have q2n : G2 q = none := g2.2.2.2 q (ne_none_of hq1') gq
    refine st_forR1 (n := (t.lens.length : Int)) g2.ok ((ea_one (ex_lenD (ed_t0 (v := x) rfl (dpx dx g2.up)))).imp fun vs G' _ ⟨x, ev, hx⟩ => by rw [ev, show x = _ from hx, List.length_map]) (by omega) (by omega)
      (fun i σ' H' => ∃ v2 v3 v4 v5 G' vs, σ' = [some x, some (.ref q), some v2, v3, v4, v5, none] ∧ Gr G G' H H' ∧ G' q = none ∧ H' q = some (.lst vs) ∧ DpAll K G' vs (ptsD t.parks t.joints i) ∧ LS K (endsD t.joints i) v2 G')
      (fun H' e => ⟨_, _, _, _, G2, [], rfl, g02.then e, q2n, e _ _ (g2.hp _ _ hq1'), .nil, p2⟩) (fun i σ' H' hi hw => ?_) (fun σ' H' hw => ?_)
    · obtain ⟨v2, v3, v4, v5, G3, vs, rfl, g3, q3, h3, d3, l3⟩ := hw
      have dx3 := dpx dx g3.up
      refine st_asg (P := DV K (dI (srtI (eo t.joints (i : Int))))) g3.ok (ef_srtI (ef_endL (a := aj) (xs := xj) (js := t.joints) (b := (i : Int)) (i0 := 0) (i1 := 1) (sel := fun p => p.1) (oth := fun p => p.2) (eof := eo) (rj g3.up rfl) (Evl.ex_l g3.up sj) (dpax dj g3.up) hj (fun p => rfl) (fun p => rfl) (fun js p e => by rw [← e]; exact eo_snoc_same js p.1 p.2) (fun js p e => eo_snoc_ne js (w := p.1) (e := p.2) e) rfl (fun z => rfl) (fun z => rfl) (fun z G' => ex_var rfl))) fun v4' G4 H4 g4 p4 => ?_
      refine st_asg (P := DV K (dI (srtI (wo t.joints (i : Int))))) g4.ok (ef_srtI (ef_endL (a := aj) (xs := xj) (js := t.joints) (b := (i : Int)) (i0 := 1) (i1 := 0) (sel := fun p => p.2) (oth := fun p => p.1) (eof := wo) (rj (g3.up.trans g4.up) rfl) (Evl.ex_l (g3.up.trans g4.up) sj) (dpax dj (g3.up.trans g4.up)) hj (fun p => rfl) (fun p => rfl) (fun js p e => by rw [← e]; exact wo_snoc_same js p.1 p.2) (fun js p e => wo_snoc_ne js (w := p.1) (e := p.2) e) rfl (fun z => rfl) (fun z => rfl) (fun z G' => ex_var rfl))) fun v5' G5 H5 g5 p5 => ?_
      have e35 : Ex G3 G5 := g4.up.trans g5.up
      have p45 : Dp K G5 v4' (dI (srtI (eo t.joints (i : Int)))) := dpx p4 g5.up
      have el := endsD_len t.joints i
      refine st_asg (P := LS K (endsD t.joints (i + 1))) g5.ok (el_cat (ef_var (v := v2) rfl (mo_LS _ _ _ e35 l3)) (el_lst (ea_four mo_DV mo_DV mo_DV mo_DV (ef_var (v := v4') rfl p45) (ef_var (v := v5') rfl p5) (ef_var (v := v4') rfl p45) (ef_var (v := v5') rfl p5)) (by simp) fun vs G' _ ⟨x, y, z, u, ev, hx, hy, hz, hu⟩ => by rw [ev]; exact .cons hx (.cons hy (.cons hz (.cons hu .nil)))) (by rw [el]; simp; omega)) fun v2' G6 H6 g6 p6 => ?_
      have g36 := (g3.trans g4).trans (g5.trans g6)
      have e36 : Ex G3 G6 := e35.trans g6.up
      have q6 : G6 q = none := ((g4.trans g5).trans g6).2.2.2 q (ne_none_of h3) q3
      have h6 := ((g4.trans g5).trans g6).hp _ _ h3
      have d6 := dpax d3 e36
      have v46 : Dp K G6 v4' (dI (srtI (eo t.joints (i : Int)))) := dpx p45 g6.up
      have v56 : Dp K G6 v5' (dI (srtI (wo t.joints (i : Int)))) := dpx p5 g6.up
      have pl := ptsD_len t.parks t.joints i
      have two := ptsAt_two t.parks t.joints (i : Int)
      have test : ∀ {c : Bool} {k : Nat} {v : V} {G7 : Hp} {σ : L2.St}, Ex G G7 → σ[0]? = some (some x) → σ[3]? = some (some (.int (i : Int))) → σ[k]? = some (some v) → Dp K G7 v (dI (srtI (ends t.joints (i : Int) c))) → ET (tAnd (tTest (tOp (rNotInD K) (tVar 3) (tOp (rIxT K) (tVar 0) (tC (.int 2))))) (tTest (tOp rEq (tCB (Evl.rLenS K) (tCons (tVar k) tNil)) (tC (.int 2))))) σ G7 (· = isPt t.parks t.joints (i : Int) c) := fun {c k v G7 σ} e h0 h3 hk hv =>
        et_and (p := (· = !decide ((i : Int) ∈ t.parks))) (q := (· = decide (endN t.joints (i : Int) c = 2))) (et_niI (ex_var h3) (ed_t2 h0 (dpx dx e))) (fun _ => (et_eqI (ex_lenD (ef_var hk hv)) ex_c).imp fun b hb => by
          rw [hb, List.length_map, (srtI_perm _).length_eq, ends_len]
          exact decide_eq_decide.mpr ⟨fun z => by omega, fun z => by omega⟩) (fun h c hc => by unfold isPt; rw [← h, hc]; rfl) (fun h => by unfold isPt; rw [← h]; rfl)
      have pts : ∀ {c : Bool} {G7 : Hp} {σ : L2.St}, σ[3]? = some (some (.int (i : Int))) → EF (tTup (tCons (tVar 3) (tCons (tC (.str (sd c))) tNil))) σ G7 (DV K (dPt (i : Int) c)) := fun {c G7 σ} h3 => ef_tup (ea_two mo_XV mo_XV (ex_var h3) (ex_c (v := .str (sd c)))) (fun vs G' ⟨x, y, ev, _⟩ => by rw [ev]; simp) fun p vs G' _ _ _ ⟨x, y, ev, hx, hy⟩ => dp_mkT upd_same (by rw [ev, show x = _ from hx, show y = _ from hy]; exact .cons (.int _) (.cons (.str _) .nil))
      refine ⟨fun σ' H' => ∃ G' vs, σ' = [some x, some (.ref q), some v2', some (.int (i : Int)), some v4', some v5', none] ∧ Gr G G' H H' ∧ Ex G6 G' ∧ G' q = none ∧ H' q = some (.lst vs) ∧ DpAll K G' vs (ptsD t.parks t.joints i ++ if isPt t.parks t.joints (i : Int) true = true then [dPt (i : Int) true] else []), ?_, ?_⟩
      · refine st_if g36.ok (test (c := true) (k := 4) g36.up rfl rfl rfl v46) (fun h H7 e7 => ?_) (fun h H7 e7 => ⟨G6, vs, rfl, g36.then e7, Ex.refl _, q6, e7 _ _ h6, by rw [if_neg (by rw [← h]; exact Bool.false_ne_true), List.append_nil]; exact d6⟩)
        refine st_app (P := DV K (dPt (i : Int) true)) (g36.ok.trans e7) (e7 _ _ h6) (ex_var (v := .ref q) rfl) (pts (c := true) rfl) (by rw [dpa_len d6]; omega) fun v G8 H8 g8 p8 => ?_
        have q8 := g8.2.2.2 q (ne_none_of (e7 _ _ h6)) q6
        refine ⟨G8, vs ++ [v], rfl, ((g36.then e7).trans g8).put fq q8, g8.up, q8, upd_same, ?_⟩
        rw [if_pos h.symm]
        exact dpa_snoc (dpax d6 g8.up) p8
      rintro σ1 H7 ⟨G7, vs7, rfl, g7, e67, q7, h7, d7⟩
      have l7 : vs7.length ≤ 2 * i + 1 := by
        rw [dpa_len d7, List.length_append]
        have : (if isPt t.parks t.joints (i : Int) true = true then [dPt (i : Int) true] else []).length ≤ 1 := by split <;> simp
        omega
      refine st_if g7.ok (test (c := false) (k := 5) g7.up rfl rfl rfl (dpx v56 e67)) (fun h H8 e8 => ?_) (fun h H8 e8 => ⟨_, _, _, _, G7, vs7, rfl, g7.then e8, q7, e8 _ _ h7, by rw [ptsD_succ, two, if_neg (c := isPt t.parks t.joints (i : Int) false = true) (by rw [← h]; exact Bool.false_ne_true), List.append_nil]; exact d7, mo_LS _ _ _ e67 p6⟩)
      refine st_app (P := DV K (dPt (i : Int) false)) (g7.ok.trans e8) (e8 _ _ h7) (ex_var (v := .ref q) rfl) (pts (c := false) rfl) (by omega) fun v G9 H9 g9 p9 => ?_
      have q9 := g9.2.2.2 q (ne_none_of (e8 _ _ h7)) q7
      refine ⟨_, _, _, _, G9, vs7 ++ [v], rfl, ((g7.then e8).trans g9).put fq q9, q9, upd_same, ?_, mo_LS _ _ _ (e67.trans g9.up) p6⟩
      rw [ptsD_succ, two, if_pos (c := isPt t.parks t.joints (i : Int) false = true) h.symm, ← List.append_assoc]
      exact dpa_snoc (dpax d7 g9.up) p9
    · obtain ⟨v2, v3, v4, v5, G3, vs, rfl, g3, q3, h3, d3, l3⟩ := hw
      have en : ((t.lens.length : Int)).toNat = t.lens.length := by omega
      rw [en] at d3 l3
      have gK := g3.know hG fq h3
      have eI : Ex G3 (upd G3 q (.lst vs)) := ex_in q3
      have dq : Dp K (upd G3 q (.lst vs)) (.ref q) (.list (ptsD t.parks t.joints t.lens.length)) := dp_mkL upd_same (dpax d3 eI)
      have el := endsD_len t.joints t.lens.length
      dsimp only
      refine st_ret (P := LS K (listsD t.parks t.joints (ptsD t.parks t.joints t.lens.length) t.lens.length)) gK.ok ?_ fun v G' H6 g p => ?_
      rotate_left
      · exact k v G' H6 (gK.trans g) p.dp
      rw [lists_ends]
      exact el_cat (el_lst (ea_two mo_DV mo_DV (ed_srtP (rj gK.up rfl) (Evl.ex_l gK.up sj) (dpax dj gK.up)) (ef_var (v := .ref q) rfl dq)) (by simp) fun vs G' _ ⟨x, y, ev, hx, hy⟩ => by rw [ev]; exact .cons hx (.cons hy .nil)) (ef_var (v := v2) rfl (mo_LS _ _ _ eI l3)) (by rw [el]; simp; omega)
theorem okb_lists (parks : List Int) (js : List (Int × Int)) (pt : List PyData) (hj : js.length ≤ 900) (hp : Okb 2 (.list pt)) : ∀ n, ∀ d ∈ listsD parks js pt n, Okb 2 d
  | 0, d, m => by
    unfold listsD at m
    simp only [List.mem_cons, List.not_mem_nil, or_false] at m
    rcases m with rfl | rfl
    · unfold Okb
      refine ⟨by rw [List.length_map, (srtP_perm js).length_eq]; omega, fun d m => ?_⟩
      obtain ⟨q, _, rfl⟩ := List.mem_map.mp m
      unfold dP Okb
      exact ⟨by simp, fun d m => by simp at m; rcases m with rfl | rfl <;> simp [Okb]⟩
    · exact hp
  | n + 1, d, m => by
    have hI : ∀ {l : List Int}, l.length ≤ 900 → Okb 2 (dI l) := fun {l} h => by
      unfold dI Okb
      refine ⟨by rw [List.length_map]; omega, fun d m => ?_⟩
      obtain ⟨q, _, rfl⟩ := List.mem_map.mp m
      simp [Okb]
    have e1 : (srtI (eo js (n : Int))).length ≤ 900 := by rw [(srtI_perm _).length_eq]; have := eo_len_le js (n : Int); omega
    have e2 : (srtI (wo js (n : Int))).length ≤ 900 := by rw [(srtI_perm _).length_eq]; have := wo_len_le js (n : Int); omega
    unfold listsD at m
    rcases List.mem_append.mp m with m | m
    · rcases List.mem_append.mp m with m | m
      · exact okb_lists parks js pt hj hp n d m
      · simp only [List.mem_cons, List.not_mem_nil, or_false] at m
        rcases m with rfl | rfl
        · exact hI e1
        · exact hI e2
    · simp only [List.mem_cons, List.not_mem_nil, or_false] at m
      rcases m with rfl | rfl
      · exact hI e1
      · exact hI e2
theorem okb_pts (parks : List Int) (js : List (Int × Int)) (n : Nat) (hn : n ≤ 200) : Okb 2 (.list (ptsD parks js n)) := by
  unfold Okb
  refine ⟨by have := ptsD_len parks js n; omega, fun d m => ?_⟩
  unfold ptsD at m
  obtain ⟨b, _, m⟩ := List.mem_flatMap.mp m
  unfold ptsAt at m
  obtain ⟨c, _, rfl⟩ := List.mem_map.mp m
  unfold dPt Okb
  exact ⟨by simp, fun d m => by simp at m; rcases m with rfl | rfl <;> simp [Okb]⟩
def spFit (K : PySem.W.Frag) (C : Addr) : Sp := fun vs H Q _ => ∃ (G : Hp) (p : Addr) (x : V) (t : Trk), Ex G H ∧ vs = [.ref p, x] ∧ LayL K C G p t.lens t.parks t.joints ∧ JOk (t.lens.length : Int) t.parks t.joints ∧ Dp K G x (dT t) ∧ t.lens.length ≤ 200 ∧ t.joints.length ≤ 900 ∧ Ret G H (XV (.bl true)) Q
theorem lens_map (lens : List Int) : (List.range lens.length).map (fun i => PyData.int (lens.getD i 0)) = lens.map PyData.int := by
  apply List.ext_getElem
  · simp
  · intro i h1 h2
    simp only [List.length_map, List.length_range] at h1
    simp [List.getD_eq_getElem?_getD, List.getElem?_eq_getElem h1]
theorem ok_fit (T : Cl K C) (B : Blt mg) (F : Fun K "_law_fits" "_law_fits" s_fits f fd) (Cl' : Cal P w K mg base "_law_lists" 8 ["_law_layout", "_law_size"] (spLst K C)) (Cw : Cal P w K mg base "_law_wanted" 1 ["_law_track_here"] (spWnt K)) (Cs : Cal P w K mg base "_law_same" 4 ["_law_actual", "_law_wanted_here"] (spSameB K 3)) (C0 : CalMX P w K mg base C "length_of" 4 ["self", "block"] (spLenX K C CN)) (C1 : CalMX P w K mg base C "is_yard" 4 ["self", "block"] (spAskX K C CN pYard)) :
    FnOk P w K mg base CX0 9 f fd ["_law_layout", "_law_track_here"] (spFit K C) := by
  obtain ⟨f1, fd1, G_lists, m_lists, k_lists, b_lists⟩ := Cl'
  obtain ⟨f2, fd2, G_wanted, m_wanted, k_wanted, b_wanted⟩ := Cw
  obtain ⟨f3, fd3, G_same, m_same, k_same, b_same⟩ := Cs
  obtain ⟨f4, fd4, G_length_of, M_length_of, b_length_of⟩ := C0
  obtain ⟨f5, fd5, G_is_yard, M_is_yard, b_is_yard⟩ := C1
  have cL := T.cl
  have m_len := B.len
  have m_range := B.range
  refine F.ok sc_fits (fun vs H Q E h => ?_) (fun cdv A outer s H vs Q E hr h => ?_)
  · obtain ⟨G, p, x, t, _, rfl, _⟩ := h
    rfl
  · obtain ⟨G, p, x, t, hG, rfl, hL, hJ, dx, hn, hj, k⟩ := h
    refine ⟨_, (pss_cons (ps_set (i := 2) sc_fits.nd rfl (by first | exact Or.inl rfl | exact Or.inr rfl) (pe_callB call_len_seq (by rfl) m_len PySem.boot_len (pa_cons (pe_ix ix_tup (pv 1) pe_int (fun _ _ => rfl)) pa_nil)))
 (pss_cons (ps_if (pt_not (pt_val (pe_call G_same (hr.mono (by decide)) rfl m_same k_same b_same .nil pass0 (pa_cons (pe_call G_lists (hr.mono (by decide)) rfl m_lists k_lists b_lists .nil pass0 (pa_cons (pv 0) (pa_cons (pv 2) pa_nil))) (pa_cons (pe_call G_wanted (hr.mono (by decide)) rfl m_wanted k_wanted b_wanted .nil pass0 (pa_cons (pv 1) pa_nil)) pa_nil)))))
 (pss_one (ps_ret pe_bl)) pss_nil)
 (pss_cons (ps_if (pt_not (pt_val (pe_call G_same (hr.mono (by decide)) rfl m_same k_same b_same .nil pass0 (pa_cons (pe_lc (own := [("_law_block", 4)]) (g := gName 4) (tt := tYes) rfl sc_fits.nd (pi_range1 rfl m_range (pa_cons (pv 2) pa_nil)) (blkOk_by (N := ["_law_layout", "_law_track_here", "_law_size", "_law_parks", "_law_block"]) (sc := defScope s_fits) (by decide +kernel)) (fun _ _ _ _ _ => pg_name (i := 4) sc_fits.nd rfl (Or.inl rfl)) (fun _ _ _ _ _ => pts_nil) (fun _ _ _ _ _ => (pe_meth (pv 0) cL M_length_of G_length_of (hr.mono (by decide)) b_length_of .nil passL (pa_cons (pv 4) pa_nil)))) (pa_cons (pe_ix ix_tup (pv 1) pe_int (fun _ _ => rfl)) pa_nil)))))
 (pss_one (ps_ret pe_bl)) pss_nil)
 (pss_cons (ps_setLc (i := 3) (own := [("_law_block", 4)]) (g := gName 4) (tt := tYes) rfl sc_fits.nd rfl rfl (sw_true rfl rfl rfl (by decide +kernel)) (pi_range1 rfl m_range (pa_cons (pv 2) pa_nil)) (blkOk_by (N := ["_law_layout", "_law_track_here", "_law_size", "_law_parks", "_law_block"]) (sc := defScope s_fits) (by decide +kernel)) (fun _ _ _ _ _ => pg_name (i := 4) sc_fits.nd rfl (Or.inl rfl)) (fun _ _ _ _ _ => pts_nil) (fun _ _ _ _ _ => (pe_meth (pv 0) cL M_is_yard G_is_yard (hr.mono (by decide)) b_is_yard .nil passL (pa_cons (pv 4) pa_nil))))
 (pss_one (ps_ret (pe_and (pe_call G_same (hr.mono (by decide)) rfl m_same k_same b_same .nil pass0 (pa_cons (pe_fld (pv 0) rfl) (pa_cons (pv 2) pa_nil))) (pe_one (pe_call G_same (hr.mono (by decide)) rfl m_same k_same b_same .nil pass0 (pa_cons (pv 3) (pa_cons (pe_lc (own := [("_law_block", 4)]) (g := gName 4) (tt := tYes) (te := (tOp (rInD K) (tVar 4) (tOp (rIxT K) (tVar 1) (tC (.int 2))))) rfl sc_fits.nd (pi_range1 rfl m_range (pa_cons (pv 2) pa_nil)) (blkOk_by (N := ["_law_layout", "_law_track_here", "_law_size", "_law_parks", "_law_block"]) (sc := defScope s_fits) (by decide +kernel)) (fun _ _ _ _ _ => pg_name (i := 4) sc_fits.nd rfl (Or.inl rfl)) (fun _ _ _ _ _ => pts_nil) (fun _ _ _ _ _ => (pe_cmpR (op_inD (hu65 hr)) (pv 4) (pe_ix ix_tup (pv 1) pe_int (fun _ _ => rfl)) (by rfl)))) pa_nil))))))))))), ?_⟩
    refine st_asg (P := XV (.int (t.lens.length : Int))) hG ((ex_lenD (ed_t0 (v := x) rfl dx)).imp fun v _ _ p => by rw [show v = _ from p, List.length_map]; rfl) fun v2 G2 H2 g2 p2 => ?_
    cases (show v2 = _ from p2)
    have dx2 := dpx dx g2.up
    have hL2 := hL.ex g2.up
    have rng : ∀ {σ : L2.St} {G' : Hp}, σ[2]? = some (some (.int (t.lens.length : Int))) → EA (tCons (tVar 2) tNil) σ G' fun us _ => us = [.int (t.lens.length : Int)] := fun h => (ea_one (ex_var h)).imp fun vs G' _ ⟨x, ev, hx⟩ => by rw [ev, show x = _ from hx]
    refine st_if0 g2.ok (et_not (et_B (EF.bl (ef_call (P := XV (.bl true)) (ea_two (Pa := DV K (.list (listsD t.parks t.joints (ptsD t.parks t.joints t.lens.length) t.lens.length))) (Pb := DV K (.list (listsD t.parks t.joints (ptsD t.parks t.joints t.lens.length) t.lens.length))) mo_DV mo_DV (ex_call2 (ex_var (v := .ref p) rfl) (ex_var (v := .int (t.lens.length : Int)) rfl) fun G' e' => SA.imp (P := LN K G' (listsD t.parks t.joints (ptsD t.parks t.joints t.lens.length) t.lens.length)) (fun H e Q _ q => ⟨G', p, t.lens.length, t.parks, t.joints, e, rfl, (hL2.ex e').1, hJ, hn, hj, q⟩) fun v G3 h => h.dp) (ex_call1 (ex_var (v := x) rfl) fun G' e' H e Q _ q => ⟨G', x, t, e, rfl, dpx dx2 e', hn, hj, q⟩)) fun vs G' e' ⟨y, z, ev, hy, hz⟩ => ?_) rfl))) fun H3 e3 => ?_
    · subst ev
      refine sa_sameB hy hz ?_
      unfold Okb
      exact ⟨by rw [listsD_len]; omega, okb_lists _ _ _ hj (okb_pts _ _ _ hn) _⟩
    have e3' := g2.ok.trans e3
    unfold tNext
    dsimp only
    have lenT : EF (tOp (rIxT K) (tVar 1) (tC (.int 0))) [some (.ref p), some x, some (.int (t.lens.length : Int)), none, none] G2 (DV K (dI t.lens)) := ed_t0 (v := x) rfl dx2
    refine st_if0 e3' (et_not (et_B (EF.bl (ef_call (P := XV (.bl true)) (ea_two (Pa := DV K (dI t.lens)) (Pb := DV K (dI t.lens)) mo_DV mo_DV ?_ lenT) fun vs G' e' ⟨y, z, ev, hy, hz⟩ => ?_) rfl))) fun H4 e4 => ?_
    · show EF _ _ _ (DV K (.list (t.lens.map PyData.int)))
      rw [← lens_map]
      exact (el_mapR (n := t.lens.length) (g := fun i => PyData.int (t.lens.getD i 0)) (rng rfl) (by omega) (fun x => rfl) fun i G' e hi => (ex_meth1 (P := XV (.int (t.lens.getD i 0))) (ex_var (v := .ref p) rfl) ((hL2.ex e).1.meth (by decide +kernel)) (ex_var (v := .int (i : Int)) rfl) fun G3 e3 H e4 Q _ q => ⟨G3, p, t.lens, t.parks, t.joints, (i : Int), e4, rfl, hL2.ex (e.trans e3), fun z _ hz => by
        have ez : t.lens.getD i 0 = z := by rw [List.getD_eq_getElem?_getD]; have : ((i : Int)).toNat = i := by omega
                                            rw [this] at hz; rw [hz]; rfl
        rw [ez] at q
        exact q, fun z => absurd ⟨by omega, by omega⟩ z⟩).imp fun v _ _ p => by rw [show v = _ from p]; exact .int _).ls_dv
    · subst ev
      refine sa_sameB hy hz ?_
      unfold dI Okb
      refine ⟨by rw [List.length_map]; omega, fun d m => ?_⟩
      obtain ⟨q, _, rfl⟩ := List.mem_map.mp m
      simp [Okb]
    dsimp only
    refine st_asg (P := LS K ((marksOf t.lens.length t.parks).map PyData.bool)) (e3'.trans e4) (by
      rw [← marks_map]
      exact el_mapR (n := t.lens.length) (rng rfl) (by omega) (fun x => rfl) fun i G' e hi => (ex_meth1 (P := XV (.bl (decide ((i : Int) ∈ t.parks)))) (ex_var (v := .ref p) rfl) ((hL2.ex e).1.meth (by decide +kernel)) (ex_var (v := .int (i : Int)) rfl) fun G3 e3 => sa_askX (P := pYard) (hL2.ex (e.trans e3)).1 (by omega) (by omega)).imp fun v _ _ p => by rw [show v = _ from p]; exact .bl _) fun v3 G5 H5 g5 p5 => ?_
    have gA : Gr G G5 H H5 := (g2.then (e3.trans e4)).trans g5
    obtain ⟨dxx, fs, hins, hsz⟩ := (hL2.ex g5.up).1.size
    refine st_ret (P := BV (· = true)) g5.ok (eb_and (p := (· = true)) (q := (· = true)) (s := (· = true)) (EF.blt (ef_call (P := XV (.bl true)) (ea_two (Pa := XV (.int (t.lens.length : Int))) (Pb := XV (.int (t.lens.length : Int))) mo_XV mo_XV (ef_fld (ex_var rfl) hins T.cl T.size hsz rfl) (ex_var rfl)) fun vs G' e' ⟨y, z, ev, hy, hz⟩ => ?_)) (fun _ => EF.blt (ef_call (P := XV (.bl true)) (ea_two (Pa := LS K ((marksOf t.lens.length t.parks).map PyData.bool)) (Pb := LS K ((marksOf t.lens.length t.parks).map PyData.bool)) mo_LS mo_LS (ef_var rfl p5) (by
      rw [← marks_map]
      exact el_mapR (n := t.lens.length) (rng rfl) (by omega) (fun x => rfl) fun i G' e hi => (eb_inI (ex_var (v := .int (i : Int)) rfl) (ed_t2 (v := x) rfl (dpx dx2 (g5.up.trans e)))).imp fun v _ _ ⟨z, ez, hz⟩ => by rw [ez, hz]; exact .bl _)) fun vs G' e' ⟨y, z, ev, hy, hz⟩ => ?_)) (fun _ b hb => hb) (fun z => nomatch z)) fun v G' H' g p => k v G' H' (gA.trans g) (by obtain ⟨z, rfl, rfl⟩ := p; rfl)
    · subst ev
      rw [show y = _ from hy, show z = _ from hz]
      exact sa_sameB (.int _) (.int _) (by simp [Okb])
    · subst ev
      refine sa_sameB hy.dp hz.dp ?_
      unfold Okb
      refine ⟨by rw [List.length_map, marks_len]; omega, fun d m => ?_⟩
      obtain ⟨q, _, rfl⟩ := List.mem_map.mp m
      simp [Okb]
where
  EF.blt {σ : L2.St} {G : Hp} {te : TE} (h : EF te σ G (XV (.bl true))) : EF te σ G (BV (· = true)) := h.imp fun v _ _ p => ⟨true, p, rfl⟩
end
end Kx

set_option Elab.async false
set_option linter.all false
set_option maxRecDepth 100000
set_option maxHeartbeats 8000000
namespace Kx
open PySem L2 Lw
open Evl (Ex)
abbrev s_changed : Stmt := top 17
theorem sc_changed : FnScope ["_law_track_here", "_law_cell_here", "_law_lengths", "_law_joints", "_law_parks", "_law_choice", "_law_at"] ["_law_track_here", "_law_cell_here"] (defScope s_changed) := ⟨rfl, rfl, rfl, by decide +kernel, rfl, by decide +kernel, by decide +kernel⟩
structure TkO (t : Trk) : Prop where
  pos : 1 ≤ t.lens.length
  few : t.lens.length ≤ 10
  one : ∀ l ∈ t.lens, 1 ≤ l
  inP : ∀ b ∈ t.parks, 0 ≤ b ∧ b < (t.lens.length : Int)
  fewP : t.parks.length ≤ 210
  js : JOk (t.lens.length : Int) t.parks t.joints
  fewJ : t.joints.length ≤ 20
section
variable {P : Program} {w : World} {K : PySem.W.Frag} {mg : Str → Option Value} {base : Heap} {C CN : Addr} {f : Addr} {fd : FuncData}
/-- three lists as they stand now -/
structure T3S (K : PySem.W.Frag) (G H : Hp) (la ja pa : Addr) (n b : Nat) (H1 Gk : Hp) (vj : List V) (t : Trk) : Prop where
  g : Gr G Gk H H1
  kl : Gk la = none
  kj : Gk ja = none
  kp : Gk pa = none
  hl : H1 la = some (.lst (t.lens.map V.int))
  hj : H1 ja = some (.lst vj)
  hp : H1 pa = some (.lst (t.parks.map V.int))
  d : DpAll K Gk vj (t.joints.map dP)
  ln : t.lens.length = n
  one : ∀ l ∈ t.lens, 1 ≤ l
  inP : ∀ b ∈ t.parks, 0 ≤ b ∧ b < (n : Int)
  js : JOk (n : Int) t.parks t.joints
  fJ : t.joints.length ≤ 20
  fP : t.parks.length ≤ 200 + b
def T3W (K : PySem.W.Frag) (G H : Hp) (la ja pa : Addr) (n b : Nat) (H1 : Hp) : Prop := ∃ Gk vj t, T3S K G H la ja pa n b H1 Gk vj t
theorem T3S.up {G H : Hp} {la ja pa : Addr} {n b : Nat} {H1 H2 Gk : Hp} {vj : List V} {t : Trk} (h : T3S K G H la ja pa n b H1 Gk vj t) (e : Ex H1 H2) : T3S K G H la ja pa n b H2 Gk vj t := { h with g := h.g.then e, hl := e _ _ h.hl, hj := e _ _ h.hj, hp := e _ _ h.hp }
theorem T3S.wide {G H : Hp} {la ja pa : Addr} {n b b' : Nat} {H1 Gk : Hp} {vj : List V} {t : Trk} (h : T3S K G H la ja pa n b H1 Gk vj t) (e : b ≤ b') : T3S K G H la ja pa n b' H1 Gk vj t := { h with fP := by have := h.fP; omega }
theorem jok_mono {n m : Int} {parks : List Int} {js : List (Int × Int)} (h : JOk n parks js) (e : n ≤ m) : JOk m parks js := by
  induction h with
  | nil => exact .nil
  | snoc hj hn ih => exact .snoc ih ⟨hn.lo, hn.lt, by have := hn.hi; omega, hn.new, hn.ew, hn.we⟩
theorem dpa_erase {G : Hp} : ∀ {vs : List V} {ds : List PyData} (k : Nat), DpAll K G vs ds → DpAll K G (vs.eraseIdx k) (ds.eraseIdx k)
  | _, _, _, .nil => by simpa using DpAll.nil
  | _, _, 0, .cons a r => r
  | _, _, k + 1, .cons a r => .cons a (dpa_erase k r)
theorem erase_map' {α β : Type} (f : α → β) : ∀ (l : List α) (k : Nat), (l.map f).eraseIdx k = (l.eraseIdx k).map f
  | [], _ => rfl
  | _ :: _, 0 => rfl
  | x :: l, k + 1 => by simp [erase_map' f l k]
theorem st_setT {σ : L2.St} {D : Ends} {te ti : TE} {G H : Hp} {la ja pa : Addr} {n b i : Nat} {H1 Gk : Hp} {vj : List V} {t : Trk} (fr : Fr3 H la ja pa) (h : T3S K G H la ja pa n b H1 Gk vj t) (hi : i < n) (ho : σ[2]? = some (some (.ref la))) (hix : ∀ (H : Hp) (Q : VK), Q (.int (i : Int)) H → ti σ H Q)
    (hT : EF te σ (upd Gk la (.lst (t.lens.map V.int))) (IV fun z => 1 ≤ z)) (k : ∀ H2 t', T3S K G H la ja pa n b H2 Gk vj t' → D.nx σ H2) : tAsg te (gSub (tVar 2) ti rSetL) D σ H1 :=
  hT H1 (ex_know h.g.ok h.hl) _ fun v G2 H2 g2 ⟨z, ez, hz⟩ => by
    subst ez
    refine ⟨.ref la, ho, hix _ _ ⟨la, t.lens.map V.int, (i : Int), i, rfl, rfl, g2.hp _ _ h.hl, ixN_nat (by rw [List.length_map, h.ln]; exact hi), ?_⟩⟩
    refine k _ ⟨t.lens.set i z, t.joints, t.parks⟩ ⟨(h.g.then g2.hp).put fr.l h.kl, h.kl, h.kj, h.kp, by rw [upd_same, List.map_set], by rw [upd_ne fr.lj.symm]; exact g2.hp _ _ h.hj, by rw [upd_ne fr.lp.symm]; exact g2.hp _ _ h.hp, h.d, by rw [List.length_set]; exact h.ln, fun l m => ?_, h.inP, h.js, h.fJ, h.fP⟩
    rcases List.mem_or_eq_of_mem_set m with m | m
    · exact h.one l m
    · rw [m]; exact hz
def spChg (K : PySem.W.Frag) : Sp := fun vs H Q _ => ∃ (G : Hp) (x : V) (t : Trk) (c : Int), Ex G H ∧ vs = [x, .int c] ∧ Dp K G x (dT t) ∧ TkO t ∧ t.lens.length ≤ 9 ∧ t.parks.length ≤ 200 ∧ Ret G H (fun v G' => ∃ t', TkO t' ∧ Dp K G' v (dT t')) Q
theorem ok_chg (B : Blt mg) (F : Fun K "_law_changed" "_law_changed" s_changed f fd) (Cd : Cal P w K mg base "_law_draw" 1 ["_law_cell_here", "_law_k", "_law_size"] spDraw) : FnOk P w K mg base CX0 2 f fd ["_law_track_here", "_law_cell_here"] (spChg K) := by
  obtain ⟨f1, fd1, G_draw, m_draw, k_draw, b_draw⟩ := Cd
  have m_len := B.len
  have m_list := B.list
  refine F.ok sc_changed (fun vs H Q E h => ?_) (fun cdv A outer s H vs Q E hr h => ?_)
  · obtain ⟨G, x, t, c, _, rfl, _⟩ := h
    rfl
  · obtain ⟨G, x, t, c, hG, rfl, dx, ht, h9, h200, k⟩ := h
    refine ⟨_, (pss_cons (ps_set (i := 2) sc_changed.nd rfl (by first | exact Or.inl rfl | exact Or.inr rfl) (pe_callTy call_list_of (by rfl) m_list (by decide +kernel) (pa_cons (pe_ix ix_tup (pv 0) pe_int (fun _ _ => rfl)) pa_nil)))
 (pss_cons (ps_set (i := 3) sc_changed.nd rfl (by first | exact Or.inl rfl | exact Or.inr rfl) (pe_callTy call_list_of (by rfl) m_list (by decide +kernel) (pa_cons (pe_ix ix_tup (pv 0) pe_int (fun _ _ => rfl)) pa_nil)))
 (pss_cons (ps_set (i := 4) sc_changed.nd rfl (by first | exact Or.inl rfl | exact Or.inr rfl) (pe_callTy call_list_of (by rfl) m_list (by decide +kernel) (pa_cons (pe_ix ix_tup (pv 0) pe_int (fun _ _ => rfl)) pa_nil)))
 (pss_cons (ps_set (i := 5) sc_changed.nd rfl (by first | exact Or.inl rfl | exact Or.inr rfl) (pe_call G_draw (hr.mono (by decide)) rfl m_draw k_draw b_draw .nil pass0 (pa_cons (pv 1) (pa_cons pe_int (pa_cons pe_int pa_nil)))))
 (pss_cons (ps_set (i := 6) sc_changed.nd rfl (by first | exact Or.inl rfl | exact Or.inr rfl) (pe_call G_draw (hr.mono (by decide)) rfl m_draw k_draw b_draw .nil pass0 (pa_cons (pv 1) (pa_cons pe_int (pa_cons (pe_callB call_len_seq (by rfl) m_len PySem.boot_len (pa_cons (pv 2) pa_nil)) pa_nil)))))
 (Evl.pss_cut (ps_if (pt_cmpR op_eq (pv 5) pe_int (nomark _))
 (pss_one (ps_asg (pe_op op_add (pe_ix ix_list (pv 2) (pv 6) (fun _ _ => rfl)) pe_int) (pg_sub (pv 2) (pv 6) set_list))) pss_nil)
 (Evl.pss_cut (ps_if (PW.pt (pw_and (pt_cmpR op_eq (pv 5) pe_int (nomark _)) (pw_and1 (pt_cmpR (op_notInD (hu65 hr)) (pv 6) (pv 4) (by rfl)))))
 (pss_one (ps_expr (pe_bm PySem.F.plainAttrs_list PySem.F.slot_list_append PySem.F.type_list_append mt_append (pv 4) (pa_cons (pv 6) pa_nil)))) pss_nil)
 (Evl.pss_cut (ps_if (PW.pt (pw_and (pt_cmpR op_eq (pv 5) pe_int (nomark _)) (pw_and1 (pt_cmpR op_gt (pe_callB call_len_seq (by rfl) m_len PySem.boot_len (pa_cons (pv 3) pa_nil)) pe_int (nomark _)))))
 (pss_one (ps_expr (pe_bm PySem.F.plainAttrs_list PySem.F.slot_list_pop PySem.F.type_list_pop mt_popAt (pv 3) (pa_cons (pe_call G_draw (hr.mono (by decide)) rfl m_draw k_draw b_draw .nil pass0 (pa_cons (pv 1) (pa_cons pe_int (pa_cons (pe_callB call_len_seq (by rfl) m_len PySem.boot_len (pa_cons (pv 3) pa_nil)) pa_nil)))) pa_nil)))) pss_nil)
 (Evl.pss_cut (ps_if (pt_cmpR op_eq (pv 5) pe_int (nomark _))
 (pss_cons (ps_asg (pe_ix ix_list (pe_ix ix_tup (pv 0) pe_int (fun _ _ => rfl)) pe_int (fun _ _ => rfl)) (pg_sub (pv 2) (pv 6) set_list))
 (pss_one (ps_asg (pe_ix ix_list (pe_ix ix_tup (pv 0) pe_int (fun _ _ => rfl)) (pv 6) (fun _ _ => rfl)) (pg_sub (pv 2) pe_int set_list)))) pss_nil)
 (Evl.pss_cut (ps_if (pt_cmpR op_eq (pv 5) pe_int (nomark _))
 (pss_one (ps_expr (pe_bm PySem.F.plainAttrs_list PySem.F.slot_list_append PySem.F.type_list_append mt_append (pv 2) (pa_cons pe_int pa_nil)))) pss_nil)
 (pss_one (ps_ret (pe_tup (pa_cons (pv 2) (pa_cons (pv 3) (pa_cons (pv 4) pa_nil)))))))))))))))), ?_⟩
    have pos := ht.pos
    obtain ⟨at', xs, rfl, hs, hd⟩ := dp_tup dx
    obtain ⟨v0, hv0, d0⟩ := dpa_get' (i := 0) (d := dI t.lens) hd rfl
    obtain ⟨v1, hv1, d1⟩ := dpa_get' (i := 1) (d := dPs t.joints) hd rfl
    obtain ⟨v2, hv2, d2⟩ := dpa_get' (i := 2) (d := dI t.parks) hd rfl
    obtain ⟨a0, xs0, rfl, s0, x0⟩ := dp_lst d0
    obtain ⟨a1, xs1, rfl, s1, x1⟩ := dp_lst d1
    obtain ⟨a2, xs2, rfl, s2, x2⟩ := dp_lst d2
    rw [dpa_ints_eq x0] at s0
    rw [dpa_ints_eq x2] at s2
    have tk : ∀ {σ : L2.St} {G' : Hp} {j : Nat} {v : V}, Ex G G' → σ[0]? = some (some (.ref at')) → xs[j]? = some v → EF (tOp (rIxT K) (tVar 0) (tC (.int (j : Int)))) σ G' (XV v) := fun e h hv => ex_ixT (ex_var h) ex_c (Evl.ex_t e hs) hv
    have lst : ∀ {σ : L2.St} {G' : Hp} {j : Nat} {a : Addr} {ys : List V}, Ex G G' → σ[0]? = some (some (.ref at')) → xs[j]? = some (.ref a) → SqL K G a ys → EF (tCB (Evl.rListS K) (tCons (tOp (rIxT K) (tVar 0) (tC (.int (j : Int)))) tNil)) σ G' fun v G2 => ∃ q, v = .ref q ∧ G' q = none ∧ G2 q = some (.lst ys) := fun {σ G' j a ys} e h hv hs => fun H e2 Q q => tk e h hv H e2 _ fun x G1 H1 g1 p => by
      cases (show x = _ from p)
      exact ⟨a, ys, rfl, .inl (Evl.ex_l (e.trans (g1.up.trans g1.ok)) hs), fun l hl => q _ _ _ (g1.trans (.new g1.ok hl)) ⟨l, rfl, none_back (g1.up.trans g1.ok) hl, upd_same⟩⟩
    have cv : ∀ {σ : L2.St} {G' : Hp}, σ[1]? = some (some (.int c)) → EF (tVar 1) σ G' (IV fun _ => True) := fun h => EF.ivp (ex_var h) trivial
    refine st_asg (P := fun v G2 => ∃ q, v = .ref q ∧ G q = none ∧ G2 q = some (.lst (t.lens.map V.int))) hG (lst (j := 0) (Ex.refl G) rfl hv0 s0) fun v2 G2 H2 g2 p2 => ?_
    obtain ⟨la, rfl, l0, l1⟩ := p2
    have lH : H la = none := g2.fresh l0 l1
    refine st_asg (P := fun v G' => ∃ q, v = .ref q ∧ G2 q = none ∧ G' q = some (.lst xs1)) g2.ok (lst (j := 1) g2.up rfl hv1 s1) fun v3 G3 H3 g3 p3 => ?_
    obtain ⟨ja, rfl, j0, j1⟩ := p3
    have jH2 : H2 ja = none := g3.fresh j0 j1
    have g23 := g2.up.trans g3.up
    refine st_asg (P := fun v G' => ∃ q, v = .ref q ∧ G3 q = none ∧ G' q = some (.lst (t.parks.map V.int))) g3.ok (lst (j := 2) g23 rfl hv2 s2) fun v4 G4 H4 g4 p4 => ?_
    obtain ⟨pa, rfl, q0, q1⟩ := p4
    have pH3 : H3 pa = none := g4.fresh q0 q1
    have l3 := g3.up _ _ l1
    have fr : Fr3 H la ja pa := ⟨lH, none_back g2.hp jH2, none_back (g2.hp.trans g3.hp) pH3, fun z => (by rw [← z, l1] at j0; cases j0), fun z => (by rw [← z, l3] at q0; cases q0), fun z => (by rw [← z, j1] at q0; cases q0)⟩
    have eH4 : Ex H H4 := g2.hp.trans (g3.hp.trans g4.hp)
    obtain ⟨n, hn⟩ : ∃ n, t.lens.length = n := ⟨_, rfl⟩
    have st0 : T3S K G H la ja pa n 0 H4 G xs1 t := ⟨.same hG eH4, l0, none_back g2.up j0, none_back g23 q0, g4.hp _ _ (g3.ok _ _ l3), g4.hp _ _ (g3.ok _ _ j1), g4.ok _ _ q1, x1, hn, ht.one, by rw [← hn]; exact ht.inP, by rw [← hn]; exact ht.js, ht.fewJ, by omega⟩
    refine st_asg (P := IV fun z => 0 ≤ z ∧ z < 6) g4.ok (ei_draw (n := 6) (cv rfl) (EF.ivp ex_c ⟨by omega, by omega⟩) (EF.iv ex_c) (by omega) (by omega)) fun v5 G5 H5 g5 p5 => ?_
    obtain ⟨ch, rfl, _⟩ := p5
    refine st_asg (P := IV fun z => 0 ≤ z ∧ z < (n : Int)) g5.ok (ei_draw (n := (n : Int)) (cv rfl) (EF.ivp ex_c ⟨by omega, by omega⟩) (EF.iv ((ex_lenL (ex_var (v := .ref la) rfl) (Evl.sq_of (g5.up _ _ (g4.up _ _ l3)))).imp fun v _ _ p => by rw [show v = _ from p, List.length_map, hn]; rfl)) (by omega) (by omega)) fun v6 G6 H6 g6 p6 => ?_
    obtain ⟨ap, rfl, hap⟩ := p6
    obtain ⟨i, rfl⟩ : ∃ i : Nat, ap = (i : Int) := ⟨ap.toNat, by omega⟩
    have hi : i < n := by omega
    have st6 := (st0.up g5.hp).up g6.hp
    clear st0
    obtain ⟨σ0, hσ⟩ : ∃ σ0 : L2.St, σ0 = [some (.ref at'), some (.int c), some (.ref la), some (.ref ja), some (.ref pa), some (.int ch), some (.int (i : Int))] := ⟨_, rfl⟩
    have chv : ∀ {G' : Hp} {z : Int}, ET (tTest (tOp rEq (tVar 5) (tC (.int z)))) σ0 G' (· = decide (ch = z)) := fun {G' z} => by subst hσ; exact et_eqI (ex_var rfl) ex_c
    have rdl : ∀ {Gk : Hp} {u : Trk} {j : Nat} {z : Int} {te : TE}, EF te σ0 (upd Gk la (.lst (u.lens.map V.int))) (XV (.int (j : Int))) → u.lens[j]? = some z → EF (tOp (rIxL K) (tVar 2) te) σ0 (upd Gk la (.lst (u.lens.map V.int))) (XV (.int z)) := fun he hz => by subst hσ; exact ex_ixL (ex_var (v := .ref la) rfl) he rfl (Evl.sq_of upd_same) (by rw [List.getElem?_map, hz]; rfl)
    have rdt : ∀ {G' : Hp} {j : Nat} {z : Int} {te : TE}, Ex G G' → EF te σ0 G' (XV (.int (j : Int))) → t.lens[j]? = some z → EF (tOp (rIxL K) (tOp (rIxT K) (tVar 0) (tC (.int 0))) te) σ0 G' (XV (.int z)) := fun e he hz => by subst hσ; exact ex_ixL (tk (j := 0) e rfl hv0) he rfl (Evl.ex_l e s0) (by rw [List.getElem?_map, hz]; rfl)
    have v6e : ∀ {G' : Hp}, EF (tVar 6) σ0 G' (XV (.int (i : Int))) := fun {G'} => by subst hσ; exact ex_var rfl
    have lt : ∀ {u : Trk} {j : Nat}, u.lens.length = n → (∀ l ∈ u.lens, 1 ≤ l) → j < n → ∃ z, u.lens[j]? = some z ∧ 1 ≤ z := fun {u j} h1 h2 h3 => ⟨u.lens[j]'(by omega), List.getElem?_eq_getElem (by omega), h2 _ (List.getElem_mem _)⟩
    dsimp only
    change Evl.tCut _ _ _ [some (.ref at'), some (.int c), some (.ref la), some (.ref ja), some (.ref pa), some (.int ch), some (.int (i : Int))] _
    rw [← hσ]
    refine ⟨fun σ' H' => σ' = σ0 ∧ T3W K G H la ja pa n 0 H', ?_, ?_⟩
    · refine st_if st6.g.ok chv (fun h H7 e7 => ?_) (fun h H7 e7 => ⟨rfl, _, _, _, st6.up e7⟩)
      obtain ⟨z, hz, hz1⟩ := lt st6.ln st6.one hi
      exact st_setT (i := i) fr (st6.up e7) hi (by subst hσ; rfl) (fun H Q q => by subst hσ; exact ⟨_, rfl, q⟩) (ei_add (p := (· = z)) (q := (· = 1)) (EF.iv (rdl v6e hz)) (EF.iv ex_c) fun a b ha hb => by omega) fun H8 u s => ⟨rfl, _, _, u, s⟩
    rintro σ1 H7 ⟨rfl, Gk, vj, u, S⟩
    refine ⟨fun σ' H' => σ' = σ1 ∧ T3W K G H la ja pa n 1 H', ?_, ?_⟩
    · have eP := ex_know S.g.ok S.hp
      refine st_if (p := (· = decide (ch = 1 ∧ (i : Int) ∉ u.parks))) eP (et_andD chv fun _ => (et_niI v6e (EF.dv (v := .ref pa) (by subst hσ; exact ex_var rfl) (dp_mkL upd_same (dpa_ints _)))).imp fun b h => by rw [h, decide_not]) (fun h H8 e8 => ?_) (fun h H8 e8 => ⟨rfl, _, _, _, (S.up e8).wide (by omega)⟩)
      have S8 := S.up e8
      have fP := S8.fP
      refine st_app (P := XV (.int (i : Int))) S8.g.ok S8.hp (by subst hσ; exact ex_var rfl) v6e (by rw [List.length_map]; omega) fun v G9 H9 g9 p9 => ?_
      rw [show v = _ from p9]
      have S9 := S8.up g9.hp
      refine ⟨rfl, Gk, vj, ⟨u.lens, u.joints, u.parks ++ [(i : Int)]⟩, S9.g.put fr.p S9.kp, S9.kl, S9.kj, S9.kp, by rw [upd_ne fr.lp]; exact S9.hl, by rw [upd_ne fr.jp]; exact S9.hj, by rw [upd_same, List.map_append]; rfl, S9.d, S9.ln, S9.one, fun b m => ?_, S9.js.yards fun b m => List.mem_append.mpr (.inl m), S9.fJ, by rw [List.length_append, List.length_singleton]; omega⟩
      rcases List.mem_append.mp m with m | m
      · exact S9.inP b m
      · rw [List.mem_singleton.mp m]; omega
    rintro σ2 H8 ⟨rfl, Gk, vj, u, S⟩
    refine ⟨fun σ' H' => σ' = σ2 ∧ T3W K G H la ja pa n 1 H', ?_, ?_⟩
    · have eJ := ex_know S.g.ok S.hj
      have jl : vj.length = u.joints.length := by rw [dpa_len S.d, List.length_map]
      have fJ := S.fJ
      have lenJ : EF (tCB (Evl.rLenS K) (tCons (tVar 3) tNil)) σ2 (upd Gk ja (.lst vj)) (XV (.int (u.joints.length : Int))) := (ex_lenL (by subst hσ; exact ex_var (v := .ref ja) rfl) (Evl.sq_of upd_same)).imp fun v _ _ p => by rw [show v = _ from p, jl]; rfl
      refine st_if (p := (· = decide (ch = 2 ∧ (u.joints.length : Int) > 0))) eJ (et_andD chv fun _ => et_gtI lenJ ex_c) (fun h H9 e9 => ?_) (fun h H9 e9 => ⟨rfl, _, _, _, S.up e9⟩)
      have h := of_decide_eq_true h.symm
      have S9 := S.up e9
      refine ⟨.ref ja, by subst hσ; rfl, .inl ⟨rfl, _, Evl.sq_of S9.hj⟩, ei_draw (G := upd Gk ja (.lst vj)) (n := (u.joints.length : Int)) (by subst hσ; exact EF.ivp (ex_var (v := .int c) rfl) trivial) (EF.ivp ex_c ⟨by omega, by omega⟩) (EF.iv lenJ) (by omega) (by omega) H9 (eJ.trans e9) _ fun v G10 H10 g10 ⟨z, ez, hz⟩ => ?_⟩
      subst ez
      have S10 := S9.up g10.hp
      have hk : z.toNat < vj.length := by omega
      refine ⟨ja, vj, z, z.toNat, vj[z.toNat], rfl, rfl, S10.hj, by omega, by omega, PySem.seqIndex_of hz.1 (by omega), List.getElem?_eq_getElem hk, ?_⟩
      refine ⟨rfl, Gk, vj.eraseIdx z.toNat, ⟨u.lens, u.joints.eraseIdx z.toNat, u.parks⟩, S10.g.put fr.j S10.kj, S10.kl, S10.kj, S10.kp, by rw [upd_ne fr.lj]; exact S10.hl, upd_same, by rw [upd_ne fr.jp.symm]; exact S10.hp, ?_, S10.ln, S10.one, S10.inP, S10.js.sub (List.eraseIdx_sublist _ _), ?_, S10.fP⟩
      · show DpAll K Gk _ ((u.joints.eraseIdx z.toNat).map dP)
        have := dpa_erase z.toNat S10.d
        rw [erase_map'] at this
        exact this
      · exact Nat.le_trans (List.length_eraseIdx_le _ _) S10.fJ
    rintro σ3 H9 ⟨rfl, Gk, vj, u, S⟩
    refine ⟨fun σ' H' => σ' = σ3 ∧ T3W K G H la ja pa n 1 H', ?_, ?_⟩
    · refine st_if S.g.ok chv (fun h H10 e10 => ?_) (fun h H10 e10 => ⟨rfl, _, _, _, S.up e10⟩)
      obtain ⟨z, hz, hz1⟩ := lt hn ht.one (j := 0) (by omega)
      obtain ⟨y, hy, hy1⟩ := lt hn ht.one hi
      have up : ∀ {u : Trk}, Ex G (upd Gk la (.lst (u.lens.map V.int))) := S.g.up.trans (ex_in S.kl)
      refine st_setT (i := i) fr (S.up e10) hi (by subst hσ; rfl) (fun H Q q => by subst hσ; exact ⟨_, rfl, q⟩) (EF.ivp (rdt (j := 0) up ex_c hz) hz1) fun H11 u2 S2 => ?_
      exact st_setT (i := 0) fr S2 (by omega) (by subst hσ; rfl) (fun H Q q => q) (EF.ivp (rdt (j := i) up v6e hy) hy1) fun H12 u3 S3 => ⟨rfl, _, _, u3, S3⟩
    rintro σ4 H10 ⟨rfl, Gk, vj, u, S⟩
    refine ⟨fun σ' H' => σ' = σ4 ∧ ∃ m, n ≤ m ∧ m ≤ n + 1 ∧ T3W K G H la ja pa m 1 H', ?_, ?_⟩
    · refine st_if S.g.ok chv (fun h H11 e11 => ?_) (fun h H11 e11 => ⟨rfl, n, Nat.le_refl _, by omega, _, _, _, S.up e11⟩)
      have S11 := S.up e11
      have ln := S11.ln
      refine st_app (P := XV (.int 1)) S11.g.ok S11.hl (by subst hσ; exact ex_var rfl) ex_c (by rw [List.length_map]; omega) fun v G12 H12 g12 p12 => ?_
      rw [show v = _ from p12]
      have S12 := S11.up g12.hp
      refine ⟨rfl, n + 1, by omega, by omega, Gk, vj, ⟨u.lens ++ [1], u.joints, u.parks⟩, S12.g.put fr.l S12.kl, S12.kl, S12.kj, S12.kp, by rw [upd_same, List.map_append]; rfl, by rw [upd_ne fr.lj.symm]; exact S12.hj, by rw [upd_ne fr.lp.symm]; exact S12.hp, S12.d, by rw [List.length_append, S12.ln]; rfl, fun l m => ?_, fun b m => by have := S12.inP b m; omega, jok_mono S12.js (by omega), S12.fJ, S12.fP⟩
      rcases List.mem_append.mp m with m | m
      · exact S12.one l m
      · rw [List.mem_singleton.mp m]; omega
    rintro σ5 H11 ⟨rfl, m, m1, m2, Gk, vj, u, S⟩
    have k1 := (((S.g.know hG fr.l S.hl).know hG fr.j S.hj).know hG fr.p S.hp)
    have kj' : (upd Gk la (.lst (u.lens.map V.int))) ja = none := by rw [upd_ne fr.lj.symm]; exact S.kj
    have kp' : (upd (upd Gk la (.lst (u.lens.map V.int))) ja (.lst vj)) pa = none := by rw [upd_ne fr.jp.symm, upd_ne fr.lp.symm]; exact S.kp
    have eK : Ex Gk (upd (upd (upd Gk la (.lst (u.lens.map V.int))) ja (.lst vj)) pa (.lst (u.parks.map V.int))) := (ex_in S.kl).trans ((ex_in kj').trans (ex_in kp'))
    have tl : (upd (upd (upd Gk la (.lst (u.lens.map V.int))) ja (.lst vj)) pa (.lst (u.parks.map V.int))) la = some (.lst (u.lens.map V.int)) := by rw [upd_ne fr.lp, upd_ne fr.lj, upd_same]
    have tj : (upd (upd (upd Gk la (.lst (u.lens.map V.int))) ja (.lst vj)) pa (.lst (u.parks.map V.int))) ja = some (.lst vj) := by rw [upd_ne fr.jp, upd_same]
    have tp : (upd (upd (upd Gk la (.lst (u.lens.map V.int))) ja (.lst vj)) pa (.lst (u.parks.map V.int))) pa = some (.lst (u.parks.map V.int)) := upd_same
    have ln := S.ln
    have few := ht.few
    have sP := S.fP
    rw [hσ]
    refine st_ret (P := fun v G' => ∃ t', TkO t' ∧ Dp K G' v (dT t')) k1.ok (ef_tup (ea_three (Pa := DV K (dI u.lens)) (Pb := DV K (dPs u.joints)) (Pc := DV K (dI u.parks)) mo_DV mo_DV mo_DV (EF.dv (ex_var (v := .ref la) rfl) (dp_mkL tl (dpa_ints _))) (EF.dv (ex_var (v := .ref ja) rfl) (dp_mkL tj (dpax S.d eK))) (EF.dv (ex_var (v := .ref pa) rfl) (dp_mkL tp (dpa_ints _)))) (fun vs G' ⟨x, y, z, ev, _⟩ => by rw [ev]; simp) fun q vs G' _ _ hq ⟨x, y, z, ev, hx, hy, hz⟩ => ?_) fun v G' H' g p => k v G' H' (k1.trans g) p
    have ei := ex_in (o := .tup vs) hq
    refine ⟨u, ⟨by omega, by omega, S.one, by rw [ln]; exact S.inP, by omega, by rw [ln]; exact S.js, S.fJ⟩, dp_mkT upd_same ?_⟩
    rw [ev] at ei ⊢
    exact .cons (dpx hx ei) (.cons (dpx hy ei) (.cons (dpx hz ei) .nil))
end
end Kx

set_option Elab.async false
set_option linter.all false
set_option maxRecDepth 100000
set_option maxHeartbeats 16000000
namespace Kx
open PySem L2 Lw
open Evl (Ex)
abbrev s_law : Stmt := top 22
theorem sc_law : FnScope ["_law_script", "_law_track_here", "_law_mixed_here", "_law_tracks", "_law_handed", "_law_layouts", "_law_turn", "_law_thing", "_law_one", "_law_row", "_law_two"] ["_law_script"] (defScope s_law) := ⟨rfl, rfl, rfl, by decide +kernel, rfl, by decide +kernel, by decide +kernel⟩
section
variable {P : Program} {w : World} {K : PySem.W.Frag} {mg : Str → Option Value} {base : Heap} {C CN : Addr} {f : Addr} {fd : FuncData}
theorem perm_unmap {α β : Type} {f : α → β} : ∀ {es ms : List β}, es.Perm ms → ∀ l : List α, ms = l.map f → ∃ l' : List α, l'.Perm l ∧ es = l'.map f := fun h => by
  induction h with
  | nil =>
    intro l e
    cases l with
    | nil => exact ⟨[], .refl _, rfl⟩
    | cons x l => cases e
  | cons x _ ih =>
    intro l e
    cases l with
    | nil => cases e
    | cons y l =>
      obtain ⟨e1, e2⟩ := List.cons.inj e
      obtain ⟨l', p, q⟩ := ih l e2
      exact ⟨y :: l', p.cons y, by rw [List.map_cons, ← q, e1]⟩
  | swap x y r =>
    intro l e
    match l, e with
    | a :: b :: l, e =>
      obtain ⟨e1, e2⟩ := List.cons.inj e
      obtain ⟨e3, e4⟩ := List.cons.inj e2
      exact ⟨b :: a :: l, .swap a b l, by rw [List.map_cons, List.map_cons, e1, e3, e4]⟩
  | trans _ _ ih1 ih2 =>
    intro l e
    obtain ⟨l2, p2, e2⟩ := ih2 l e
    obtain ⟨l1, p1, e1⟩ := ih1 l2 e2
    exact ⟨l1, p1.trans p2, e1⟩
section
variable {σ : L2.St} {G H : Hp} {ta tb te tl to ti : TE} {D : Ends} {P : VP}
theorem st_forX {g : TG} {tu : TS} (hG : Ex G H) (h : EF tl σ G P) (k : ∀ v G1 H1, Gr G G1 H H1 → P v G1 → tFor (iList K (tC v)) g tu D σ H1) : tFor (iList K tl) g tu D σ H := h H hG _ fun v G1 H1 g1 p => k v G1 H1 g1 p
theorem st_put0 {q : Addr} {xs : List V} {y : V} (eG : Ex G H) (hto : EF to σ G (XV (.ref q))) (hq : H q = some (.lst xs)) (hx : 0 < xs.length) (k : ∀ H2, Ex H H2 → D.nx σ (upd H2 q (.lst (xs.set 0 y)))) : tAsg (tC y) (gSub to (tC (.int 0)) rSetL) D σ H :=
  hto H eG _ fun u G2 H2 g2 pu => by
    rw [show u = _ from pu]
    exact ⟨q, xs, 0, 0, rfl, rfl, g2.hp _ _ hq, ixN_nat (j := 0) hx, k H2 g2.hp⟩
theorem st_insO {q : Addr} {xs : List V} (eG : Ex G H) (hto : EF to σ G (XV (.ref q))) (hq : H q = some (.lst xs)) (hz : xs.length < 1000) (hv : EF te σ G P) (k : ∀ v G2 H2, Gr G G2 H H2 → D.nx σ (upd H2 q (.lst (v :: xs)))) : tDrop (tBM K "list" rIns to (tCons (tC (.int 0)) (tCons te tNil))) D σ H :=
  hto H eG _ fun u G1 H1 g1 pu => by
    cases (show u = .ref q from pu)
    refine ⟨.inl ⟨rfl, xs, Evl.sq_of (g1.hp _ _ hq)⟩, hv H1 (eG.trans g1.hp) _ fun v G2 H2 g2 _ => ?_⟩
    refine ⟨q, xs, 0, v, rfl, rfl, g2.hp _ _ (g1.hp _ _ hq), Nat.lt_of_lt_of_le hz (by decide), by omega, by omega, ?_⟩
    exact k v G2 H2 ((Gr.same eG g1.hp).trans g2)
theorem ex_eqOwn {p : Addr} {y : V} {t : Value} {b : Bool} (hp : EF ta σ G (XV (.ref p))) (hy : EF tb σ G (XV y)) (hI : ∃ dx fs, G p = some (.ins C dx fs)) (ty : ∀ H, Ex G H → OTy H y t) (nf : PySem.W.notFirst K C t = true) (hsp : ∀ G', Ex G G' → SA (spEqL K C) [.ref p, y] G' (XV (.bl b))) : EF (tOp (rEqOwn K C (spEqL K C) E0) ta tb) σ G (XV (.bl b)) :=
  ef_op mo_XV mo_XV hp hy fun x z G' e hx hz => by
    rw [show x = _ from hx, show z = _ from hz]
    obtain ⟨dx, fs, hI⟩ := hI
    exact fun H e2 Q q => ⟨p, dx, fs, t, rfl, e2 _ _ (e _ _ hI), ty H (e.trans e2), nf, hsp G' e H e2 _ E0 fun v G2 H2 g pv => ⟨b, pv, q _ G2 H2 g rfl⟩⟩
end
/-- a row that was handed on: itself, lengths, joints, yards -/
structure Rw where
  w : Addr
  a : Addr
  b : Addr
  c : Addr
structure RwAt (K : PySem.W.Frag) (t : Trk) (r : Rw) (G : Hp) : Prop where
  w : G r.w = some (.lst [.ref r.a, .ref r.b, .ref r.c])
  a : G r.a = some (.lst (t.lens.map V.int))
  b : ∃ xb, G r.b = some (.lst xb) ∧ DpAll K G xb (t.joints.map dP)
  c : G r.c = some (.lst (t.parks.map V.int))
theorem RwAt.ex {t : Trk} {r : Rw} {G G' : Hp} (h : RwAt K t r G) (e : Ex G G') : RwAt K t r G' := ⟨e _ _ h.w, e _ _ h.a, by obtain ⟨xb, h1, h2⟩ := h.b; exact ⟨xb, e _ _ h1, dpax h2 e⟩, e _ _ h.c⟩
def badOf (rs : List Rw) : List Addr := rs.flatMap fun r => [r.a, r.b, r.c]
theorem mem_bad {rs : List Rw} {x : Addr} : x ∈ badOf rs ↔ ∃ r ∈ rs, x = r.a ∨ x = r.b ∨ x = r.c := by simp [badOf]
structure RwsOk (GB : Hp) (rs : List Rw) : Prop where
  fr : ∀ r ∈ rs, GB r.w = none ∧ GB r.a = none ∧ GB r.b = none ∧ GB r.c = none
  ne : ∀ r ∈ rs, ∀ r' ∈ rs, r.a ≠ r'.w ∧ r.b ≠ r'.w ∧ r.c ≠ r'.w
def dropB (B : List Addr) (G : Hp) : Hp := fun a => if a ∈ B then none else G a
theorem dropB_in {B : List Addr} {G : Hp} {a : Addr} (h : a ∈ B) : dropB B G a = none := if_pos h
theorem dropB_out {B : List Addr} {G : Hp} {a : Addr} (h : a ∉ B) : dropB B G a = G a := if_neg h
theorem dropB_ex {B : List Addr} {G : Hp} : Ex (dropB B G) G := fun a o h => by
  by_cases m : a ∈ B
  · rw [dropB_in m] at h; cases h
  · rwa [dropB_out m] at h
def rowD (t : Trk) : PyData := .list [dI t.lens, dPs t.joints, dI t.parks]
theorem okb_rows {ts : List Trk} (h : ts.length ≤ 100) (ho : ∀ t ∈ ts, TkO t) : Okb 4 (.list (ts.map rowD)) := by
  have hI : ∀ {l : List Int}, l.length ≤ 1000 → Okb 2 (dI l) := fun {l} h => by
    unfold dI Okb
    refine ⟨by rw [List.length_map]; exact h, fun d m => ?_⟩
    obtain ⟨q, _, rfl⟩ := List.mem_map.mp m
    simp [Okb]
  unfold Okb
  refine ⟨by rw [List.length_map]; omega, fun d m => ?_⟩
  obtain ⟨t, mt, rfl⟩ := List.mem_map.mp m
  have q1 := (ho t mt).few
  have q2 := (ho t mt).fewJ
  have q3 := (ho t mt).fewP
  unfold rowD Okb
  refine ⟨by simp, fun d m => ?_⟩
  simp only [List.mem_cons, List.not_mem_nil, or_false] at m
  rcases m with rfl | rfl | rfl
  · exact hI (by omega)
  · unfold dPs Okb
    refine ⟨by rw [List.length_map]; omega, fun d m => ?_⟩
    obtain ⟨q, _, rfl⟩ := List.mem_map.mp m
    unfold dP Okb
    exact ⟨by simp, fun d m => by simp at m; rcases m with rfl | rfl <;> simp [Okb]⟩
  · exact hI (by omega)
theorem tko_of {t : Trk} (h : TrkOk t) (h7 : t.lens.length ≤ 7) (hj : t.joints.length ≤ 14) : TkO t := ⟨h.pos, by omega, h.one, h.inP, by have := h.fewP; omega, h.js, by omega⟩
theorem tko_mix {t : Trk} {js : List (Int × Int)} {ps : List Int} (h : TkO t) (hp : t.parks.length ≤ 200) (pj : js.Perm t.joints) (pp : ps.Perm t.parks) : TkO ⟨t.lens, js, ps ++ ps.take 1⟩ := by
  have inp : ∀ b ∈ ps ++ ps.take 1, b ∈ t.parks := fun b m => by
    rcases List.mem_append.mp m with m | m
    · exact pp.mem_iff.mp m
    · exact pp.mem_iff.mp (List.mem_of_mem_take m)
  refine ⟨h.pos, h.few, h.one, fun b m => h.inP b (inp b m), ?_, (jok_perm h.js pj).parks fun b _ _ m => List.mem_append.mpr (.inl (pp.mem_iff.mpr m)), by rw [pj.length_eq]; exact h.fewJ⟩
  show (ps ++ ps.take 1).length ≤ 210
  rw [List.length_append, List.length_take, pp.length_eq]
  omega
end
end Kx

set_option Elab.async false
set_option linter.all false
set_option maxRecDepth 100000
set_option maxHeartbeats 16000000
namespace Kx
open PySem L2 Lw
open Evl (Ex)
section
variable {P : Program} {w : World} {K : PySem.W.Frag} {mg : Str → Option Value} {base : Heap} {C CN : Addr} {f : Addr} {fd : FuncData}
def spLaw (K : PySem.W.Frag) : Sp := fun vs H Q _ => ∃ (a : Addr) (ns : List Int), vs = [.ref a] ∧ SqL K H a (ns.map V.int) ∧ ns.length ≤ 63 ∧ ∀ H', Q (.bl true) H'
def TH (K : PySem.W.Frag) : VP := fun v G => ∃ n, n ∈ (["NoneType", "bool", "int", "str", "list", "tuple"] : List String) ∧ ∀ H, Ex G H → OTy H v (.type n) ∧ TyX K H v (.type n)
theorem mo_TH : Mo (TH K) := fun v G G' e ⟨n, hn, h⟩ => ⟨n, hn, fun H e2 => h H (e.trans e2)⟩
theorem ea_th {σ : L2.St} {G : Hp} {ta : TE} {tr : TA} {n : Nat} (ha : EF ta σ G (TH K)) (hr : EA tr σ G fun vs G' => vs.length = n ∧ ∀ v ∈ vs, TH K v G') : EA (tCons ta tr) σ G fun vs G' => vs.length = n + 1 ∧ ∀ v ∈ vs, TH K v G' :=
  ea_cons (Pa := TH K) mo_TH (fun vs G G' e ⟨h1, h2⟩ => ⟨h1, fun v m => mo_TH _ _ _ e (h2 v m)⟩) ha hr fun x xs G' _ hx ⟨h1, h2⟩ => ⟨by rw [List.length_cons, h1], fun v m => by
    rcases List.mem_cons.mp m with rfl | m
    · exact hx
    · exact h2 v m⟩
theorem ef_tupT {σ : L2.St} {G : Hp} {ta : TE} {a : Addr} {xs : List V} (ha : EF ta σ G (XV (.ref a))) (hs : SqL K G a xs) : EF (tCB (rTupOf K) (tCons ta tNil)) σ G fun v G' => ∃ p, v = .ref p ∧ G' p = some (.tup xs) := fun H e Q q => ha H e _ fun x G1 H1 g1 p => by
  cases (show x = _ from p)
  exact ⟨a, xs, rfl, .inl ⟨Evl.ex_l (g1.up.trans g1.ok) hs, fun l hl => q _ _ _ (g1.trans (.new g1.ok hl)) ⟨l, rfl, upd_same⟩⟩⟩
theorem dpa_all {G : Hp} : ∀ {vs : List V} {ds : List PyData}, vs.length = ds.length → (∀ (j : Nat) v d, vs[j]? = some v → ds[j]? = some d → Dp K G v d) → DpAll K G vs ds
  | [], [], _, _ => .nil
  | [], _ :: _, h, _ => by cases h
  | _ :: _, [], h, _ => by cases h
  | v :: vs, d :: ds, h, k => .cons (k 0 v d rfl rfl) (dpa_all (by simpa using h) fun j v d h1 h2 => k (j + 1) v d h1 h2)
theorem ok_law {gg : List Value → List Value → List Value} (T : Cl K C) (B : Blt mg) (F : Fun K "law" "law" s_law f fd) (Cc : Cal P w K mg base "_law_cell" 1 ["_law_script", "_law_k"] (Lw.spCell K)) (Ct : Cal P w K mg base "_law_track" 2 ["_law_cell_here", "_law_most"] (spTrackB K)) (Cm : Cal P w K mg base "_law_mixed" 2 ["_law_row", "_law_cell_here"] (spMix K)) (Cg : Cal P w K mg base "_law_changed" 2 ["_law_track_here", "_law_cell_here"] (spChg K))
    (Ci : ∃ fI fdI, Mk K C fI ∧ FnOk P w K mg base CX0 5 fI fdI ["self", "lengths", "joints", "yards"] (spInitM K C) ∧ KBn K fdI ["self", "lengths", "joints", "yards"] 3 ["yards"] gg (fun vs zs => vs ++ zs) ∧ mg "Layout" = some (.ref C))
    (Cs : Cal P w K mg base "_law_same" 5 ["_law_actual", "_law_wanted_here"] (spSameB K 4)) (Cf : Cal P w K mg base "_law_fits" 9 ["_law_layout", "_law_track_here"] (spFit K C)) (Ca : Cal P w K mg base "_law_alike" 1 ["_law_track_here", "_law_other"] (spAlk K)) (Cl' : Cal P w K mg base "_law_lists" 8 ["_law_layout", "_law_size"] (spLst K C))
    (Ce : ∃ fE fdE, FnOk P w K mg base CX0 1 fE fdE ["self", "other"] (spEqL K C) ∧ PySem.W.findIn K (.ref C) "__eq__" = some (some (.ref fE)) ∧ PySem.W.isFn K (.ref fE) = true ∧ Binds K fdE ["self", "other"] [])
    (nC : PySem.W.notFirst K C (.ref C) = true) (hty : ∀ n ∈ (["NoneType", "bool", "int", "str", "list", "tuple"] : List String), PySem.W.notFirst K C (.type n) = true ∧ PySem.W.kitOne K (.type n) (.ref C) = some false) : FnOk P w K mg base CX0 10 f fd ["_law_script"] (spLaw K) := by
  obtain ⟨f1, fd1, G_cell, m_cell, k_cell, b_cell⟩ := Cc
  obtain ⟨f3, fd3, G_track, m_track, k_track, b_track⟩ := Ct
  obtain ⟨f4, fd4, G_mixed, m_mixed, k_mixed, b_mixed⟩ := Cm
  obtain ⟨f5, fd5, G_changed, m_changed, k_changed, b_changed⟩ := Cg
  obtain ⟨fI, fdI, M_Layout, G_init, b_init, m_Layout⟩ := Ci
  obtain ⟨f9, fd9, G_same, m_same, k_same, b_same⟩ := Cs
  obtain ⟨f10, fd10, G_fits, m_fits, k_fits, b_fits⟩ := Cf
  obtain ⟨f11, fd11, G_alike, m_alike, k_alike, b_alike⟩ := Ca
  obtain ⟨f12, fd12, G_lists, m_lists, k_lists, b_lists⟩ := Cl'
  obtain ⟨fE, fdE, G_eq, e_eq, i_eq, b_eq⟩ := Ce
  have m_len := B.len
  have m_list := B.list
  have m_range := B.range
  have m_tuple := B.tuple
  refine F.ok sc_law (fun vs H Q E h => ?_) (fun cdv A outer s H vs Q E hr h => ?_)
  · obtain ⟨a, ns, rfl, _⟩ := h
    rfl
  · obtain ⟨a, ss, rfl, hS, hss, k⟩ := h
    refine ⟨_, (pss_cons (ps_set (i := 1) sc_law.nd rfl (by first | exact Or.inl rfl | exact Or.inr rfl) (pe_call G_track (hr.mono (by decide)) rfl m_track k_track b_track .nil pass0 (pa_cons (pe_call G_cell (hr.mono (by decide)) rfl m_cell k_cell b_cell .nil pass0 (pa_cons (pv 0) (pa_cons pe_int pa_nil))) (pa_cons pe_int pa_nil))))
 (pss_cons (ps_set (i := 2) sc_law.nd rfl (by first | exact Or.inl rfl | exact Or.inr rfl) (pe_call G_mixed (hr.mono (by decide)) rfl m_mixed k_mixed b_mixed .nil pass0 (pa_cons (pe_ix ix_tup (pv 1) pe_int (fun _ _ => rfl)) (pa_cons (pe_call G_cell (hr.mono (by decide)) rfl m_cell k_cell b_cell .nil pass0 (pa_cons (pv 0) (pa_cons pe_int pa_nil))) pa_nil))))
 (pss_cons (ps_set (i := 3) sc_law.nd rfl (by first | exact Or.inl rfl | exact Or.inr rfl) (pe_lst (pa_cons (pv 1) (pa_cons (pe_tup (pa_cons (pe_ix ix_tup (pv 1) pe_int (fun _ _ => rfl)) (pa_cons (pe_call G_mixed (hr.mono (by decide)) rfl m_mixed k_mixed b_mixed .nil pass0 (pa_cons (pe_ix ix_tup (pv 1) pe_int (fun _ _ => rfl)) (pa_cons (pe_call G_cell (hr.mono (by decide)) rfl m_cell k_cell b_cell .nil pass0 (pa_cons (pv 0) (pa_cons pe_int pa_nil))) pa_nil))) (pa_cons (pe_op op_cat (pv 2) (pe_slice sl_list (pv 2) po_none (po_some pe_int))) pa_nil)))) pa_nil))))
 (pss_cons (ps_set (i := 3) sc_law.nd rfl (by first | exact Or.inl rfl | exact Or.inr rfl) (pe_op op_cat (pv 3) (pe_lst (pa_cons (pe_call G_changed (hr.mono (by decide)) rfl m_changed k_changed b_changed .nil pass0 (pa_cons (pv 1) (pa_cons (pe_call G_cell (hr.mono (by decide)) rfl m_cell k_cell b_cell .nil pass0 (pa_cons (pv 0) (pa_cons pe_int pa_nil))) pa_nil))) (pa_cons (pe_call G_track (hr.mono (by decide)) rfl m_track k_track b_track .nil pass0 (pa_cons (pe_call G_cell (hr.mono (by decide)) rfl m_cell k_cell b_cell .nil pass0 (pa_cons (pv 0) (pa_cons pe_int pa_nil))) (pa_cons pe_int pa_nil))) pa_nil)))))
 (pss_cons (ps_setLc (i := 4) (own := [("_law_row", 9)]) (g := gName 9) (tt := tYes) (te := (tLst (tCons (tCB (Evl.rListS K) (tCons (tOp (rIxT K) (tVar 9) (tC (.int 0))) tNil)) (tCons (tCB (Evl.rListS K) (tCons (tOp (rIxT K) (tVar 9) (tC (.int 1))) tNil)) (tCons (tCB (Evl.rListS K) (tCons (tOp (rIxT K) (tVar 9) (tC (.int 2))) tNil)) tNil))))) rfl sc_law.nd rfl rfl (sw_true rfl rfl rfl (by decide +kernel)) (pi_list (pv 3)) (blkOk_by (N := ["_law_script", "_law_track_here", "_law_mixed_here", "_law_tracks", "_law_handed", "_law_layouts", "_law_turn", "_law_thing", "_law_one", "_law_row", "_law_two"]) (sc := defScope s_law) (by decide +kernel)) (fun _ _ _ _ _ => pg_name (i := 9) sc_law.nd rfl (Or.inl rfl)) (fun _ _ _ _ _ => pts_nil) (fun _ _ _ _ _ => (pe_lst (pa_cons (pe_callTy call_list_of (by rfl) m_list (by decide +kernel) (pa_cons (pe_ix ix_tup (pv 9) pe_int (fun _ _ => rfl)) pa_nil)) (pa_cons (pe_callTy call_list_of (by rfl) m_list (by decide +kernel) (pa_cons (pe_ix ix_tup (pv 9) pe_int (fun _ _ => rfl)) pa_nil)) (pa_cons (pe_callTy call_list_of (by rfl) m_list (by decide +kernel) (pa_cons (pe_ix ix_tup (pv 9) pe_int (fun _ _ => rfl)) pa_nil)) pa_nil))))))
 (pss_cons (ps_setLc (i := 5) (own := [("_law_row", 9)]) (g := gName 9) (tt := tYes) (te := (tMakeK C 2 (["yards"] : List Str).length (spInitM K C) (fun vs zs => vs ++ zs) E0 (tCons (tOp (rIxL K) (tVar 9) (tC (.int 0))) (tCons (tOp (rIxL K) (tVar 9) (tC (.int 1))) tNil)) (tCons (tOp (rIxL K) (tVar 9) (tC (.int 2))) tNil))) rfl sc_law.nd rfl rfl (sw_true rfl rfl rfl (by decide +kernel)) (pi_list (pv 4)) (blkOk_by (N := ["_law_script", "_law_track_here", "_law_mixed_here", "_law_tracks", "_law_handed", "_law_layouts", "_law_turn", "_law_thing", "_law_one", "_law_row", "_law_two"]) (sc := defScope s_law) (by decide +kernel)) (fun _ _ _ _ _ => pg_name (i := 9) sc_law.nd rfl (Or.inl rfl)) (fun _ _ _ _ _ => pts_nil) (fun _ _ _ _ _ => (pe_makeK M_Layout G_init (hr.mono (by decide)) rfl m_Layout b_init pass0 (pa_cons (pe_ix ix_list (pv 9) pe_int (fun _ _ => rfl)) (pa_cons (pe_ix ix_list (pv 9) pe_int (fun _ _ => rfl)) pa_nil)) (pk_cons (pe_ix ix_list (pv 9) pe_int (fun _ _ => rfl)) pk_nil))))
 (pss_cons (ps_if (pt_not (pt_val (pe_call G_same (hr.mono (by decide)) rfl m_same k_same b_same .nil pass0 (pa_cons (pv 4) (pa_cons (pe_lc (own := [("_law_row", 9)]) (g := gName 9) (tt := tYes) (te := (tLst (tCons (tOp (rIxT K) (tVar 9) (tC (.int 0))) (tCons (tOp (rIxT K) (tVar 9) (tC (.int 1))) (tCons (tOp (rIxT K) (tVar 9) (tC (.int 2))) tNil))))) rfl sc_law.nd (pi_list (pv 3)) (blkOk_by (N := ["_law_script", "_law_track_here", "_law_mixed_here", "_law_tracks", "_law_handed", "_law_layouts", "_law_turn", "_law_thing", "_law_one", "_law_row", "_law_two"]) (sc := defScope s_law) (by decide +kernel)) (fun _ _ _ _ _ => pg_name (i := 9) sc_law.nd rfl (Or.inl rfl)) (fun _ _ _ _ _ => pts_nil) (fun _ _ _ _ _ => (pe_lst (pa_cons (pe_ix ix_tup (pv 9) pe_int (fun _ _ => rfl)) (pa_cons (pe_ix ix_tup (pv 9) pe_int (fun _ _ => rfl)) (pa_cons (pe_ix ix_tup (pv 9) pe_int (fun _ _ => rfl)) pa_nil)))))) pa_nil)))))
 (pss_one (ps_ret pe_bl)) pss_nil)
 (pss_cons (ps_for PassesOwn.never rfl (pi_range1 rfl m_range (pa_cons pe_int pa_nil)) (pg_name (i := 6) sc_law.nd rfl (by first | exact Or.inl rfl | exact Or.inr rfl))
 (pss_cons (ps_for PassesOwn.never rfl (pi_range1 rfl m_range (pa_cons pe_int pa_nil)) (pg_name (i := 8) sc_law.nd rfl (by first | exact Or.inl rfl | exact Or.inr rfl))
 (pss_cons (ps_if (pt_not (pt_val (pe_call G_fits (hr.mono (by decide)) rfl m_fits k_fits b_fits .nil pass0 (pa_cons (pe_ix ix_list (pv 5) (pv 8) (fun _ _ => rfl)) (pa_cons (pe_ix ix_list (pv 3) (pv 8) (fun _ _ => rfl)) pa_nil)))))
 (pss_one (ps_ret pe_bl)) pss_nil)
 (pss_one (ps_for PassesOwn.never rfl (pi_range1 rfl m_range (pa_cons pe_int pa_nil)) (pg_name (i := 10) sc_law.nd rfl (by first | exact Or.inl rfl | exact Or.inr rfl))
 (pss_one (ps_if (pt_not (pt_val (pe_call G_same (hr.mono (by decide)) rfl m_same k_same b_same .nil pass0 (pa_cons (pe_cmpR (op_eqOwn e_eq i_eq G_eq (hr.mono (by decide)) b_eq pass0) (pe_ix ix_list (pv 5) (pv 8) (fun _ _ => rfl)) (pe_ix ix_list (pv 5) (pv 10) (fun _ _ => rfl)) (nomark _)) (pa_cons (pe_call G_alike (hr.mono (by decide)) rfl m_alike k_alike b_alike .nil pass0 (pa_cons (pe_ix ix_list (pv 3) (pv 8) (fun _ _ => rfl)) (pa_cons (pe_ix ix_list (pv 3) (pv 10) (fun _ _ => rfl)) pa_nil))) pa_nil)))))
 (pss_one (ps_ret pe_bl)) pss_nil))))))
 (pss_cons (ps_for PassesOwn.never rfl (pi_list (pv 4)) (pg_name (i := 9) sc_law.nd rfl (by first | exact Or.inl rfl | exact Or.inr rfl))
 (pss_cons (ps_asg pe_int (pg_sub (pe_ix ix_list (pv 9) pe_int (fun _ _ => rfl)) pe_int set_list))
 (pss_cons (ps_expr (pe_bm PySem.F.plainAttrs_list PySem.F.slot_list_append PySem.F.type_list_append mt_append (pe_ix ix_list (pv 9) pe_int (fun _ _ => rfl)) (pa_cons pe_int pa_nil)))
 (pss_cons (ps_expr (pe_bm PySem.F.plainAttrs_list PySem.F.slot_list_insert PySem.F.type_list_insert mt_insert (pe_ix ix_list (pv 9) pe_int (fun _ _ => rfl)) (pa_cons pe_int (pa_cons (pe_tup (pa_cons pe_int (pa_cons pe_int pa_nil))) pa_nil))))
 (pss_one (ps_expr (pe_bm PySem.F.plainAttrs_list PySem.F.slot_list_append PySem.F.type_list_append mt_append (pe_ix ix_list (pv 9) pe_int (fun _ _ => rfl)) (pa_cons pe_int pa_nil))))))))
 (pss_one (ps_for PassesOwn.never rfl (pi_list (pe_call G_lists (hr.mono (by decide)) rfl m_lists k_lists b_lists .nil pass0 (pa_cons (pe_ix ix_list (pv 5) pe_int (fun _ _ => rfl)) (pa_cons (pe_callB call_len_seq (by rfl) m_len PySem.boot_len (pa_cons (pe_ix ix_tup (pv 1) pe_int (fun _ _ => rfl)) pa_nil)) pa_nil)))) (pg_name (i := 9) sc_law.nd rfl (by first | exact Or.inl rfl | exact Or.inr rfl))
 (pss_cons (ps_expr (pe_bm PySem.F.plainAttrs_list PySem.F.slot_list_append PySem.F.type_list_append mt_append (pv 9) (pa_cons pe_int pa_nil)))
 (pss_one (ps_asg pe_int (pg_sub (pv 9) pe_int set_list)))))))))
 (pss_cons (ps_for PassesOwn.never rfl (pi_list (pe_lst (pa_cons pe_non (pa_cons pe_bl (pa_cons pe_int (pa_cons pe_str (pa_cons (pe_callTy call_list_of (by rfl) m_list (by decide +kernel) (pa_cons (pe_ix ix_tup (pv 1) pe_int (fun _ _ => rfl)) pa_nil)) (pa_cons (pe_callTy (T := "tuple") (call_tupK (K := K) rfl) (by rfl) m_tuple (by decide +kernel) (pa_cons (pe_ix ix_tup (pv 1) pe_int (fun _ _ => rfl)) pa_nil)) pa_nil)))))))) (pg_name (i := 7) sc_law.nd rfl (by first | exact Or.inl rfl | exact Or.inr rfl))
 (pss_one (ps_if (pt_not (pt_val (pe_call G_same (hr.mono (by decide)) rfl m_same k_same b_same .nil pass0 (pa_cons (pe_cmpR (op_eqOwn e_eq i_eq G_eq (hr.mono (by decide)) b_eq pass0) (pe_ix ix_list (pv 5) pe_int (fun _ _ => rfl)) (pv 7) (nomark _)) (pa_cons pe_bl pa_nil)))))
 (pss_one (ps_ret pe_bl)) pss_nil)))
 (pss_one (ps_ret pe_bl))))))))))), ?_⟩
    have cellv : ∀ {j : Int} {σ : L2.St} {G' : Hp} {te : TE}, Ex H G' → σ[0]? = some (some (.ref a)) → EF te σ G' (XV (.int j)) → 0 ≤ j → j < 1000 → EF (tCall (Lw.spCell K) [] E0 (tCons (tVar 0) (tCons te tNil))) σ G' (IV fun _ => True) := fun e h he h0 h1 => ex_call2 (ex_var h) he fun G2 e2 => sa_cell (Evl.ex_l (e.trans e2) hS) hss h0 h1
    have trk : ∀ {j : Int} {σ : L2.St} {G' : Hp}, Ex H G' → σ[0]? = some (some (.ref a)) → 0 ≤ j → j < 1000 → EF (tCall (spTrackB K) [] E0 (tCons (tCall (Lw.spCell K) [] E0 (tCons (tVar 0) (tCons (tC (.int j)) tNil))) (tCons (tC (.int 7)) tNil))) σ G' (fun v G2 => ∃ t, TkO t ∧ t.lens.length ≤ 9 ∧ t.parks.length ≤ 200 ∧ Dp K G2 v (dT t)) := fun {j σ G'} e h h0 h1 => (ef_call (P := TVB K 7) (ea_two mo_IV mo_XV (cellv e h ex_c h0 h1) (ex_c (v := .int 7))) fun vs G' _ ⟨x, y, ev, ⟨z, ez, _⟩, hy⟩ => by
      subst ev ez
      rw [show y = _ from hy]
      exact sa_trackB (by omega) (by omega)).imp fun v G2 _ ⟨t, h1, h2, h3, h4⟩ => ⟨t, tko_of h1 (by omega) (by omega), by omega, h1.fewP, h4⟩
    refine st_asg (P := fun v G2 => ∃ t, TkO t ∧ t.lens.length ≤ 9 ∧ t.parks.length ≤ 200 ∧ Dp K G2 v (dT t)) (Ex.refl H) (trk (Ex.refl H) rfl (by omega) (by omega)) fun v1 G1 H1 g1 ⟨t, ht, h9, h200, d1⟩ => ?_
    obtain ⟨at', xs, rfl, hs, hd⟩ := dp_tup d1
    obtain ⟨v0, hv0, d0⟩ := dpa_get' (i := 0) (d := dI t.lens) hd rfl
    obtain ⟨v1, hv1, dj1⟩ := dpa_get' (i := 1) (d := dPs t.joints) hd rfl
    obtain ⟨v2, hv2, dp1⟩ := dpa_get' (i := 2) (d := dI t.parks) hd rfl
    obtain ⟨aj, xj, rfl, sj, qj⟩ := dp_lst dj1
    obtain ⟨ap, xp, rfl, sp, qp⟩ := dp_lst dp1
    have fJ := ht.fewJ
    have tk : ∀ {σ : L2.St} {G' : Hp} {j : Nat} {v : V}, Ex G1 G' → σ[1]? = some (some (.ref at')) → xs[j]? = some v → EF (tOp (rIxT K) (tVar 1) (tC (.int (j : Int)))) σ G' (XV v) := fun e h hv => ex_ixT (ex_var h) ex_c (Evl.ex_t e hs) hv
    refine st_asg (P := fun v G' => ∃ ps : List Int, ps.Perm t.parks ∧ LS K (ps.map PyData.int) v G') g1.ok (ef_call (ea_two mo_XV mo_IV (tk (j := 2) (Ex.refl _) rfl hv2) (cellv g1.up rfl ex_c (by omega) (by omega))) fun vs G' e' ⟨x, y, ev, hx, ⟨z, ez, _⟩⟩ => ?_) fun v2 G2 H2 g2 ⟨ps, hps, lps⟩ => ?_
    · subst ev ez
      rw [show x = _ from hx]
      refine SA.imp (P := fun v G' => ∃ es : List PyData, es.Perm (t.parks.map PyData.int) ∧ LS K es v G') (fun H e Q _ q => ⟨G', ap, xp, _, z, e, rfl, Evl.ex_l e' sp, dpax qp e', by rw [List.length_map]; omega, q⟩) fun v G2 ⟨es, h1, h2⟩ => ?_
      obtain ⟨l', h3, h4⟩ := perm_unmap h1 _ rfl
      exact ⟨l', h3, by rw [← h4]; exact h2⟩
    have e12 := g2.up
    have psl : ps.length ≤ 200 := by rw [hps.length_eq]; exact h200
    refine st_asg (P := fun v G' => ∃ t1, TkO t1 ∧ LS K ([t, t1].map dT) v G') g2.ok (ef_lst (ea_two (Pa := DV K (dT t)) (Pb := fun v G' => ∃ t1, TkO t1 ∧ Dp K G' v (dT t1)) mo_DV (fun _ _ _ e ⟨t1, h1, h2⟩ => ⟨t1, h1, dpx h2 e⟩) (ef_var (v := .ref at') rfl (dpx d1 e12)) (ef_tup (ea_three (Pa := DV K (dI t.lens)) (Pb := fun v G' => ∃ js : List (Int × Int), js.Perm t.joints ∧ LS K (js.map dP) v G') (Pc := LS K ((ps ++ ps.take 1).map PyData.int)) mo_DV (fun _ _ _ e ⟨js, h1, h2⟩ => ⟨js, h1, mo_LS _ _ _ e h2⟩) mo_LS (EF.dv (tk (j := 0) e12 rfl hv0) (dpx d0 e12)) (ef_call (ea_two mo_XV mo_IV (tk (j := 1) e12 rfl hv1) (cellv (g1.up.trans e12) rfl ex_c (by omega) (by omega))) fun vs G' e' ⟨x, y, ev, hx, ⟨z, ez, _⟩⟩ => ?_) (by
      rw [List.map_append, List.map_take]
      exact el_cat (ef_var (v := v2) rfl lps) (el_to (k := 1) (ef_var (v := v2) rfl lps.dp) (ex_c (v := .int 1))) (by rw [List.length_take, List.length_map]; omega))) (fun vs G' ⟨x, y, z, ev, _⟩ => by rw [ev]; simp) fun q vs G' _ _ hq ⟨x, y, z, ev, hx, ⟨js, pj, hy⟩, hz⟩ => ?_)) (fun vs G' ⟨x, y, ev, _⟩ => by rw [ev]; simp) fun q vs G' _ _ hq ⟨x, y, ev, hx, ⟨t1, h1, hy⟩⟩ => ?_) fun v3 G3 H3 g3 ⟨t1, ht1, l31⟩ => ?_
    · subst ev ez
      rw [show x = _ from hx]
      refine SA.imp (P := fun v G' => ∃ es : List PyData, es.Perm (t.joints.map dP) ∧ LS K es v G') (fun H e Q _ q => ⟨G', aj, xj, _, z, e, rfl, Evl.ex_l (e12.trans e') sj, dpax qj (e12.trans e'), by rw [List.length_map]; omega, q⟩) fun v G2 ⟨es, h1, h2⟩ => ?_
      obtain ⟨l', h3, h4⟩ := perm_unmap h1 _ rfl
      exact ⟨l', h3, by rw [← h4]; exact h2⟩
    · have ei := ex_in (o := .tup vs) hq
      have dx := dpx hx ei
      have dy := dpx hy.dp ei
      have dz := dpx hz.dp ei
      exact ⟨⟨t.lens, js, ps ++ ps.take 1⟩, tko_mix ht h200 pj hps, dp_mkT upd_same (by rw [ev] at dx dy dz ⊢; exact .cons dx (.cons dy (.cons dz .nil)))⟩
    · have ei := ex_in (o := .lst vs) hq
      have dx := dpx hx ei
      have dy := dpx hy ei
      exact ⟨t1, h1, q, vs, rfl, upd_same, by rw [ev] at dx dy ⊢; exact .cons dx (.cons dy .nil)⟩
    have e13 := e12.trans g3.up
    have g13 : Gr H G3 H H3 := (g1.trans g2).trans g3
    refine st_asg (P := fun v G' => ∃ t2 t3, TkO t2 ∧ TkO t3 ∧ LS K ([t, t1, t2, t3].map dT) v G') g3.ok (ef_op (Pa := LS K ([t, t1].map dT)) (Pb := fun v G' => ∃ t2 t3, TkO t2 ∧ TkO t3 ∧ LS K ([t2, t3].map dT) v G') mo_LS (fun _ _ _ e ⟨t2, t3, h1, h2, h3⟩ => ⟨t2, t3, h1, h2, mo_LS _ _ _ e h3⟩) (ef_var (v := v3) rfl l31) (ef_lst (ea_two (Pa := fun v G' => ∃ t', TkO t' ∧ Dp K G' v (dT t')) (Pb := fun v G2 => ∃ t, TkO t ∧ t.lens.length ≤ 9 ∧ t.parks.length ≤ 200 ∧ Dp K G2 v (dT t)) (fun _ _ _ e ⟨t1, h1, h2⟩ => ⟨t1, h1, dpx h2 e⟩) (fun _ _ _ e ⟨t1, h1, h2, h3, h4⟩ => ⟨t1, h1, h2, h3, dpx h4 e⟩) (ef_call (ea_two mo_XV mo_IV (ex_var (v := .ref at') rfl) (cellv g13.up rfl ex_c (by omega) (by omega))) fun vs G' e' ⟨x, y, ev, hx, ⟨z, ez, _⟩⟩ => ?_) (trk g13.up rfl (by omega) (by omega))) (fun vs G' ⟨x, y, ev, _⟩ => by rw [ev]; simp) fun q vs G' _ _ hq ⟨x, y, ev, ⟨t2, h1, hx⟩, ⟨t3, h2, _, _, hy⟩⟩ => ?_) fun x y G' e ⟨l, xs1, ex, hh1, dd1⟩ ⟨t2, t3, h1, h2, b, ys, ey, hh2, dd2⟩ => fun H e2 Q kk => ⟨l, b, xs1, ys, ex, ey, e2 _ _ hh1, e2 _ _ hh2, by rw [dpa_len dd1, dpa_len dd2]; exact Nat.le_trans (m := 4) (by simp) (by decide), fun p hp => kk _ _ _ (.new e2 hp) ⟨t2, t3, h1, h2, p, _, rfl, upd_same, dpa_apd (ds := [t, t1].map dT) (es := [t2, t3].map dT) (dpax dd1 (ex_in (none_back e2 hp))) (dpax dd2 (ex_in (none_back e2 hp)))⟩⟩) fun v3' G4 H4 g4 ⟨t2, t3, ht2, ht3, l34⟩ => ?_
    · subst ev ez
      rw [show x = _ from hx]
      exact fun H e Q _ q => ⟨G', .ref at', t, z, e, rfl, dpx d1 (e13.trans e'), ht, h9, h200, q⟩
    · have ei := ex_in (o := .lst vs) hq
      have dx := dpx hx ei
      have dy := dpx hy ei
      exact ⟨t2, t3, h1, h2, q, vs, rfl, upd_same, by rw [ev] at dx dy ⊢; exact .cons dx (.cons dy .nil)⟩
    obtain ⟨ts, hts⟩ : ∃ ts : List Trk, ts = [t, t1, t2, t3] := ⟨_, rfl⟩
    rw [← hts] at l34
    have tlen : ts.length = 4 := by rw [hts]; rfl
    have tok : ∀ u ∈ ts, TkO u := fun u m => by
      rw [hts] at m
      simp only [List.mem_cons, List.not_mem_nil, or_false] at m
      rcases m with rfl | rfl | rfl | rfl <;> assumption
    have t0 : ts[0]? = some t := by rw [hts]; rfl
    obtain ⟨l3, x3, rfl, hl3, q3⟩ := l34
    have x3l : x3.length = 4 := by rw [dpa_len q3, List.length_map, tlen]
    have g14 := g13.trans g4
    have dt4 := dpx d1 (e13.trans g4.up)
    have row3 : ∀ {i : Nat} {y : V}, x3[i]? = some y → ∃ u, ts[i]? = some u ∧ TkO u ∧ Dp K G4 y (dT u) := fun {i y} hy => by
      obtain ⟨d, hd1, dy⟩ := dpa_get q3 hy
      rw [List.getElem?_map] at hd1
      obtain ⟨u, hu, rfl⟩ := Option.map_eq_some_iff.mp hd1
      exact ⟨u, hu, tok u (List.mem_of_getElem? hu), dy⟩
    refine st_asg (P := fun v G' => ∃ l rs, v = .ref l ∧ G' l = some (.lst (rs.map fun r : Rw => V.ref r.w)) ∧ RwsOk G4 rs ∧ rs.length = 4 ∧ (∀ (j : Nat) r u, rs[j]? = some r → ts[j]? = some u → RwAt K u r G') ∧ l ∉ badOf rs) g4.ok (ef_lcL (xs := x3) (fun i acc G' => ∃ rs : List Rw, acc = rs.map (fun r => V.ref r.w) ∧ rs.length = i ∧ RwsOk G4 rs ∧ ∀ (j : Nat) r u, rs[j]? = some r → ts[j]? = some u → RwAt K u r G') ((ex_var (v := .ref l3) rfl).imp fun v G' e p => ⟨l3, p, Evl.ex_l e (Evl.sq_of hl3)⟩) (by omega) (fun x => rfl) (fun G' _ => ⟨[], rfl, rfl, ⟨(fun r m => nomatch m), fun r m => nomatch m⟩, fun j r u h _ => by simp at h⟩) (fun i y acc G' e1 hi hI => ?_) (fun p acc G' h1 h2 e' _ hI => ?_)) fun v4 G5 H5 g5 p5 => ?_
    · obtain ⟨rs, rfl, hrl, ok, hat⟩ := hI
      obtain ⟨u, hu, _, dy⟩ := row3 hi
      have hi4 : i < 4 := by have := (List.getElem?_eq_some_iff.mp hi).1; omega
      have cont : ∀ r ∈ rs, ∃ u, RwAt K u r G' := fun r m => by
        obtain ⟨j, hj⟩ := List.mem_iff_getElem?.mp m
        have hjl := (List.getElem?_eq_some_iff.mp hj).1
        exact ⟨ts[j]'(by omega), hat j r _ hj (List.getElem?_eq_getElem (by omega))⟩
      have dy' := dpx dy e1
      refine ec_all (ef_lst (ea_three mo_NwD mo_NwD mo_NwD (ed_list (ed_t0 (v := y) rfl dy')) (ed_list (ed_t1 (v := y) rfl dy')) (ed_list (ed_t2 (v := y) rfl dy'))) (fun vs G' ⟨x, y, z, ev, _⟩ => by rw [ev]; simp) fun p vs G2 e2 hp hp' ⟨x, y, z, ev, ⟨pa, xa, ex, a0, a1, a2⟩, ⟨pb, xb, ey, b0, b1, b2⟩, ⟨pc, xc, ez, c0, c1, c2⟩⟩ => ?_)
      have ei := ex_in (o := .lst vs) hp'
      have ne : ∀ {a : Addr} {o : HO}, G2 a = some o → a ≠ p := fun h z => by rw [z, hp'] at h; cases h
      rw [dpa_ints_eq a2] at a1
      rw [dpa_ints_eq c2] at c1
      have old : ∀ {a b : Addr} {o : HO}, G' a = some o → G' b = none → a ≠ b := fun h1 h2 z => by rw [z, h2] at h1; cases h1
      refine ⟨rs ++ [⟨p, pa, pb, pc⟩], by rw [List.map_append]; rfl, by rw [List.length_append, hrl]; rfl, ⟨fun r m => ?_, fun r m r' m' => ?_⟩, fun j r u' hj hu' => ?_⟩
      · rcases List.mem_append.mp m with m | m
        · exact ok.fr r m
        · rw [List.mem_singleton.mp m]
          exact ⟨none_back e1 hp, none_back e1 a0, none_back e1 b0, none_back e1 c0⟩
      · rcases List.mem_append.mp m with m | m
        · rcases List.mem_append.mp m' with m' | m'
          · exact ok.ne r m r' m'
          · rw [List.mem_singleton.mp m']
            obtain ⟨u2, A⟩ := cont r m
            obtain ⟨xb2, hb2, _⟩ := A.b
            exact ⟨old A.a hp, old hb2 hp, old A.c hp⟩
        · rw [List.mem_singleton.mp m]
          rcases List.mem_append.mp m' with m' | m'
          · obtain ⟨u2, A⟩ := cont r' m'
            exact ⟨(old A.w a0).symm, (old A.w b0).symm, (old A.w c0).symm⟩
          · rw [List.mem_singleton.mp m']
            exact ⟨ne a1, ne b1, ne c1⟩
      · by_cases hjl : j < rs.length
        · rw [List.getElem?_append_left hjl] at hj
          exact (hat j r u' hj hu').ex (e2.trans ei)
        · have hj2 := (List.getElem?_eq_some_iff.mp hj).1
          rw [List.length_append, List.length_singleton] at hj2
          have ej : j = rs.length := by omega
          subst ej
          rw [List.getElem?_append_right (Nat.le_refl _), Nat.sub_self] at hj
          cases hj
          rw [hrl, hu] at hu'
          cases hu'
          exact ⟨by show upd G2 p _ p = _; rw [upd_same, ev, ex, ey, ez], ei _ _ a1, ⟨xb, ei _ _ b1, dpax b2 ei⟩, ei _ _ c1⟩
    · obtain ⟨rs, rfl, hrl, ok, hat⟩ := hI
      have ei := ex_in (o := .lst (rs.map fun r : Rw => V.ref r.w)) h2
      refine ⟨p, rs, rfl, upd_same, ok, by rw [hrl, x3l], fun j r u hj hu => (hat j r u hj hu).ex ei, fun m => ?_⟩
      obtain ⟨r, mr, hx⟩ := mem_bad.mp m
      obtain ⟨j, hj⟩ := List.mem_iff_getElem?.mp mr
      have hjl := (List.getElem?_eq_some_iff.mp hj).1
      have A := hat j r _ hj (List.getElem?_eq_getElem (by omega))
      obtain ⟨xb2, hb2, _⟩ := A.b
      rcases hx with rfl | rfl | rfl
      · have := A.a; rw [h2] at this; cases this
      · rw [h2] at hb2; cases hb2
      · have := A.c; rw [h2] at this; cases this
    obtain ⟨l4, rs, rfl, hl4, ok, rl, hat, hlb⟩ := p5
    obtain ⟨Bd, hBd⟩ : ∃ Bd, Bd = badOf rs := ⟨_, rfl⟩
    rw [← hBd] at hlb
    have rat : ∀ {j : Nat} {r : Rw}, rs[j]? = some r → ∃ u, ts[j]? = some u ∧ TkO u ∧ RwAt K u r G5 := fun {j r} hj => by
      have hjl := (List.getElem?_eq_some_iff.mp hj).1
      have hu : ts[j]? = some (ts[j]'(by omega)) := List.getElem?_eq_getElem (by omega)
      exact ⟨_, hu, tok _ (List.getElem_mem _), hat j r _ hj hu⟩
    have badC : ∀ x ∈ Bd, G5 x ≠ none := fun x m z => by
      rw [hBd] at m
      obtain ⟨r, mr, hx⟩ := mem_bad.mp m
      obtain ⟨j, hj⟩ := List.mem_iff_getElem?.mp mr
      obtain ⟨u, _, _, A⟩ := rat hj
      obtain ⟨xb2, hb2, _⟩ := A.b
      rcases hx with rfl | rfl | rfl
      · rw [A.a] at z; cases z
      · rw [hb2] at z; cases z
      · rw [A.c] at z; cases z
    have bad4 : ∀ x ∈ Bd, G4 x = none := fun x m => by
      rw [hBd] at m
      obtain ⟨r, mr, hx⟩ := mem_bad.mp m
      obtain ⟨_, q1, q2, q3⟩ := ok.fr r mr
      rcases hx with rfl | rfl | rfl <;> assumption
    obtain ⟨Gs, hGs⟩ : ∃ Gs, Gs = dropB Bd G5 := ⟨_, rfl⟩
    have eGs : Ex Gs G5 := by rw [hGs]; exact dropB_ex
    have gsb : ∀ x ∈ Bd, Gs x = none := fun x m => by rw [hGs]; exact dropB_in m
    have e4s : Ex G4 Gs := fun x o h => by
      rw [hGs, dropB_out (fun m => by rw [bad4 x m] at h; cases h)]
      exact g5.up _ _ h
    have wOut : ∀ r ∈ rs, r.w ∉ Bd := fun r m z => by
      rw [hBd] at z
      obtain ⟨r', mr, hx⟩ := mem_bad.mp z
      obtain ⟨n1, n2, n3⟩ := ok.ne r' mr r m
      rcases hx with h | h | h
      · exact n1 h.symm
      · exact n2 h.symm
      · exact n3 h.symm
    have ws : ∀ r ∈ rs, Gs r.w = some (.lst [.ref r.a, .ref r.b, .ref r.c]) := fun r m => by
      obtain ⟨j, hj⟩ := List.mem_iff_getElem?.mp m
      obtain ⟨u, _, _, A⟩ := rat hj
      rw [hGs, dropB_out (wOut r m)]
      exact A.w
    have l4s : Gs l4 = some (.lst (rs.map fun r : Rw => V.ref r.w)) := by rw [hGs, dropB_out hlb]; exact hl4
    refine st_asg (P := fun v G' => ∃ l5 ys Gz, v = .ref l5 ∧ Ex Gs Gz ∧ Ex Gz G' ∧ Gz l5 = some (.lst ys) ∧ (∀ x ∈ Bd, Gz x = none) ∧ ys.length = 4 ∧ ∀ (j : Nat) v u, ys[j]? = some v → ts[j]? = some u → ∃ x, v = .ref x ∧ LayL K C Gz x u.lens u.parks u.joints) g5.ok (ef_lcL (xs := rs.map fun r : Rw => V.ref r.w) (fun i acc G' => acc.length = i ∧ ∃ G0', Ex Gs G0' ∧ Ex G0' G' ∧ (∀ x ∈ Bd, G0' x = none) ∧ ∀ (j : Nat) v u, acc[j]? = some v → ts[j]? = some u → ∃ x, v = .ref x ∧ LayL K C G0' x u.lens u.parks u.joints) ((ex_var (v := .ref l4) rfl).imp fun v G' e p => ⟨l4, p, Evl.ex_l e (Evl.sq_of hl4)⟩) (by rw [List.length_map]; omega) (fun x => rfl) (fun G' e => ⟨rfl, Gs, Ex.refl _, eGs.trans e, gsb, fun j v u h _ => by simp at h⟩) (fun i y acc G' e1 hi hI => ?_) (fun p acc G' h1 h2 e' _ hI => ?_)) fun v5 G6 H6 g6 p6 => ?_
    · obtain ⟨hal, G0', e0, e0', bn, hlay⟩ := hI
      rw [List.getElem?_map] at hi
      obtain ⟨r, hr1, rfl⟩ := Option.map_eq_some_iff.mp hi
      obtain ⟨u, hu, ok', A⟩ := rat hr1
      have A := A.ex e1
      have ix : ∀ {j : Nat} {v : V} {σ : L2.St}, σ[9]? = some (some (.ref r.w)) → ([.ref r.a, .ref r.b, .ref r.c] : List V)[j]? = some v → EF (tOp (rIxL K) (tVar 9) (tC (.int (j : Int)))) σ G' (XV v) := fun h1 h2 => ex_ixL (ex_var h1) ex_c rfl (Evl.sq_of A.w) h2
      obtain ⟨xb, hb1, hb2⟩ := A.b
      have few := ok'.few
      have fj := ok'.fewJ
      refine ec_all (EF.imp (ef_makeM (K := K) (C := C) (G0 := G0') (lens := u.lens) (js := u.joints) (parks := u.parks) e0' (EA.imp (ea_two mo_XV mo_XV (ix (j := 0) rfl rfl) (ix (j := 1) rfl rfl)) fun vs G2 e2 ⟨x, y, ev, hx, hy⟩ => ⟨r.a, r.b, by rw [ev, show x = _ from hx, show y = _ from hy], dpx (dp_mkL A.a (dpa_ints _)) e2, dpx (dp_mkL hb1 hb2) e2⟩) (EA.imp (ea_one (ix (j := 2) rfl rfl)) fun vs G2 e2 ⟨x, ev, hx⟩ => ⟨r.c, by rw [ev, show x = _ from hx], dpx (dp_mkL A.c (dpa_ints _)) e2⟩) (by omega) ok'.one ok'.inP ok'.js (by omega)) fun v G2 e2 ⟨x, G1', ev, q1, q2, hL, q3⟩ => ⟨by rw [List.length_append, hal]; rfl, G1', e0.trans q1, q2, fun z m => q3 z (exNe e1 (badC z m)) (bn z m), fun j v' u' hj hu' => ?_⟩)
      by_cases hjl : j < acc.length
      · rw [List.getElem?_append_left hjl] at hj
        obtain ⟨x', ex', hL'⟩ := hlay j v' u' hj hu'
        exact ⟨x', ex', hL'.ex q1⟩
      · have hj2 := (List.getElem?_eq_some_iff.mp hj).1
        rw [List.length_append, List.length_singleton] at hj2
        have ej : j = acc.length := by omega
        subst ej
        rw [List.getElem?_append_right (Nat.le_refl _), Nat.sub_self] at hj
        cases hj
        rw [hal, hu] at hu'
        cases hu'
        exact ⟨x, ev, hL⟩
    · obtain ⟨hal, G0', e0, e0', bn, hlay⟩ := hI
      have p0 := none_back e0' h2
      have ei := ex_in (o := .lst acc) p0
      refine ⟨p, acc, upd G0' p (.lst acc), rfl, e0.trans ei, fun b o hb => ?_, upd_same, fun x m => ?_, by rw [hal, List.length_map, rl], fun j v u hj hu => ?_⟩
      · by_cases eb : b = p
        · rw [eb, upd_same] at hb ⊢; exact hb
        · rw [upd_ne eb] at hb ⊢; exact e0' _ _ hb
      · rw [upd_ne (fun z => exNe e' (badC x m) (by rw [z]; exact h2))]
        exact bn x m
      · obtain ⟨x', ex', hL'⟩ := hlay j v u hj hu
        exact ⟨x', ex', hL'.ex ei⟩
    obtain ⟨l5, ys, Gz, rfl, esz, ez6, hl5, gzb, yl, lays⟩ := p6
    have e45 := g5.up
    have e46 := e45.trans g6.up
    have d3 : ∀ {G' : Hp}, Ex G4 G' → DpAll K G' x3 (ts.map dT) := fun e => dpax q3 e
    refine st_if0 g6.ok (et_not (et_B (EF.bl (ef_call (P := XV (.bl true)) (ea_two (Pa := XV (.ref l4)) (Pb := LS K (ts.map rowD)) mo_XV mo_LS (ex_var rfl) (ef_lcL (xs := x3) (fun i acc G' => DpAll K G' acc ((ts.take i).map rowD)) ((ex_var (v := .ref l3) rfl).imp fun v G' e p => ⟨l3, p, Evl.ex_l (e46.trans e) (Evl.sq_of hl3)⟩) (by omega) (fun x => rfl) (fun G' _ => .nil) (fun i y acc G' e1 hi hI => ?_) (fun p acc G' h1 h2 _ _ hI => ⟨p, acc, rfl, upd_same, ?_⟩))) fun vs G' e' ⟨x, y, ev, hx, hy⟩ => ?_) rfl))) fun H7 e7 => ?_
    · obtain ⟨u, hu, _, dy⟩ := row3 hi
      have dy' := dpx dy (e46.trans e1)
      refine ec_all (ef_lst (ea_three (Pa := DV K (dI u.lens)) (Pb := DV K (dPs u.joints)) (Pc := DV K (dI u.parks)) mo_DV mo_DV mo_DV (ed_t0 (v := y) rfl dy') (ed_t1 (v := y) rfl dy') (ed_t2 (v := y) rfl dy')) (fun vs G' ⟨x, y, z, ev, _⟩ => by rw [ev]; simp) fun p vs G2 e2 hp hp' ⟨x, y, z, ev, hx, hy, hz⟩ => ?_)
      have ei := ex_in (o := .lst vs) hp'
      have dx := dpx hx ei
      have dy2 := dpx hy ei
      have dz := dpx hz ei
      rw [take_next hu, List.map_append]
      exact dpa_snoc (dpax hI (e2.trans ei)) (dp_mkL upd_same (by rw [ev] at dx dy2 dz ⊢; exact .cons dx (.cons dy2 (.cons dz .nil))))
    · rw [x3l, ← tlen, List.take_length] at hI
      exact dpax hI (ex_in h2)
    · subst ev
      rw [show x = _ from hx]
      refine sa_sameB (dp_mkL (e' _ _ (g6.up _ _ hl4)) (dpa_all (by rw [List.length_map, List.length_map, rl, tlen]) fun j v d hv hd => ?_)) hy.dp (okb_rows (by omega) tok)
      rw [List.getElem?_map] at hv hd
      obtain ⟨r, hr1, rfl⟩ := Option.map_eq_some_iff.mp hv
      obtain ⟨u, hu1, rfl⟩ := Option.map_eq_some_iff.mp hd
      have A := (hat j r u hr1 hu1).ex (g6.up.trans e')
      obtain ⟨xb, hb1, hb2⟩ := A.b
      exact dp_mkL A.w (.cons (dp_mkL A.a (dpa_ints _)) (.cons (dp_mkL hb1 hb2) (.cons (dp_mkL A.c (dpa_ints _)) .nil)))
    dsimp only
    have eZ7 : Ex Gz H7 := ez6.trans (g6.ok.trans e7)
    have e4z : Ex G4 Gz := e4s.trans esz
    have hl3z := e4z _ _ hl3
    have l4z := esz _ _ l4s
    obtain ⟨B0, hB0⟩ : ∃ B0, B0 = rs.map fun r : Rw => r.a := ⟨_, rfl⟩
    have st7 : LSt Bd B0 950 H7 := fun x m => by
      have e57 : Ex G5 H7 := g6.up.trans (g6.ok.trans e7)
      by_cases mb : x ∈ B0
      · rw [hB0] at mb
        obtain ⟨r, mr, rfl⟩ := List.mem_map.mp mb
        obtain ⟨j, hj⟩ := List.mem_iff_getElem?.mp mr
        obtain ⟨u, _, oku, A⟩ := rat hj
        have q1 := oku.pos
        have q2 := oku.few
        exact ⟨_, e57 _ _ A.a, by rw [List.length_map]; omega, fun _ => by rw [List.length_map]; omega⟩
      · rw [hBd] at m
        obtain ⟨r, mr, hx⟩ := mem_bad.mp m
        obtain ⟨j, hj⟩ := List.mem_iff_getElem?.mp mr
        obtain ⟨u, _, oku, A⟩ := rat hj
        have q1 := oku.fewJ
        have q2 := oku.few
        have q3 := oku.fewP
        obtain ⟨xb, hb1, hb2⟩ := A.b
        rcases hx with rfl | rfl | rfl
        · exact ⟨_, e57 _ _ A.a, by rw [List.length_map]; omega, fun z => absurd z mb⟩
        · exact ⟨_, e57 _ _ hb1, by rw [dpa_len hb2, List.length_map]; omega, fun z => absurd z mb⟩
        · exact ⟨_, e57 _ _ A.c, by rw [List.length_map]; omega, fun z => absurd z mb⟩
    have acc : ∀ {j : Nat}, j < 4 → ∃ x u y, ys[j]? = some (.ref x) ∧ ts[j]? = some u ∧ x3[j]? = some y ∧ LayL K C Gz x u.lens u.parks u.joints ∧ TkO u ∧ Dp K Gz y (dT u) := fun {j} hj => by
      have hy : x3[j]? = some (x3[j]'(by omega)) := List.getElem?_eq_getElem (by omega)
      obtain ⟨u, hu, oku, dy⟩ := row3 hy
      have hv : ys[j]? = some (ys[j]'(by omega)) := List.getElem?_eq_getElem (by omega)
      obtain ⟨x, ex, hL⟩ := lays j _ u hv hu
      exact ⟨x, u, _, by rw [hv, ex], hu, hy, hL, oku, dpx dy e4z⟩
    have rdL : ∀ {j : Nat} {v : V} {σ : L2.St} {G' : Hp} {te : TE}, Ex Gz G' → σ[5]? = some (some (.ref l5)) → EF te σ G' (XV (.int (j : Int))) → ys[j]? = some v → EF (tOp (rIxL K) (tVar 5) te) σ G' (XV v) := fun e h1 h2 h3 => ex_ixL (ex_var h1) h2 rfl (Evl.sq_of (e _ _ hl5)) h3
    have rdT : ∀ {j : Nat} {v : V} {σ : L2.St} {G' : Hp} {te : TE}, Ex Gz G' → σ[3]? = some (some (.ref l3)) → EF te σ G' (XV (.int (j : Int))) → x3[j]? = some v → EF (tOp (rIxL K) (tVar 3) te) σ G' (XV v) := fun e h1 h2 h3 => ex_ixL (ex_var h1) h2 rfl (Evl.sq_of (e _ _ hl3z)) h3
    refine st_forR1 (n := (3 : Int)) eZ7 ((ea_one (ex_c (v := .int 3))).imp fun vs G' _ ⟨x, ev, hx⟩ => by rw [ev, show x = _ from hx]) (by omega) (by omega) (fun i σ' H' => Ex Gz H' ∧ LSt Bd B0 (950 + 12 * i) H' ∧ ∃ u6 u8 u9 u10, σ' = [some (.ref a), some (.ref at'), some v2, some (.ref l3), some (.ref l4), some (.ref l5), u6, none, u8, u9, u10]) (fun H' e => ⟨eZ7.trans e, (st7.up e).wide (by omega), _, _, _, _, rfl⟩) (fun i σ' H' hi hw => ?_) (fun σ' H' hw => ?_)
    · obtain ⟨eZ, hst, u6, u8, u9, u10, rfl⟩ := hw
      have hi3 : i < 3 := by omega
      refine st_forR1 (n := (4 : Int)) eZ ((ea_one (ex_c (v := .int 4))).imp fun vs G' _ ⟨x, ev, hx⟩ => by rw [ev, show x = _ from hx]) (by omega) (by omega) (fun j σ' H' => Ex Gz H' ∧ LSt Bd B0 (950 + 12 * i) H' ∧ ∃ u8 u9 u10, σ' = [some (.ref a), some (.ref at'), some v2, some (.ref l3), some (.ref l4), some (.ref l5), some (.int (i : Int)), none, u8, u9, u10]) (fun H' e => ⟨eZ.trans e, hst.up e, _, _, _, rfl⟩) (fun j σ' H' hj hw => ?_) (fun σ' H' hw => ?_)
      · obtain ⟨eZ, hst, u8, u9, u10, rfl⟩ := hw
        obtain ⟨x, u, y, hx, hu, hy, hL, oku, dy⟩ := acc (j := j) (by omega)
        have few := oku.few
        have fj := oku.fewJ
        refine st_if0 eZ (et_not (et_B (EF.bl (ex_call2 (P := XV (.bl true)) (rdL (j := j) (Ex.refl _) rfl (ex_var (v := .int (j : Int)) rfl) hx) (rdT (j := j) (Ex.refl _) rfl (ex_var (v := .int (j : Int)) rfl) hy) fun G' e' H e Q _ q => ⟨G', x, y, u, e, rfl, hL.ex e', oku.js, dpx dy e', by omega, by omega, q⟩) rfl))) fun H8 e8 => ?_
        dsimp only
        refine st_forR1 (n := (4 : Int)) (eZ.trans e8) ((ea_one (ex_c (v := .int 4))).imp fun vs G' _ ⟨x, ev, hx⟩ => by rw [ev, show x = _ from hx]) (by omega) (by omega) (fun k σ' H' => Ex Gz H' ∧ LSt Bd B0 (950 + 12 * i) H' ∧ ∃ u9 u10, σ' = [some (.ref a), some (.ref at'), some v2, some (.ref l3), some (.ref l4), some (.ref l5), some (.int (i : Int)), none, some (.int (j : Int)), u9, u10]) (fun H' e => ⟨(eZ.trans e8).trans e, (hst.up e8).up e, _, _, rfl⟩) (fun k σ' H' hk hw => ?_) (fun σ' H' hw => ?_)
        · obtain ⟨eZ, hst, u9, u10, rfl⟩ := hw
          obtain ⟨x2, u2, y2, hx2, hu2, hy2, hL2, oku2, dy2⟩ := acc (j := k) (by omega)
          refine st_if0 eZ (et_not (et_B (EF.bl (ef_call (P := XV (.bl true)) (ea_two (Pa := XV (.bl (alikeB u.lens u.parks u.joints u2.lens u2.parks u2.joints))) (Pb := XV (.bl (alikeB u.lens u.parks u.joints u2.lens u2.parks u2.joints))) mo_XV mo_XV (ex_eqOwn (t := .ref C) (rdL (j := j) (Ex.refl _) rfl (ex_var (v := .int (j : Int)) rfl) hx) (rdL (j := k) (Ex.refl _) rfl (ex_var (v := .int (k : Int)) rfl) hx2) (by obtain ⟨dx, fs, h, _⟩ := hL.1.size; exact ⟨dx, fs, h⟩) (fun H e => by obtain ⟨dx, fs, h, _⟩ := hL2.1.size; exact .ins (e _ _ h)) nC fun G' e' H e Q _ q => ⟨G', x, u.lens, u.parks, u.joints, .ref x2, e, rfl, hL.ex e', oku.js, .inl ⟨x2, u2.lens, u2.parks, u2.joints, rfl, hL2.ex e', oku2.js, q⟩⟩) (ex_call2 (rdT (j := j) (Ex.refl _) rfl (ex_var (v := .int (j : Int)) rfl) hy) (rdT (j := k) (Ex.refl _) rfl (ex_var (v := .int (k : Int)) rfl) hy2) fun G' e' H e Q _ q => ⟨G', y, y2, u, u2, e, rfl, dpx dy e', dpx dy2 e', by omega, q⟩)) fun vs G' e' ⟨p, q, ev, hp, hq⟩ => ?_) rfl))) fun H9 e9 => ⟨eZ.trans e9, hst.up e9, _, _, rfl⟩
          subst ev
          rw [show p = _ from hp, show q = _ from hq]
          exact sa_sameB (.bl _) (.bl _) (by simp [Okb])
        · obtain ⟨eZ, hst, u9, u10, rfl⟩ := hw
          exact ⟨eZ, hst, _, _, _, rfl⟩
      obtain ⟨eZ, hst, u8, u9, u10, rfl⟩ := hw
      dsimp only
      refine st_forK (xs := rs.map fun r : Rw => V.ref r.w) eZ (ex_var (v := .ref l4) rfl) (Evl.sq_of l4z) (fun j σ' H' => Ex Gz H' ∧ LSt Bd B0 (950 + 12 * i + 3 * j) H' ∧ ∃ u9, σ' = [some (.ref a), some (.ref at'), some v2, some (.ref l3), some (.ref l4), some (.ref l5), some (.int (i : Int)), none, u8, u9, u10]) (fun H' e => ⟨eZ.trans e, hst.up e, _, rfl⟩) (fun j σ' H' hw => hw.1) (fun j y σ' H' hj hw => ?_) (fun σ' H' hw => ?_)
      · obtain ⟨eZ, hst, u9, rfl⟩ := hw
        rw [List.getElem?_map] at hj
        obtain ⟨r, hr1, rfl⟩ := Option.map_eq_some_iff.mp hj
        have hj4 : j < 4 := by have := (List.getElem?_eq_some_iff.mp hr1).1; omega
        have mr : r ∈ rs := List.mem_of_getElem? hr1
        have hw := esz _ _ (ws r mr)
        have ma : r.a ∈ Bd := by rw [hBd]; exact mem_bad.mpr ⟨r, mr, .inl rfl⟩
        have mb : r.b ∈ Bd := by rw [hBd]; exact mem_bad.mpr ⟨r, mr, .inr (.inl rfl)⟩
        have mc : r.c ∈ Bd := by rw [hBd]; exact mem_bad.mpr ⟨r, mr, .inr (.inr rfl)⟩
        have ma0 : r.a ∈ B0 := by rw [hB0]; exact List.mem_map.mpr ⟨r, mr, rfl⟩
        have ix : ∀ {j : Nat} {v : V} {σ : L2.St}, σ[9]? = some (some (.ref r.w)) → ([.ref r.a, .ref r.b, .ref r.c] : List V)[j]? = some v → EF (tOp (rIxL K) (tVar 9) (tC (.int (j : Int)))) σ Gz (XV v) := fun h1 h2 => ex_ixL (ex_var h1) ex_c rfl (Evl.sq_of hw) h2
        obtain ⟨xa, ha1, ha2, ha3⟩ := hst r.a ma
        have ha3 := ha3 ma0
        refine st_put0 (q := r.a) eZ (ix (j := 0) rfl rfl) ha1 ha3 fun H2 e2 => ?_
        have z2 : Ex Gz (upd H2 r.a (.lst (xa.set 0 (.int 99)))) := ex_off (eZ.trans e2) (gzb _ ma)
        have s2 : LSt Bd B0 (950 + 12 * i + 3 * j) (upd H2 r.a (.lst (xa.set 0 (.int 99)))) := (hst.up e2).put (by rw [List.length_set]; exact ha2) (by rw [List.length_set]; exact ha3)
        generalize upd H2 r.a (.lst (xa.set 0 (.int 99))) = H3 at z2 s2 ⊢
        dsimp only
        obtain ⟨xa, ha1, ha2, ha3⟩ := s2 r.a ma
        refine st_app (P := XV (.int 5)) z2 ha1 (ix (j := 0) rfl rfl) ex_c (by omega) fun v G4' H4' g4' p4' => ?_
        have z4 : Ex Gz (upd H4' r.a (.lst (xa ++ [v]))) := ex_off (z2.trans g4'.hp) (gzb _ ma)
        have s4 : LSt Bd B0 (950 + 12 * i + 3 * j + 1) (upd H4' r.a (.lst (xa ++ [v]))) := ((s2.up g4'.hp).wide (by omega)).put (by rw [List.length_append, List.length_singleton]; omega) (by simp)
        generalize upd H4' r.a (.lst (xa ++ [v])) = H5' at z4 s4 ⊢
        dsimp only
        obtain ⟨xb, hb1, hb2, _⟩ := s4 r.b mb
        refine st_insO (P := DV K (dP (0, 0))) z4 (ix (j := 1) rfl rfl) hb1 (by omega) (ef_pairI ex_c ex_c) fun v G6' H6' g6' => ?_
        have z6 : Ex Gz (upd H6' r.b (.lst (v :: xb))) := ex_off (z4.trans g6'.hp) (gzb _ mb)
        have s6 : LSt Bd B0 (950 + 12 * i + 3 * j + 2) (upd H6' r.b (.lst (v :: xb))) := ((s4.up g6'.hp).wide (by omega)).put (by rw [List.length_cons]; omega) (by simp)
        generalize upd H6' r.b (.lst (v :: xb)) = H7' at z6 s6 ⊢
        dsimp only
        obtain ⟨xc, hc1, hc2, _⟩ := s6 r.c mc
        refine st_app (P := XV (.int 0)) z6 hc1 (ix (j := 2) rfl rfl) ex_c (by omega) fun v G8' H8' g8' p8' => ?_
        exact ⟨ex_off (z6.trans g8'.hp) (gzb _ mc), ((s6.up g8'.hp).wide (by omega)).put (by rw [List.length_append, List.length_singleton]; omega) (by simp), _, rfl⟩
      obtain ⟨eZ, hst, u9, rfl⟩ := hw
      rw [List.length_map, rl] at hst
      dsimp only
      obtain ⟨x, u, y, hx, hu, hy, hL, oku, dy⟩ := acc (j := 0) (by omega)
      rw [t0] at hu
      cases hu
      have few := oku.few
      have fj := oku.fewJ
      refine st_forX (P := LN K Gz (listsD t.parks t.joints (ptsD t.parks t.joints t.lens.length) t.lens.length)) eZ (ex_call2 (rdL (j := 0) (Ex.refl _) rfl ex_c hx) ((ex_lenD (ed_t0 (i := 1) rfl (dpx d1 (e13.trans (g4.up.trans e4z))))).imp fun v _ _ p => p) fun G' e' => SA.imp (P := LN K G' (listsD t.parks t.joints (ptsD t.parks t.joints t.lens.length) t.lens.length)) (fun H e Q _ q => ⟨G', x, t.lens.length, t.parks, t.joints, e, by rw [List.length_map], hL.1.ex e', oku.js, by omega, by omega, q⟩) fun v G2 ⟨l, bs, ev, h0, h1, h2, h3⟩ => ⟨l, bs, ev, none_back e' h0, h1, h2, fun b m => by obtain ⟨p, zs, eb, p0, p1, p2⟩ := h3 b m; exact ⟨p, zs, eb, none_back e' p0, p1, p2⟩⟩) fun v G8 H8 g8 ⟨l, bs, ev, l0, l1, _, rows⟩ => ?_
      subst ev
      have eZ8 := eZ.trans g8.hp
      have hlH := g8.ok _ _ l1
      have eL : Ex (upd Gz l (.lst bs)) H8 := ex_know eZ8 hlH
      refine st_forK (xs := bs) (G := upd Gz l (.lst bs)) eL (ex_c (v := .ref l)) (Evl.sq_of upd_same) (fun j σ' H' => Ex (upd Gz l (.lst bs)) H' ∧ LSt Bd B0 (950 + 12 * (i + 1)) H' ∧ (∀ b ∈ bs, ∃ p zs, b = .ref p ∧ Gz p = none ∧ p ≠ l ∧ H' p = some (.lst zs) ∧ zs.length ≤ 900 + j) ∧ ∃ u9, σ' = [some (.ref a), some (.ref at'), some v2, some (.ref l3), some (.ref l4), some (.ref l5), some (.int (i : Int)), none, u8, u9, u10]) (fun H' e => ⟨eL.trans e, ((hst.up g8.hp).up e).wide (by omega), fun b m => ?_, _, rfl⟩) (fun j σ' H' hw => hw.1) (fun j y' σ' H' hj hw => ?_) (fun σ' H' hw => ?_)
      · obtain ⟨p, zs, eb, p0, p1, p2, p3⟩ := rows b m
        exact ⟨p, zs, eb, p0, p1, e _ _ (g8.ok _ _ p2), by omega⟩
      · obtain ⟨eL, hst, hrow, u9, rfl⟩ := hw
        obtain ⟨p, zs, rfl, p0, p1, p2, p3⟩ := hrow y' (List.mem_of_getElem? hj)
        have jl : j < bs.length := (List.getElem?_eq_some_iff.mp hj).1
        have bl : bs.length = 2 + 4 * t.lens.length := by
          have := dpa_len ‹DpAll K G8 bs _›
          rw [this, listsD_len]
        have pn : (upd Gz l (.lst bs)) p = none := by rw [upd_ne p1]; exact p0
        refine st_app (P := XV (.int 0)) eL p2 (ex_var (v := .ref p) rfl) ex_c (by omega) fun v G9 H9 g9 p9 => ?_
        have z9 : Ex (upd Gz l (.lst bs)) (upd H9 p (.lst (zs ++ [v]))) := ex_off (eL.trans g9.hp) pn
        have s9 : LSt Bd B0 (950 + 12 * (i + 1)) (upd H9 p (.lst (zs ++ [v]))) := (hst.up g9.hp).put (by rw [List.length_append, List.length_singleton]; omega) (by simp)
        dsimp only
        refine st_put0 (q := p) z9 (ex_var (v := .ref p) rfl) upd_same (by simp) fun H10 e10 => ?_
        refine ⟨ex_off (z9.trans e10) pn, (s9.up e10).put (by rw [List.length_set, List.length_append, List.length_singleton]; omega) (by simp), fun b m => ?_, _, rfl⟩
        obtain ⟨p', zs', eb, q0, q1, q2, q3⟩ := hrow b m
        by_cases ep : p' = p
        · exact ⟨p', _, eb, q0, q1, by rw [ep]; exact upd_same, by rw [List.length_set, List.length_append, List.length_singleton]; omega⟩
        · exact ⟨p', zs', eb, q0, q1, by rw [upd_ne ep]; exact e10 _ _ (by rw [upd_ne ep]; exact g9.hp _ _ q2), by omega⟩
      · obtain ⟨eL, hst, _, u9, rfl⟩ := hw
        exact ⟨(ex_in l0).trans eL, hst, _, _, _, _, rfl⟩
    · obtain ⟨eZ, hst, u6, u8, u9, u10, rfl⟩ := hw
      dsimp only
      have th0 : ∀ {v : V} {n : String} {σ : L2.St} {G' : Hp}, n ∈ (["NoneType", "bool", "int", "str", "list", "tuple"] : List String) → (∀ H, OTy H v (.type n) ∧ TyX K H v (.type n)) → EF (tC v) σ G' (TH K) := fun hn h => ef_c ⟨_, hn, fun H _ => h H⟩
      have dz := dpx d1 (e13.trans (g4.up.trans e4z))
      obtain ⟨a0, x0, ea0, s0, q0⟩ := dp_lst (dpx d0 (e13.trans (g4.up.trans e4z)))
      refine st_forX (P := fun v G' => ∃ l xs, v = .ref l ∧ G' l = some (.lst xs) ∧ ∀ y ∈ xs, TH K y G') eZ (ef_lst (ea_th (th0 (n := "NoneType") (by simp) fun H => ⟨.non, .base .non⟩) (ea_th (th0 (n := "bool") (by simp) fun H => ⟨.bl _, .base (.bl _)⟩) (ea_th (th0 (n := "int") (by simp) fun H => ⟨.int _, .base (.int _)⟩) (ea_th (th0 (n := "str") (by simp) fun H => ⟨.str _, .base (.str _)⟩) (ea_th (EF.imp (el_list (ed_t0 (i := 1) rfl dz)) fun v G' _ ⟨l, xs, ev, h1, _⟩ => ⟨"list", by simp, fun H e => by rw [ev]; exact ⟨.lst (e _ _ h1), .base (.lst (e _ _ h1))⟩⟩) (ea_th (EF.imp (ef_tupT (a := a0) (xs := x0) (by rw [← ea0]; exact ex_ixT (i := 0) (ex_var (v := .ref at') rfl) ex_c (Evl.ex_t (e13.trans (g4.up.trans e4z)) hs) hv0) s0) fun v G' _ ⟨l, ev, h1⟩ => ⟨"tuple", by simp, fun H e => by rw [ev]; exact ⟨.tup (e _ _ h1), .base (.tup (e _ _ h1))⟩⟩) (EA.imp ea_nil fun vs G' _ ev => by rw [ev]; exact ⟨List.length_nil, fun v m => nomatch m⟩))))))) (fun vs G' h => by rw [h.1]; omega) fun p vs G' _ _ hp h => ⟨p, vs, rfl, upd_same, fun y m => mo_TH _ _ _ (ex_in hp) (h.2 y m)⟩) fun v G8 H8 g8 ⟨l, xs', ev, hl, hth⟩ => ?_
      subst ev
      refine st_forK (xs := xs') g8.ok (ex_c (v := .ref l)) (Evl.sq_of hl) (fun j σ' H' => Ex G8 H' ∧ ∃ u7, σ' = [some (.ref a), some (.ref at'), some v2, some (.ref l3), some (.ref l4), some (.ref l5), u6, u7, u8, u9, u10]) (fun H' e => ⟨g8.ok.trans e, _, rfl⟩) (fun j σ' H' hw => hw.1) (fun j y σ' H' hj hw => ?_) (fun σ' H' hw => ?_)
      · obtain ⟨e8, u7, rfl⟩ := hw
        obtain ⟨n, hn, hty'⟩ := hth y (List.mem_of_getElem? hj)
        obtain ⟨nf, ko⟩ := hty n hn
        obtain ⟨x, u, y0, hx, hu, hy, hL, oku, dy⟩ := acc (j := 0) (by omega)
        have hL8 := hL.ex g8.up
        refine st_if0 e8 (et_not (et_B (EF.bl (ef_call (P := XV (.bl true)) (ea_two mo_XV mo_XV (ex_eqOwn (b := false) (t := .type n) (rdL (j := 0) g8.up rfl ex_c hx) (ex_var (v := y) rfl) (by obtain ⟨dx, fs, h, _⟩ := hL8.1.size; exact ⟨dx, fs, h⟩) (fun H e => (hty' H e).1) nf fun G' e' H e Q _ q => ⟨G', x, u.lens, u.parks, u.joints, y, e, rfl, hL8.ex e', oku.js, .inr ⟨.type n, fun H' e2 => (hty' H' (e'.trans e2)).2, ko, q⟩⟩) (ex_c (v := .bl false))) fun vs G' e' ⟨p, q, ev, hp, hq⟩ => ?_) rfl))) fun H9 e9 => ⟨e8.trans e9, _, rfl⟩
        subst ev
        rw [show p = _ from hp, show q = _ from hq]
        exact sa_sameB (.bl _) (.bl _) (by simp [Okb])
      · obtain ⟨e8, u7, rfl⟩ := hw
        dsimp only
        refine st_ret (P := XV (.bl true)) e8 ex_c fun v G' H9 g p => ?_
        rw [show v = _ from p]
        exact k H9
end
end Kx

set_option Elab.async false
set_option linter.all false
set_option maxRecDepth 100000
set_option maxHeartbeats 16000000
namespace Kx
open PySem L2 Lw
open Evl (Ex)
def ggI (us ws : List Value) : List Value := us ++ ws
structure ErrK (K : PySem.W.Frag) (mg : Str → Option Value) (x : Str) (C : Addr) : Prop where
  xf : XfC K C
  xc : ExcC K C
  gl : mg x = some (.ref C)
  te : PySem.W.exmOne K (.ref C) (.ref C) = some true
theorem nf_of {K : PySem.W.Frag} {C : Addr} {t : Value} (h : PySem.W.subIn K t (.ref C) = some false) : PySem.W.notFirst K C t = true := by unfold PySem.W.notFirst; rw [h]; simp
theorem exm_sub {K : PySem.W.Frag} {S R : Addr} {b : Bool} (h1 : PySem.W.subIn K (.ref R) (.type "BaseException") = some true) (h2 : PySem.W.isClsIn K R = true) (h3 : PySem.W.typeIn K (.ref R) = some (.type "type")) (h4 : PySem.W.subIn K (.ref S) (.ref R) = some b) : PySem.W.exmOne K (.ref S) (.ref R) = some b := by
  have e1 : (PySem.W.subIn K (.ref R) (.type "BaseException") == some true) = true := by rw [h1] <;> rfl
  have e2 : ((PySem.W.clsIn K R).isSome && PySem.W.typeIn K (.ref R) == some (.type "type")) = true := by
    have h2' : (PySem.W.clsIn K R).isSome = true := h2
    rw [h2', h3] <;> rfl
  unfold PySem.W.exmOne
  rw [if_pos e1]
  show (if ((PySem.W.clsIn K R).isSome && PySem.W.typeIn K (.ref R) == some (.type "type")) = true then PySem.W.subIn K (.ref S) (.ref R) else none) = some b
  rw [if_pos e2]
  exact h4
theorem all_mk {l : PySem.W.OpenLaw} {w : World} {K : PySem.W.Frag} {h : Heap} {mg : Str → Option Value} {fa C f_check_block f_check_blocks f_is_point f_cell f_draw f_same f_track f_mixed f_changed f_alike f_lists f_wanted f_fits f_law f_Layout_init f_Layoutadd_joint f_Layout_eq f_Layout_contains f_Layout_length_of f_Layout_is_yard f_Layout_east_of f_Layout_west_of f_Layout_branches f_Layout_joints f_Layout_points f_NoBlock_init A_RailError CN : Addr} (X : K.In h) (G : h.Ns mainGlobals mg) (hfa : mg "law" = some (.ref fa))
    {nm_NoBlock q_NoBlock : Str} {N_NoBlock : Addr} {bs_NoBlock : List Value} {sn_NoBlock : List Str} {sub_NoBlock : List Value} {ab_NoBlock : Bool} {col_NoBlock : Option Bool} {dd_NoBlock : Option Addr} {m0_NoBlock m1_NoBlock m2_NoBlock m3_NoBlock m5_NoBlock : Option Value}
    {od_check_block an_check_block od_check_blocks an_check_blocks od_is_point an_is_point od_cell an_cell od_draw an_draw od_same an_same od_track an_track od_mixed an_mixed od_changed an_changed od_alike an_alike od_lists an_lists od_wanted an_wanted od_fits an_fits od_law an_law od_Layout_init an_Layout_init od_Layoutadd_joint an_Layoutadd_joint od_Layout_eq an_Layout_eq od_Layout_contains an_Layout_contains od_Layout_length_of an_Layout_length_of od_Layout_is_yard an_Layout_is_yard od_Layout_east_of an_Layout_east_of od_Layout_west_of an_Layout_west_of od_Layout_branches an_Layout_branches od_Layout_joints an_Layout_joints od_Layout_points an_Layout_points od_NoBlock_init an_NoBlock_init : Option Addr} {sl_check_block sl_check_blocks sl_is_point sl_cell sl_draw sl_same sl_track sl_mixed sl_changed sl_alike sl_lists sl_wanted sl_fits sl_law sl_Layout_init sl_Layoutadd_joint sl_Layout_eq sl_Layout_contains sl_Layout_length_of sl_Layout_is_yard sl_Layout_east_of sl_Layout_west_of sl_Layout_branches sl_Layout_joints sl_Layout_points sl_NoBlock_init : Array (Option Value)} {oc_check_block kV_check_block dc_check_block pm_check_block cd_check_block ct_check_block oc_check_blocks kV_check_blocks dc_check_blocks pm_check_blocks cd_check_blocks ct_check_blocks oc_is_point kV_is_point dc_is_point pm_is_point cd_is_point ct_is_point oc_cell kV_cell dc_cell pm_cell cd_cell ct_cell oc_draw kV_draw dc_draw pm_draw cd_draw ct_draw oc_same kV_same dc_same pm_same cd_same ct_same oc_track kV_track dc_track pm_track cd_track ct_track oc_mixed kV_mixed dc_mixed pm_mixed cd_mixed ct_mixed oc_changed kV_changed dc_changed pm_changed cd_changed ct_changed oc_alike kV_alike dc_alike pm_alike cd_alike ct_alike oc_lists kV_lists dc_lists pm_lists cd_lists ct_lists oc_wanted kV_wanted dc_wanted pm_wanted cd_wanted ct_wanted oc_fits kV_fits dc_fits pm_fits cd_fits ct_fits oc_law kV_law dc_law pm_law cd_law ct_law oc_Layout_init kV_Layout_init dc_Layout_init pm_Layout_init cd_Layout_init ct_Layout_init oc_Layoutadd_joint kV_Layoutadd_joint dc_Layoutadd_joint pm_Layoutadd_joint cd_Layoutadd_joint ct_Layoutadd_joint oc_Layout_eq kV_Layout_eq dc_Layout_eq pm_Layout_eq cd_Layout_eq ct_Layout_eq oc_Layout_contains kV_Layout_contains dc_Layout_contains pm_Layout_contains cd_Layout_contains ct_Layout_contains oc_Layout_length_of kV_Layout_length_of dc_Layout_length_of pm_Layout_length_of cd_Layout_length_of ct_Layout_length_of oc_Layout_is_yard kV_Layout_is_yard dc_Layout_is_yard pm_Layout_is_yard cd_Layout_is_yard ct_Layout_is_yard oc_Layout_east_of kV_Layout_east_of dc_Layout_east_of pm_Layout_east_of cd_Layout_east_of ct_Layout_east_of oc_Layout_west_of kV_Layout_west_of dc_Layout_west_of pm_Layout_west_of cd_Layout_west_of ct_Layout_west_of oc_Layout_branches kV_Layout_branches dc_Layout_branches pm_Layout_branches cd_Layout_branches ct_Layout_branches oc_Layout_joints kV_Layout_joints dc_Layout_joints pm_Layout_joints cd_Layout_joints ct_Layout_joints oc_Layout_points kV_Layout_points dc_Layout_points pm_Layout_points cd_Layout_points ct_Layout_points oc_NoBlock_init kV_NoBlock_init dc_NoBlock_init pm_NoBlock_init cd_NoBlock_init ct_NoBlock_init : Value}
    (aC : PySem.W.nsIn K mainGlobals "Layout" = some (some (.ref C)))
    (a_check_block : PySem.W.nsIn K mainGlobals "check_block" = some (some (.ref f_check_block)))
    (l_check_block : K.lookup f_check_block = some ⟨oc_check_block, od_check_block, .func (PySem.W.fnOf "check_block" "check_block" (defArgs s_check_block) (defBody s_check_block) (defScope s_check_block) .none kV_check_block dc_check_block pm_check_block an_check_block cd_check_block ct_check_block), sl_check_block⟩) (c_check_block : PySem.W.codeIn K cd_check_block "check_block" = true) (k_check_block : PySem.W.keepIn K (.ref f_check_block) = true)
    (a_check_blocks : PySem.W.nsIn K mainGlobals "check_blocks" = some (some (.ref f_check_blocks)))
    (l_check_blocks : K.lookup f_check_blocks = some ⟨oc_check_blocks, od_check_blocks, .func (PySem.W.fnOf "check_blocks" "check_blocks" (defArgs s_check_blocks) (defBody s_check_blocks) (defScope s_check_blocks) .none kV_check_blocks dc_check_blocks pm_check_blocks an_check_blocks cd_check_blocks ct_check_blocks), sl_check_blocks⟩) (c_check_blocks : PySem.W.codeIn K cd_check_blocks "check_blocks" = true) (k_check_blocks : PySem.W.keepIn K (.ref f_check_blocks) = true)
    (a_is_point : PySem.W.nsIn K mainGlobals "is_point" = some (some (.ref f_is_point)))
    (l_is_point : K.lookup f_is_point = some ⟨oc_is_point, od_is_point, .func (PySem.W.fnOf "is_point" "is_point" (defArgs s_is_point) (defBody s_is_point) (defScope s_is_point) .none kV_is_point dc_is_point pm_is_point an_is_point cd_is_point ct_is_point), sl_is_point⟩) (c_is_point : PySem.W.codeIn K cd_is_point "is_point" = true) (k_is_point : PySem.W.keepIn K (.ref f_is_point) = true)
    (a_cell : PySem.W.nsIn K mainGlobals "_law_cell" = some (some (.ref f_cell)))
    (l_cell : K.lookup f_cell = some ⟨oc_cell, od_cell, .func (PySem.W.fnOf "_law_cell" "_law_cell" (defArgs s_cell) (defBody s_cell) (defScope s_cell) .none kV_cell dc_cell pm_cell an_cell cd_cell ct_cell), sl_cell⟩) (c_cell : PySem.W.codeIn K cd_cell "_law_cell" = true) (k_cell : PySem.W.keepIn K (.ref f_cell) = true)
    (a_draw : PySem.W.nsIn K mainGlobals "_law_draw" = some (some (.ref f_draw)))
    (l_draw : K.lookup f_draw = some ⟨oc_draw, od_draw, .func (PySem.W.fnOf "_law_draw" "_law_draw" (defArgs s_draw) (defBody s_draw) (defScope s_draw) .none kV_draw dc_draw pm_draw an_draw cd_draw ct_draw), sl_draw⟩) (c_draw : PySem.W.codeIn K cd_draw "_law_draw" = true) (k_draw : PySem.W.keepIn K (.ref f_draw) = true)
    (a_same : PySem.W.nsIn K mainGlobals "_law_same" = some (some (.ref f_same)))
    (l_same : K.lookup f_same = some ⟨oc_same, od_same, .func (PySem.W.fnOf "_law_same" "_law_same" (defArgs s_same) (defBody s_same) (defScope s_same) .none kV_same dc_same pm_same an_same cd_same ct_same), sl_same⟩) (c_same : PySem.W.codeIn K cd_same "_law_same" = true) (k_same : PySem.W.keepIn K (.ref f_same) = true)
    (a_track : PySem.W.nsIn K mainGlobals "_law_track" = some (some (.ref f_track)))
    (l_track : K.lookup f_track = some ⟨oc_track, od_track, .func (PySem.W.fnOf "_law_track" "_law_track" (defArgs s_track) (defBody s_track) (defScope s_track) .none kV_track dc_track pm_track an_track cd_track ct_track), sl_track⟩) (c_track : PySem.W.codeIn K cd_track "_law_track" = true) (k_track : PySem.W.keepIn K (.ref f_track) = true)
    (a_mixed : PySem.W.nsIn K mainGlobals "_law_mixed" = some (some (.ref f_mixed)))
    (l_mixed : K.lookup f_mixed = some ⟨oc_mixed, od_mixed, .func (PySem.W.fnOf "_law_mixed" "_law_mixed" (defArgs s_mixed) (defBody s_mixed) (defScope s_mixed) .none kV_mixed dc_mixed pm_mixed an_mixed cd_mixed ct_mixed), sl_mixed⟩) (c_mixed : PySem.W.codeIn K cd_mixed "_law_mixed" = true) (k_mixed : PySem.W.keepIn K (.ref f_mixed) = true)
    (a_changed : PySem.W.nsIn K mainGlobals "_law_changed" = some (some (.ref f_changed)))
    (l_changed : K.lookup f_changed = some ⟨oc_changed, od_changed, .func (PySem.W.fnOf "_law_changed" "_law_changed" (defArgs s_changed) (defBody s_changed) (defScope s_changed) .none kV_changed dc_changed pm_changed an_changed cd_changed ct_changed), sl_changed⟩) (c_changed : PySem.W.codeIn K cd_changed "_law_changed" = true) (k_changed : PySem.W.keepIn K (.ref f_changed) = true)
    (a_alike : PySem.W.nsIn K mainGlobals "_law_alike" = some (some (.ref f_alike)))
    (l_alike : K.lookup f_alike = some ⟨oc_alike, od_alike, .func (PySem.W.fnOf "_law_alike" "_law_alike" (defArgs s_alike) (defBody s_alike) (defScope s_alike) .none kV_alike dc_alike pm_alike an_alike cd_alike ct_alike), sl_alike⟩) (c_alike : PySem.W.codeIn K cd_alike "_law_alike" = true) (k_alike : PySem.W.keepIn K (.ref f_alike) = true)
    (a_lists : PySem.W.nsIn K mainGlobals "_law_lists" = some (some (.ref f_lists)))
    (l_lists : K.lookup f_lists = some ⟨oc_lists, od_lists, .func (PySem.W.fnOf "_law_lists" "_law_lists" (defArgs s_lists) (defBody s_lists) (defScope s_lists) .none kV_lists dc_lists pm_lists an_lists cd_lists ct_lists), sl_lists⟩) (c_lists : PySem.W.codeIn K cd_lists "_law_lists" = true) (k_lists : PySem.W.keepIn K (.ref f_lists) = true)
    (a_wanted : PySem.W.nsIn K mainGlobals "_law_wanted" = some (some (.ref f_wanted)))
    (l_wanted : K.lookup f_wanted = some ⟨oc_wanted, od_wanted, .func (PySem.W.fnOf "_law_wanted" "_law_wanted" (defArgs s_wanted) (defBody s_wanted) (defScope s_wanted) .none kV_wanted dc_wanted pm_wanted an_wanted cd_wanted ct_wanted), sl_wanted⟩) (c_wanted : PySem.W.codeIn K cd_wanted "_law_wanted" = true) (k_wanted : PySem.W.keepIn K (.ref f_wanted) = true)
    (a_fits : PySem.W.nsIn K mainGlobals "_law_fits" = some (some (.ref f_fits)))
    (l_fits : K.lookup f_fits = some ⟨oc_fits, od_fits, .func (PySem.W.fnOf "_law_fits" "_law_fits" (defArgs s_fits) (defBody s_fits) (defScope s_fits) .none kV_fits dc_fits pm_fits an_fits cd_fits ct_fits), sl_fits⟩) (c_fits : PySem.W.codeIn K cd_fits "_law_fits" = true) (k_fits : PySem.W.keepIn K (.ref f_fits) = true)
    (a_law : PySem.W.nsIn K mainGlobals "law" = some (some (.ref f_law)))
    (l_law : K.lookup f_law = some ⟨oc_law, od_law, .func (PySem.W.fnOf "law" "law" (defArgs s_law) (defBody s_law) (defScope s_law) .none kV_law dc_law pm_law an_law cd_law ct_law), sl_law⟩) (c_law : PySem.W.codeIn K cd_law "law" = true) (k_law : PySem.W.keepIn K (.ref f_law) = true)
    (a_Layout_init : PySem.W.findIn K (.ref C) "__init__" = some (some (.ref f_Layout_init))) (i_Layout_init : PySem.W.isFn K (.ref f_Layout_init) = true)
    (l_Layout_init : K.lookup f_Layout_init = some ⟨oc_Layout_init, od_Layout_init, .func (PySem.W.fnOf "__init__" "Layout.__init__" (defArgs s_Layout_init) (defBody s_Layout_init) (defScope s_Layout_init) .none kV_Layout_init dc_Layout_init pm_Layout_init an_Layout_init cd_Layout_init ct_Layout_init), sl_Layout_init⟩) (c_Layout_init : PySem.W.codeIn K cd_Layout_init "Layout.__init__" = true) (k_Layout_init : PySem.W.keepIn K (.ref f_Layout_init) = true)
    (a_Layoutadd_joint : PySem.W.findIn K (.ref C) "_add_joint" = some (some (.ref f_Layoutadd_joint))) (i_Layoutadd_joint : PySem.W.isFn K (.ref f_Layoutadd_joint) = true)
    (l_Layoutadd_joint : K.lookup f_Layoutadd_joint = some ⟨oc_Layoutadd_joint, od_Layoutadd_joint, .func (PySem.W.fnOf "_add_joint" "Layout._add_joint" (defArgs s_Layoutadd_joint) (defBody s_Layoutadd_joint) (defScope s_Layoutadd_joint) .none kV_Layoutadd_joint dc_Layoutadd_joint pm_Layoutadd_joint an_Layoutadd_joint cd_Layoutadd_joint ct_Layoutadd_joint), sl_Layoutadd_joint⟩) (c_Layoutadd_joint : PySem.W.codeIn K cd_Layoutadd_joint "Layout._add_joint" = true) (k_Layoutadd_joint : PySem.W.keepIn K (.ref f_Layoutadd_joint) = true)
    (a_Layout_eq : PySem.W.findIn K (.ref C) "__eq__" = some (some (.ref f_Layout_eq))) (i_Layout_eq : PySem.W.isFn K (.ref f_Layout_eq) = true)
    (l_Layout_eq : K.lookup f_Layout_eq = some ⟨oc_Layout_eq, od_Layout_eq, .func (PySem.W.fnOf "__eq__" "Layout.__eq__" (defArgs s_Layout_eq) (defBody s_Layout_eq) (defScope s_Layout_eq) .none kV_Layout_eq dc_Layout_eq pm_Layout_eq an_Layout_eq cd_Layout_eq ct_Layout_eq), sl_Layout_eq⟩) (c_Layout_eq : PySem.W.codeIn K cd_Layout_eq "Layout.__eq__" = true) (k_Layout_eq : PySem.W.keepIn K (.ref f_Layout_eq) = true)
    (a_Layout_contains : PySem.W.findIn K (.ref C) "__contains__" = some (some (.ref f_Layout_contains))) (i_Layout_contains : PySem.W.isFn K (.ref f_Layout_contains) = true)
    (l_Layout_contains : K.lookup f_Layout_contains = some ⟨oc_Layout_contains, od_Layout_contains, .func (PySem.W.fnOf "__contains__" "Layout.__contains__" (defArgs s_Layout_contains) (defBody s_Layout_contains) (defScope s_Layout_contains) .none kV_Layout_contains dc_Layout_contains pm_Layout_contains an_Layout_contains cd_Layout_contains ct_Layout_contains), sl_Layout_contains⟩) (c_Layout_contains : PySem.W.codeIn K cd_Layout_contains "Layout.__contains__" = true) (k_Layout_contains : PySem.W.keepIn K (.ref f_Layout_contains) = true)
    (a_Layout_length_of : PySem.W.findIn K (.ref C) "length_of" = some (some (.ref f_Layout_length_of))) (i_Layout_length_of : PySem.W.isFn K (.ref f_Layout_length_of) = true)
    (l_Layout_length_of : K.lookup f_Layout_length_of = some ⟨oc_Layout_length_of, od_Layout_length_of, .func (PySem.W.fnOf "length_of" "Layout.length_of" (defArgs s_Layout_length_of) (defBody s_Layout_length_of) (defScope s_Layout_length_of) .none kV_Layout_length_of dc_Layout_length_of pm_Layout_length_of an_Layout_length_of cd_Layout_length_of ct_Layout_length_of), sl_Layout_length_of⟩) (c_Layout_length_of : PySem.W.codeIn K cd_Layout_length_of "Layout.length_of" = true) (k_Layout_length_of : PySem.W.keepIn K (.ref f_Layout_length_of) = true)
    (a_Layout_is_yard : PySem.W.findIn K (.ref C) "is_yard" = some (some (.ref f_Layout_is_yard))) (i_Layout_is_yard : PySem.W.isFn K (.ref f_Layout_is_yard) = true)
    (l_Layout_is_yard : K.lookup f_Layout_is_yard = some ⟨oc_Layout_is_yard, od_Layout_is_yard, .func (PySem.W.fnOf "is_yard" "Layout.is_yard" (defArgs s_Layout_is_yard) (defBody s_Layout_is_yard) (defScope s_Layout_is_yard) .none kV_Layout_is_yard dc_Layout_is_yard pm_Layout_is_yard an_Layout_is_yard cd_Layout_is_yard ct_Layout_is_yard), sl_Layout_is_yard⟩) (c_Layout_is_yard : PySem.W.codeIn K cd_Layout_is_yard "Layout.is_yard" = true) (k_Layout_is_yard : PySem.W.keepIn K (.ref f_Layout_is_yard) = true)
    (a_Layout_east_of : PySem.W.findIn K (.ref C) "east_of" = some (some (.ref f_Layout_east_of))) (i_Layout_east_of : PySem.W.isFn K (.ref f_Layout_east_of) = true)
    (l_Layout_east_of : K.lookup f_Layout_east_of = some ⟨oc_Layout_east_of, od_Layout_east_of, .func (PySem.W.fnOf "east_of" "Layout.east_of" (defArgs s_Layout_east_of) (defBody s_Layout_east_of) (defScope s_Layout_east_of) .none kV_Layout_east_of dc_Layout_east_of pm_Layout_east_of an_Layout_east_of cd_Layout_east_of ct_Layout_east_of), sl_Layout_east_of⟩) (c_Layout_east_of : PySem.W.codeIn K cd_Layout_east_of "Layout.east_of" = true) (k_Layout_east_of : PySem.W.keepIn K (.ref f_Layout_east_of) = true)
    (a_Layout_west_of : PySem.W.findIn K (.ref C) "west_of" = some (some (.ref f_Layout_west_of))) (i_Layout_west_of : PySem.W.isFn K (.ref f_Layout_west_of) = true)
    (l_Layout_west_of : K.lookup f_Layout_west_of = some ⟨oc_Layout_west_of, od_Layout_west_of, .func (PySem.W.fnOf "west_of" "Layout.west_of" (defArgs s_Layout_west_of) (defBody s_Layout_west_of) (defScope s_Layout_west_of) .none kV_Layout_west_of dc_Layout_west_of pm_Layout_west_of an_Layout_west_of cd_Layout_west_of ct_Layout_west_of), sl_Layout_west_of⟩) (c_Layout_west_of : PySem.W.codeIn K cd_Layout_west_of "Layout.west_of" = true) (k_Layout_west_of : PySem.W.keepIn K (.ref f_Layout_west_of) = true)
    (a_Layout_branches : PySem.W.findIn K (.ref C) "branches" = some (some (.ref f_Layout_branches))) (i_Layout_branches : PySem.W.isFn K (.ref f_Layout_branches) = true)
    (l_Layout_branches : K.lookup f_Layout_branches = some ⟨oc_Layout_branches, od_Layout_branches, .func (PySem.W.fnOf "branches" "Layout.branches" (defArgs s_Layout_branches) (defBody s_Layout_branches) (defScope s_Layout_branches) .none kV_Layout_branches dc_Layout_branches pm_Layout_branches an_Layout_branches cd_Layout_branches ct_Layout_branches), sl_Layout_branches⟩) (c_Layout_branches : PySem.W.codeIn K cd_Layout_branches "Layout.branches" = true) (k_Layout_branches : PySem.W.keepIn K (.ref f_Layout_branches) = true)
    (a_Layout_joints : PySem.W.findIn K (.ref C) "joints" = some (some (.ref f_Layout_joints))) (i_Layout_joints : PySem.W.isFn K (.ref f_Layout_joints) = true)
    (l_Layout_joints : K.lookup f_Layout_joints = some ⟨oc_Layout_joints, od_Layout_joints, .func (PySem.W.fnOf "joints" "Layout.joints" (defArgs s_Layout_joints) (defBody s_Layout_joints) (defScope s_Layout_joints) .none kV_Layout_joints dc_Layout_joints pm_Layout_joints an_Layout_joints cd_Layout_joints ct_Layout_joints), sl_Layout_joints⟩) (c_Layout_joints : PySem.W.codeIn K cd_Layout_joints "Layout.joints" = true) (k_Layout_joints : PySem.W.keepIn K (.ref f_Layout_joints) = true)
    (a_Layout_points : PySem.W.findIn K (.ref C) "points" = some (some (.ref f_Layout_points))) (i_Layout_points : PySem.W.isFn K (.ref f_Layout_points) = true)
    (l_Layout_points : K.lookup f_Layout_points = some ⟨oc_Layout_points, od_Layout_points, .func (PySem.W.fnOf "points" "Layout.points" (defArgs s_Layout_points) (defBody s_Layout_points) (defScope s_Layout_points) .none kV_Layout_points dc_Layout_points pm_Layout_points an_Layout_points cd_Layout_points ct_Layout_points), sl_Layout_points⟩) (c_Layout_points : PySem.W.codeIn K cd_Layout_points "Layout.points" = true) (k_Layout_points : PySem.W.keepIn K (.ref f_Layout_points) = true)
    (g_RailError : PySem.W.nsIn K mainGlobals "RailError" = some (some (.ref A_RailError)))
    (g_NoBlock : PySem.W.nsIn K mainGlobals "NoBlock" = some (some (.ref CN)))
    (x_NoBlock : K.lookup CN = some (excClassObj nm_NoBlock q_NoBlock CN N_NoBlock bs_NoBlock (.ref A_RailError :: [.type "ValueError", .type "Exception", .type "BaseException", .type "object"]) true sn_NoBlock sub_NoBlock ab_NoBlock col_NoBlock dd_NoBlock m0_NoBlock m1_NoBlock m2_NoBlock m3_NoBlock m5_NoBlock "ValueError.__new__"))
    (sa_NoBlock : PySem.W.findIn K (.ref CN) "__setattr__" = some (some (.builtin "object.__setattr__"))) (ga_NoBlock : PySem.W.findIn K (.ref CN) "__getattribute__" = some (some (.builtin "BaseException.__getattribute__"))) (gg_NoBlock : PySem.W.findIn K (.ref CN) "__getattr__" = some none)
    (eC_NoBlock : PySem.W.subIn K (.ref CN) (.type "BaseException") = some true) (tC_NoBlock : PySem.W.typeIn K (.ref CN) = some (.type "type")) (kC_NoBlock : PySem.W.keepIn K (.ref CN) = true) (hC_NoBlock : PySem.W.hasDictIn K CN = true) (iC_NoBlock : PySem.W.isClsIn K CN = true) (sC_NoBlock : PySem.W.subIn K (.ref CN) (.ref CN) = some true)
    (ca_NoBlock : PySem.W.findIn K (.ref CN) "__class__" = some (some (.builtin "object.__class__"))) (cm_NoBlock : PySem.W.mroIn K CN (.type "object") = some true)
    (no_NoBlock_block : PySem.W.findIn K (.ref CN) "block" = some none)
    (a_NoBlock_init : PySem.W.findIn K (.ref CN) "__init__" = some (some (.ref f_NoBlock_init))) (t_NoBlock_init : PySem.W.typeIn K (.ref f_NoBlock_init) = some (.type "function"))
    (l_NoBlock_init : K.lookup f_NoBlock_init = some ⟨oc_NoBlock_init, od_NoBlock_init, .func (PySem.W.fnOf "__init__" "NoBlock.__init__" (defArgs s_NoBlock_init) (defBody s_NoBlock_init) (defScope s_NoBlock_init) .none kV_NoBlock_init dc_NoBlock_init pm_NoBlock_init an_NoBlock_init cd_NoBlock_init ct_NoBlock_init), sl_NoBlock_init⟩) (c_NoBlock_init : PySem.W.codeIn K cd_NoBlock_init "NoBlock.__init__" = true) (k_NoBlock_init : PySem.W.keepIn K (.ref f_NoBlock_init) = true)
    (oc_n : PySem.W.specialIn K (.builtin "object.__class__") "__get__" = some (some (.builtin "getset_descriptor.__get__"))) (oc_t : PySem.W.takesIn K (.builtin "object.__class__") = some true)
    (pg : PySem.W.plainGet K C Str.empty = true) (hd : PySem.W.hasDictIn K C = true) (po : PySem.W.plainOver K C = true) (sa : PySem.W.findIn K (.ref C) "__setattr__" = some (some (.builtin "object.__setattr__"))) (mk : PySem.W.makesIn K C = true) (kc : PySem.W.keepIn K (.ref C) = true)
    (n_size : PySem.W.findIn K (.ref C) "size" = some none)
    (n_lens : PySem.W.findIn K (.ref C) "_lengths" = some none)
    (n_marks : PySem.W.findIn K (.ref C) "_yard_marks" = some none)
    (n_east : PySem.W.findIn K (.ref C) "_east" = some none)
    (n_west : PySem.W.findIn K (.ref C) "_west" = some none)
    (z_len : PySem.W.nsIn K mainGlobals "len" = some none)
    (z_abs : PySem.W.nsIn K mainGlobals "abs" = some none)
    (z_min : PySem.W.nsIn K mainGlobals "min" = some none)
    (z_range : PySem.W.nsIn K mainGlobals "range" = some none)
    (z_int : PySem.W.nsIn K mainGlobals "int" = some none)
    (z_str : PySem.W.nsIn K mainGlobals "str" = some none)
    (z_bool : PySem.W.nsIn K mainGlobals "bool" = some none)
    (z_list : PySem.W.nsIn K mainGlobals "list" = some none)
    (z_tuple : PySem.W.nsIn K mainGlobals "tuple" = some none)
    (z_sorted : PySem.W.nsIn K mainGlobals "sorted" = some none)
    (z_isinstance : PySem.W.nsIn K mainGlobals "isinstance" = some none)
    (ca_C : PySem.W.findIn K (.ref C) "__class__" = some (some (.builtin "object.__class__"))) (cm_C : PySem.W.mroIn K C (.type "object") = some true) (kk_C : PySem.W.kitOne K (.ref C) (.ref C) = some true)
    (nf_NoneType : PySem.W.subIn K (.type "NoneType") (.ref C) = some false) (ko_NoneType : PySem.W.kitOne K (.type "NoneType") (.ref C) = some false)
    (nf_bool : PySem.W.subIn K (.type "bool") (.ref C) = some false) (ko_bool : PySem.W.kitOne K (.type "bool") (.ref C) = some false)
    (nf_int : PySem.W.subIn K (.type "int") (.ref C) = some false) (ko_int : PySem.W.kitOne K (.type "int") (.ref C) = some false)
    (nf_str : PySem.W.subIn K (.type "str") (.ref C) = some false) (ko_str : PySem.W.kitOne K (.type "str") (.ref C) = some false)
    (nf_list : PySem.W.subIn K (.type "list") (.ref C) = some false) (ko_list : PySem.W.kitOne K (.type "list") (.ref C) = some false)
    (nf_tuple : PySem.W.subIn K (.type "tuple") (.ref C) = some false) (ko_tuple : PySem.W.kitOne K (.type "tuple") (.ref C) = some false) :
    ∃ fd : FuncData, (∀ (s : Shared) (v : Value), BindsTo s fd ⟨[v], []⟩ [("_law_script", v)]) ∧ ∀ base : Heap, K.In base → base.Ns mainGlobals mg → FnOk l.prog w K mg base CX0 10 fa fd ["_law_script"] (spLaw K) := by
  have e := hfa.symm.trans (PySem.W.mg_of X G a_law)
  cases e
  have T : Cl K C := ⟨⟨pg, hd, po, sa⟩, n_size, n_lens, n_marks, n_east, n_west⟩
  have B : Blt mg := ⟨PySem.W.mg_none_of X G z_len, PySem.W.mg_none_of X G z_abs, PySem.W.mg_none_of X G z_min, PySem.W.mg_none_of X G z_range, PySem.W.mg_none_of X G z_int, PySem.W.mg_none_of X G z_str, PySem.W.mg_none_of X G z_bool, PySem.W.mg_none_of X G z_list, PySem.W.mg_none_of X G z_tuple, PySem.W.mg_none_of X G z_sorted, PySem.W.mg_none_of X G z_isinstance⟩
  have F_check_block := fun_mk (st := s_check_block) l_check_block c_check_block k_check_block
  have F_check_blocks := fun_mk (st := s_check_blocks) l_check_blocks c_check_blocks k_check_blocks
  have F_is_point := fun_mk (st := s_is_point) l_is_point c_is_point k_is_point
  have F_cell := fun_mk (st := s_cell) l_cell c_cell k_cell
  have F_draw := fun_mk (st := s_draw) l_draw c_draw k_draw
  have F_same := fun_mk (st := s_same) l_same c_same k_same
  have F_track := fun_mk (st := s_track) l_track c_track k_track
  have F_mixed := fun_mk (st := s_mixed) l_mixed c_mixed k_mixed
  have F_changed := fun_mk (st := s_changed) l_changed c_changed k_changed
  have F_alike := fun_mk (st := s_alike) l_alike c_alike k_alike
  have F_lists := fun_mk (st := s_lists) l_lists c_lists k_lists
  have F_wanted := fun_mk (st := s_wanted) l_wanted c_wanted k_wanted
  have F_fits := fun_mk (st := s_fits) l_fits c_fits k_fits
  have F_law := fun_mk (st := s_law) l_law c_law k_law
  have F_Layout_init := fun_mk (st := s_Layout_init) l_Layout_init c_Layout_init k_Layout_init
  have F_Layoutadd_joint := fun_mk (st := s_Layoutadd_joint) l_Layoutadd_joint c_Layoutadd_joint k_Layoutadd_joint
  have F_Layout_eq := fun_mk (st := s_Layout_eq) l_Layout_eq c_Layout_eq k_Layout_eq
  have F_Layout_contains := fun_mk (st := s_Layout_contains) l_Layout_contains c_Layout_contains k_Layout_contains
  have F_Layout_length_of := fun_mk (st := s_Layout_length_of) l_Layout_length_of c_Layout_length_of k_Layout_length_of
  have F_Layout_is_yard := fun_mk (st := s_Layout_is_yard) l_Layout_is_yard c_Layout_is_yard k_Layout_is_yard
  have F_Layout_east_of := fun_mk (st := s_Layout_east_of) l_Layout_east_of c_Layout_east_of k_Layout_east_of
  have F_Layout_west_of := fun_mk (st := s_Layout_west_of) l_Layout_west_of c_Layout_west_of k_Layout_west_of
  have F_Layout_branches := fun_mk (st := s_Layout_branches) l_Layout_branches c_Layout_branches k_Layout_branches
  have F_Layout_joints := fun_mk (st := s_Layout_joints) l_Layout_joints c_Layout_joints k_Layout_joints
  have F_Layout_points := fun_mk (st := s_Layout_points) l_Layout_points c_Layout_points k_Layout_points
  have F_NoBlock_init := fun_mk (st := s_NoBlock_init) l_NoBlock_init c_NoBlock_init k_NoBlock_init
  have b_check_block := F_check_block.binds (ps := ["layout", "block"]) fun _ _ _ _ _ _ us hl => match us, hl with | [_, _], _ => rfl
  have b_check_blocks := F_check_blocks.binds (ps := ["layout", "blocks"]) fun _ _ _ _ _ _ us hl => match us, hl with | [_, _], _ => rfl
  have b_is_point := F_is_point.binds (ps := ["layout", "block", "side"]) fun _ _ _ _ _ _ us hl => match us, hl with | [_, _, _], _ => rfl
  have b_cell := F_cell.binds (ps := ["_law_script", "_law_k"]) fun _ _ _ _ _ _ us hl => match us, hl with | [_, _], _ => rfl
  have b_draw := F_draw.binds (ps := ["_law_cell_here", "_law_k", "_law_size"]) fun _ _ _ _ _ _ us hl => match us, hl with | [_, _, _], _ => rfl
  have b_same := F_same.binds (ps := ["_law_actual", "_law_wanted_here"]) fun _ _ _ _ _ _ us hl => match us, hl with | [_, _], _ => rfl
  have b_track := F_track.binds (ps := ["_law_cell_here", "_law_most"]) fun _ _ _ _ _ _ us hl => match us, hl with | [_, _], _ => rfl
  have b_mixed := F_mixed.binds (ps := ["_law_row", "_law_cell_here"]) fun _ _ _ _ _ _ us hl => match us, hl with | [_, _], _ => rfl
  have b_changed := F_changed.binds (ps := ["_law_track_here", "_law_cell_here"]) fun _ _ _ _ _ _ us hl => match us, hl with | [_, _], _ => rfl
  have b_alike := F_alike.binds (ps := ["_law_track_here", "_law_other"]) fun _ _ _ _ _ _ us hl => match us, hl with | [_, _], _ => rfl
  have b_lists := F_lists.binds (ps := ["_law_layout", "_law_size"]) fun _ _ _ _ _ _ us hl => match us, hl with | [_, _], _ => rfl
  have b_wanted := F_wanted.binds (ps := ["_law_track_here"]) fun _ _ _ _ _ _ us hl => match us, hl with | [_], _ => rfl
  have b_fits := F_fits.binds (ps := ["_law_layout", "_law_track_here"]) fun _ _ _ _ _ _ us hl => match us, hl with | [_, _], _ => rfl
  have b_Layoutadd_joint := F_Layoutadd_joint.binds (ps := ["self", "west", "east"]) fun _ _ _ _ _ _ us hl => match us, hl with | [_, _, _], _ => rfl
  have b_Layout_eq := F_Layout_eq.binds (ps := ["self", "other"]) fun _ _ _ _ _ _ us hl => match us, hl with | [_, _], _ => rfl
  have b_Layout_contains := F_Layout_contains.binds (ps := ["self", "block"]) fun _ _ _ _ _ _ us hl => match us, hl with | [_, _], _ => rfl
  have b_Layout_length_of := F_Layout_length_of.binds (ps := ["self", "block"]) fun _ _ _ _ _ _ us hl => match us, hl with | [_, _], _ => rfl
  have b_Layout_is_yard := F_Layout_is_yard.binds (ps := ["self", "block"]) fun _ _ _ _ _ _ us hl => match us, hl with | [_, _], _ => rfl
  have b_Layout_east_of := F_Layout_east_of.binds (ps := ["self", "block"]) fun _ _ _ _ _ _ us hl => match us, hl with | [_, _], _ => rfl
  have b_Layout_west_of := F_Layout_west_of.binds (ps := ["self", "block"]) fun _ _ _ _ _ _ us hl => match us, hl with | [_, _], _ => rfl
  have b_Layout_branches := F_Layout_branches.binds (ps := ["self", "block", "side"]) fun _ _ _ _ _ _ us hl => match us, hl with | [_, _, _], _ => rfl
  have b_Layout_joints := F_Layout_joints.binds (ps := ["self"]) fun _ _ _ _ _ _ us hl => match us, hl with | [_], _ => rfl
  have b_Layout_points := F_Layout_points.binds (ps := ["self"]) fun _ _ _ _ _ _ us hl => match us, hl with | [_], _ => rfl
  have b_NoBlock_init := F_NoBlock_init.binds (ps := ["self", "block"]) fun _ _ _ _ _ _ us hl => match us, hl with | [_, _], _ => rfl
  have bI : KBn K _ ["self", "lengths", "joints", "yards"] 3 ["yards"] ggI (fun vs zs => vs ++ zs) := ⟨fun s us ws _ l1 l2 => match us, ws, l1, l2 with | [_, _, _], [_], _, _ => .of_eq (fd := PySem.W.fnOf "__init__" "Layout.__init__" (defArgs s_Layout_init) (defBody s_Layout_init) (defScope s_Layout_init) .none kV_Layout_init dc_Layout_init pm_Layout_init an_Layout_init cd_Layout_init ct_Layout_init) rfl, fun r1 r2 => r1.append r2⟩
  refine ⟨PySem.W.fnOf "law" "law" (defArgs s_law) (defBody s_law) (defScope s_law) .none kV_law dc_law pm_law an_law cd_law ct_law, fun s v => .of_eq rfl, fun base _ _ => ?_⟩
  have X_NoBlock : XfC K CN := ⟨ga_NoBlock, gg_NoBlock, eC_NoBlock, hC_NoBlock⟩
  have O_NoBlock : OexC K CN := ⟨⟨_, _, _, _, _, _, _, _, _, _, _, _, _, _, _, x_NoBlock, rfl⟩, sa_NoBlock, eC_NoBlock, tC_NoBlock, kC_NoBlock⟩
  have E_NoBlock : Err l.prog w K mg base "NoBlock" CN f_NoBlock_init _ _ _ := ⟨O_NoBlock, X_NoBlock, a_NoBlock_init, t_NoBlock_init, ok_nb O_NoBlock no_NoBlock_block F_NoBlock_init, b_NoBlock_init, PySem.W.mg_of X G g_NoBlock⟩
  have V_NoBlock : ExcC K CN := ⟨ga_NoBlock, gg_NoBlock, eC_NoBlock, hC_NoBlock, ca_NoBlock, oc_n, oc_t, cm_NoBlock⟩
  have Z_NoBlock : ErrK K mg "NoBlock" CN := ⟨X_NoBlock, V_NoBlock, PySem.W.mg_of X G g_NoBlock, exm_sub eC_NoBlock iC_NoBlock tC_NoBlock sC_NoBlock⟩
  have C_Layout_contains : CalM l.prog w K mg base C "__contains__" _ _ _ := ⟨f_Layout_contains, _, ok_contains T F_Layout_contains, ⟨a_Layout_contains, i_Layout_contains, k_Layout_contains⟩, b_Layout_contains⟩
  have C_check_block : CalX l.prog w K mg base "check_block" _ _ _ := ⟨f_check_block, _, ok_check_block E_NoBlock F_check_block C_Layout_contains, PySem.W.mg_of X G a_check_block, k_check_block, b_check_block⟩
  have C_check_blocks : Cal l.prog w K mg base "check_blocks" _ _ _ := ⟨f_check_blocks, _, ok_check_blocks F_check_blocks C_check_block, PySem.W.mg_of X G a_check_blocks, k_check_blocks, b_check_blocks⟩
  have C_Layout_is_yard : CalMX l.prog w K mg base C "is_yard" _ _ _ := ⟨f_Layout_is_yard, _, ok_is_yard T F_Layout_is_yard C_check_block, ⟨a_Layout_is_yard, i_Layout_is_yard, k_Layout_is_yard⟩, b_Layout_is_yard⟩
  have C_Layout_length_of : CalMX l.prog w K mg base C "length_of" _ _ _ := ⟨f_Layout_length_of, _, ok_length_of T F_Layout_length_of C_check_block, ⟨a_Layout_length_of, i_Layout_length_of, k_Layout_length_of⟩, b_Layout_length_of⟩
  have C_Layout_east_of : CalMX l.prog w K mg base C "east_of" _ _ _ := ⟨f_Layout_east_of, _, ok_east_of T B F_Layout_east_of C_check_block, ⟨a_Layout_east_of, i_Layout_east_of, k_Layout_east_of⟩, b_Layout_east_of⟩
  have C_Layout_west_of : CalMX l.prog w K mg base C "west_of" _ _ _ := ⟨f_Layout_west_of, _, ok_west_of T B F_Layout_west_of C_check_block, ⟨a_Layout_west_of, i_Layout_west_of, k_Layout_west_of⟩, b_Layout_west_of⟩
  have C_Layout_branches : CalMX l.prog w K mg base C "branches" _ _ _ := ⟨f_Layout_branches, _, ok_branches T C_Layout_east_of C_Layout_west_of F_Layout_branches, ⟨a_Layout_branches, i_Layout_branches, k_Layout_branches⟩, b_Layout_branches⟩
  have C_is_point : Cal l.prog w K mg base "is_point" _ _ _ := ⟨f_is_point, _, ok_is_point T B F_is_point C_Layout_is_yard C_Layout_branches, PySem.W.mg_of X G a_is_point, k_is_point, b_is_point⟩
  have C_Layout_joints : CalM l.prog w K mg base C "joints" _ _ _ := ⟨f_Layout_joints, _, ok_joints T B F_Layout_joints, ⟨a_Layout_joints, i_Layout_joints, k_Layout_joints⟩, b_Layout_joints⟩
  have C_Layout_points : CalM l.prog w K mg base C "points" _ _ _ := ⟨f_Layout_points, _, ok_points T B F_Layout_points C_is_point, ⟨a_Layout_points, i_Layout_points, k_Layout_points⟩, b_Layout_points⟩
  have C_Layoutadd_joint : CalM l.prog w K mg base C "_add_joint" _ _ _ := ⟨f_Layoutadd_joint, _, ok_add T B F_Layoutadd_joint C_check_block, ⟨a_Layoutadd_joint, i_Layoutadd_joint, k_Layoutadd_joint⟩, b_Layoutadd_joint⟩
  have G_init := ok_init (P := l.prog) (w := w) (base := base) T B F_Layout_init C_check_blocks C_Layoutadd_joint
  have C_cell : Cal l.prog w K mg base "_law_cell" _ _ _ := ⟨f_cell, _, ok_cell B F_cell, PySem.W.mg_of X G a_cell, k_cell, b_cell⟩
  have C_draw : Cal l.prog w K mg base "_law_draw" _ _ _ := ⟨f_draw, _, ok_draw B F_draw, PySem.W.mg_of X G a_draw, k_draw, b_draw⟩
  have C_same0 : Cal l.prog w K mg base "_law_same" _ _ _ := ⟨f_same, _, ok_same0 B F_same, PySem.W.mg_of X G a_same, k_same, b_same⟩
  have C_same1 : Cal l.prog w K mg base "_law_same" _ _ _ := ⟨f_same, _, ok_sameS B F_same C_same0, PySem.W.mg_of X G a_same, k_same, b_same⟩
  have C_same2 : Cal l.prog w K mg base "_law_same" _ _ _ := ⟨f_same, _, ok_sameS B F_same C_same1, PySem.W.mg_of X G a_same, k_same, b_same⟩
  have C_same3 : Cal l.prog w K mg base "_law_same" _ _ _ := ⟨f_same, _, ok_sameS B F_same C_same2, PySem.W.mg_of X G a_same, k_same, b_same⟩
  have C_same4 : Cal l.prog w K mg base "_law_same" _ _ _ := ⟨f_same, _, ok_sameS B F_same C_same3, PySem.W.mg_of X G a_same, k_same, b_same⟩
  have C_track : Cal l.prog w K mg base "_law_track" _ _ _ := ⟨f_track, _, ok_track B F_track C_draw, PySem.W.mg_of X G a_track, k_track, b_track⟩
  have C_mixed : Cal l.prog w K mg base "_law_mixed" _ _ _ := ⟨f_mixed, _, ok_mix B F_mixed C_draw, PySem.W.mg_of X G a_mixed, k_mixed, b_mixed⟩
  have C_changed : Cal l.prog w K mg base "_law_changed" _ _ _ := ⟨f_changed, _, ok_chg B F_changed C_draw, PySem.W.mg_of X G a_changed, k_changed, b_changed⟩
  have C_alike : Cal l.prog w K mg base "_law_alike" _ _ _ := ⟨f_alike, _, ok_alk B F_alike, PySem.W.mg_of X G a_alike, k_alike, b_alike⟩
  have C_lists : Cal l.prog w K mg base "_law_lists" _ _ _ := ⟨f_lists, _, ok_lst T B F_lists C_Layout_joints C_Layout_points C_Layout_east_of C_Layout_west_of C_Layout_branches, PySem.W.mg_of X G a_lists, k_lists, b_lists⟩
  have C_wanted : Cal l.prog w K mg base "_law_wanted" _ _ _ := ⟨f_wanted, _, ok_wnt B F_wanted, PySem.W.mg_of X G a_wanted, k_wanted, b_wanted⟩
  have C_fits : Cal l.prog w K mg base "_law_fits" _ _ _ := ⟨f_fits, _, ok_fit T B F_fits C_lists C_wanted C_same3 C_Layout_length_of C_Layout_is_yard, PySem.W.mg_of X G a_fits, k_fits, b_fits⟩
  have hty : ∀ n ∈ (["NoneType", "bool", "int", "str", "list", "tuple"] : List String), PySem.W.notFirst K C (.type n) = true ∧ PySem.W.kitOne K (.type n) (.ref C) = some false := fun n hn => by
    simp only [List.mem_cons, List.not_mem_nil, or_false] at hn
    rcases hn with rfl | rfl | rfl | rfl | rfl | rfl
    · exact ⟨nf_of nf_NoneType, ko_NoneType⟩
    · exact ⟨nf_of nf_bool, ko_bool⟩
    · exact ⟨nf_of nf_int, ko_int⟩
    · exact ⟨nf_of nf_str, ko_str⟩
    · exact ⟨nf_of nf_list, ko_list⟩
    · exact ⟨nf_of nf_tuple, ko_tuple⟩
  exact ok_law T B F_law C_cell C_track C_mixed C_changed ⟨f_Layout_init, _, ⟨mk, a_Layout_init, i_Layout_init, kc⟩, G_init, bI, PySem.W.mg_of X G aC⟩ C_same4 C_fits C_alike C_lists ⟨f_Layout_eq, _, ok_eq T B (PySem.W.mg_of X G aC) ca_C oc_n oc_t cm_C kk_C F_Layout_eq, a_Layout_eq, i_Layout_eq, b_Layout_eq⟩ (by simp [PySem.W.notFirst]) hty
theorem walk {l : PySem.W.OpenLaw} {q : Program} {loose : List Str} {XP : (Str → Option Value) → Heap → Prop} {YP : World → Heap → Prop} {d : DefRec} {K : Params → PySem.W.Frag} (hn : l.most = some 63) (hdf : d.params.defaults = [])
    (hY : ∀ (w : World) (h : Heap), YP w h → (K w.params).In h)
    (F : ∀ (w : World) (mg : Str → Option Value) (fa : Addr) (h : Heap), (K w.params).In h → h.Ns mainGlobals mg → mg d.name = some (.ref fa) →
      ∃ fd : FuncData, (∀ (s : Shared) (u : Value), BindsTo s fd ⟨[u], []⟩ [("_law_script", u)]) ∧ ∀ base : Heap, (K w.params).In base → base.Ns mainGlobals mg → FnOk l.prog w (K w.params) mg base CX0 10 fa fd ["_law_script"] (spLaw (K w.params))) :
    PySem.W.WalkO q loose XP YP l.row.toRowW d [] (fun f vs => PySem.call f vs) :=
  L2.walk_of (n := 63) (k := 10) (x := "_law_script") (CX := fun _ => CX0) (sp := fun w => spLaw (K w.params)) hn (by decide) hdf ⟨rfl, by decide, by decide⟩ hY F (fun _ _ a ns hl _ hS => ⟨a, ns, rfl, hS, hl, fun _ => rfl⟩) fun _ _ _ _ _ z => z
end Kx

set_option Elab.async false
open PySem PySem.W PyProof.Rows in
set_option maxRecDepth 100000 in
set_option maxHeartbeats 0 in
theorem PySem.Challenge.cw_railhouse_k03_equal_layouts_and_copies_holds : PySem.Challenge.rw_railhouse_k03_equal_layouts_and_copies.Holds := by
  w_on; o_law; k_head; (case hw => w_witness2)
  k_fill
  refine Kx.walk (l := PySem.Challenge.rw_railhouse_k03_equal_layouts_and_copies) rfl rfl (fun w h Y => PySem.W.kIn_of Y) ?F
  case F =>
    intro w mg fa h KX G hmg
    refine' Kx.all_mk KX G hmg ?aC ?a_check_block ?l_check_block ?c_check_block ?k_check_block ?a_check_blocks ?l_check_blocks ?c_check_blocks ?k_check_blocks ?a_is_point ?l_is_point ?c_is_point ?k_is_point ?a_cell ?l_cell ?c_cell ?k_cell ?a_draw ?l_draw ?c_draw ?k_draw ?a_same ?l_same ?c_same ?k_same ?a_track ?l_track ?c_track ?k_track ?a_mixed ?l_mixed ?c_mixed ?k_mixed ?a_changed ?l_changed ?c_changed ?k_changed ?a_alike ?l_alike ?c_alike ?k_alike ?a_lists ?l_lists ?c_lists ?k_lists ?a_wanted ?l_wanted ?c_wanted ?k_wanted ?a_fits ?l_fits ?c_fits ?k_fits ?a_law ?l_law ?c_law ?k_law ?a_Layout_init ?i_Layout_init ?l_Layout_init ?c_Layout_init ?k_Layout_init ?a_Layoutadd_joint ?i_Layoutadd_joint ?l_Layoutadd_joint ?c_Layoutadd_joint ?k_Layoutadd_joint ?a_Layout_eq ?i_Layout_eq ?l_Layout_eq ?c_Layout_eq ?k_Layout_eq ?a_Layout_contains ?i_Layout_contains ?l_Layout_contains ?c_Layout_contains ?k_Layout_contains ?a_Layout_length_of ?i_Layout_length_of ?l_Layout_length_of ?c_Layout_length_of ?k_Layout_length_of ?a_Layout_is_yard ?i_Layout_is_yard ?l_Layout_is_yard ?c_Layout_is_yard ?k_Layout_is_yard ?a_Layout_east_of ?i_Layout_east_of ?l_Layout_east_of ?c_Layout_east_of ?k_Layout_east_of ?a_Layout_west_of ?i_Layout_west_of ?l_Layout_west_of ?c_Layout_west_of ?k_Layout_west_of ?a_Layout_branches ?i_Layout_branches ?l_Layout_branches ?c_Layout_branches ?k_Layout_branches ?a_Layout_joints ?i_Layout_joints ?l_Layout_joints ?c_Layout_joints ?k_Layout_joints ?a_Layout_points ?i_Layout_points ?l_Layout_points ?c_Layout_points ?k_Layout_points ?g_RailError ?g_NoBlock ?x_NoBlock ?sa_NoBlock ?ga_NoBlock ?gg_NoBlock ?eC_NoBlock ?tC_NoBlock ?kC_NoBlock ?hC_NoBlock ?iC_NoBlock ?sC_NoBlock ?ca_NoBlock ?cm_NoBlock ?no_NoBlock_block ?a_NoBlock_init ?t_NoBlock_init ?l_NoBlock_init ?c_NoBlock_init ?k_NoBlock_init ?oc_n ?oc_t ?pg ?hd ?po ?sa ?mk ?kc ?n_size ?n_lens ?n_marks ?n_east ?n_west ?z_len ?z_abs ?z_min ?z_range ?z_int ?z_str ?z_bool ?z_list ?z_tuple ?z_sorted ?z_isinstance ?ca_C ?cm_C ?kk_C ?nf_NoneType ?ko_NoneType ?nf_bool ?ko_bool ?nf_int ?ko_int ?nf_str ?ko_str ?nf_list ?ko_list ?nf_tuple ?ko_tuple
    (case aC => k_is)
    (case a_check_block => k_is)
    (case l_check_block => k_is)
    (case c_check_block => k_is)
    (case k_check_block => k_is)
    (case a_check_blocks => k_is)
    (case l_check_blocks => k_is)
    (case c_check_blocks => k_is)
    (case k_check_blocks => k_is)
    (case a_is_point => k_is)
    (case l_is_point => k_is)
    (case c_is_point => k_is)
    (case k_is_point => k_is)
    (case a_cell => k_is)
    (case l_cell => k_is)
    (case c_cell => k_is)
    (case k_cell => k_is)
    (case a_draw => k_is)
    (case l_draw => k_is)
    (case c_draw => k_is)
    (case k_draw => k_is)
    (case a_same => k_is)
    (case l_same => k_is)
    (case c_same => k_is)
    (case k_same => k_is)
    (case a_track => k_is)
    (case l_track => k_is)
    (case c_track => k_is)
    (case k_track => k_is)
    (case a_mixed => k_is)
    (case l_mixed => k_is)
    (case c_mixed => k_is)
    (case k_mixed => k_is)
    (case a_changed => k_is)
    (case l_changed => k_is)
    (case c_changed => k_is)
    (case k_changed => k_is)
    (case a_alike => k_is)
    (case l_alike => k_is)
    (case c_alike => k_is)
    (case k_alike => k_is)
    (case a_lists => k_is)
    (case l_lists => k_is)
    (case c_lists => k_is)
    (case k_lists => k_is)
    (case a_wanted => k_is)
    (case l_wanted => k_is)
    (case c_wanted => k_is)
    (case k_wanted => k_is)
    (case a_fits => k_is)
    (case l_fits => k_is)
    (case c_fits => k_is)
    (case k_fits => k_is)
    (case a_law => k_is)
    (case l_law => k_is)
    (case c_law => k_is)
    (case k_law => k_is)
    (case a_Layout_init => k_is)
    (case i_Layout_init => k_is)
    (case l_Layout_init => k_is)
    (case c_Layout_init => k_is)
    (case k_Layout_init => k_is)
    (case a_Layoutadd_joint => k_is)
    (case i_Layoutadd_joint => k_is)
    (case l_Layoutadd_joint => k_is)
    (case c_Layoutadd_joint => k_is)
    (case k_Layoutadd_joint => k_is)
    (case a_Layout_eq => k_is)
    (case i_Layout_eq => k_is)
    (case l_Layout_eq => k_is)
    (case c_Layout_eq => k_is)
    (case k_Layout_eq => k_is)
    (case a_Layout_contains => k_is)
    (case i_Layout_contains => k_is)
    (case l_Layout_contains => k_is)
    (case c_Layout_contains => k_is)
    (case k_Layout_contains => k_is)
    (case a_Layout_length_of => k_is)
    (case i_Layout_length_of => k_is)
    (case l_Layout_length_of => k_is)
    (case c_Layout_length_of => k_is)
    (case k_Layout_length_of => k_is)
    (case a_Layout_is_yard => k_is)
    (case i_Layout_is_yard => k_is)
    (case l_Layout_is_yard => k_is)
    (case c_Layout_is_yard => k_is)
    (case k_Layout_is_yard => k_is)
    (case a_Layout_east_of => k_is)
    (case i_Layout_east_of => k_is)
    (case l_Layout_east_of => k_is)
    (case c_Layout_east_of => k_is)
    (case k_Layout_east_of => k_is)
    (case a_Layout_west_of => k_is)
    (case i_Layout_west_of => k_is)
    (case l_Layout_west_of => k_is)
    (case c_Layout_west_of => k_is)
    (case k_Layout_west_of => k_is)
    (case a_Layout_branches => k_is)
    (case i_Layout_branches => k_is)
    (case l_Layout_branches => k_is)
    (case c_Layout_branches => k_is)
    (case k_Layout_branches => k_is)
    (case a_Layout_joints => k_is)
    (case i_Layout_joints => k_is)
    (case l_Layout_joints => k_is)
    (case c_Layout_joints => k_is)
    (case k_Layout_joints => k_is)
    (case a_Layout_points => k_is)
    (case i_Layout_points => k_is)
    (case l_Layout_points => k_is)
    (case c_Layout_points => k_is)
    (case k_Layout_points => k_is)
    (case g_RailError => k_is)
    (case g_NoBlock => k_is)
    (case x_NoBlock => k_is)
    (case sa_NoBlock => k_is)
    (case ga_NoBlock => k_is)
    (case gg_NoBlock => k_is)
    (case eC_NoBlock => k_is)
    (case tC_NoBlock => k_is)
    (case kC_NoBlock => k_is)
    (case hC_NoBlock => k_is)
    (case iC_NoBlock => k_is)
    (case sC_NoBlock => first | rfl | k_is)
    (case ca_NoBlock => k_is)
    (case cm_NoBlock => k_is)
    (case no_NoBlock_block => k_is)
    (case a_NoBlock_init => k_is)
    (case t_NoBlock_init => k_is)
    (case l_NoBlock_init => k_is)
    (case c_NoBlock_init => k_is)
    (case k_NoBlock_init => k_is)
    (case oc_n => k_is)
    (case oc_t => k_is)
    (case pg => k_is)
    (case hd => k_is)
    (case po => k_is)
    (case sa => k_is)
    (case mk => k_is)
    (case kc => k_is)
    (case n_size => k_is)
    (case n_lens => k_is)
    (case n_marks => k_is)
    (case n_east => k_is)
    (case n_west => k_is)
    (case z_len => k_is)
    (case z_abs => k_is)
    (case z_min => k_is)
    (case z_range => k_is)
    (case z_int => k_is)
    (case z_str => k_is)
    (case z_bool => k_is)
    (case z_list => k_is)
    (case z_tuple => k_is)
    (case z_sorted => k_is)
    (case z_isinstance => k_is)
    (case ca_C => k_is)
    (case cm_C => k_is)
    (case kk_C => first | rfl | kit_is)
    (case nf_NoneType => first | rfl | k_is)
    (case ko_NoneType => first | rfl | kit_is)
    (case nf_bool => first | rfl | k_is)
    (case ko_bool => first | rfl | kit_is)
    (case nf_int => first | rfl | k_is)
    (case ko_int => first | rfl | kit_is)
    (case nf_str => first | rfl | k_is)
    (case ko_str => first | rfl | kit_is)
    (case nf_list => first | rfl | k_is)
    (case ko_list => first | rfl | kit_is)
    (case nf_tuple => first | rfl | k_is)
    (case ko_tuple => first | rfl | kit_is)

#print axioms PySem.Challenge.cw_railhouse_k03_equal_layouts_and_copies_holds
