import PyProof.Rows.All
import Wide.All
import OpenK.AllK
import Wide.FinOn
import HandS.ForMost
import HandS.Evl
import HandS.Deep
import HandS.Defaults
import HandS.MakeKwOnly
import HandS.IsInst
import HandS.Style
import HandS.SortRule
import HandS.SortInts
import HandS.Wide
import HandS.Rev
import KE.KSortTupAny
import HandS.ExcInit
import HandS.ExcField
import HandS.TryMany
import HandS.WordsExc
import HandS.ExcOwn
import HandS.CallSlots
import HandS.ExcIs
import KE.KExcIs
import HandS.Conv
import HandS.More
import HandS.Zip
import HandS.SetFor
import HandS.OwnEq
import HandS.Walk
import HandS.SetKeys
import KE.SortData
import HandS.TupLe
import HandS.RevRange
import KE.RegKIsAll
import PySem.Challenge.RW_railhouse_k20_releases_of_a_train
set_option Elab.async false
set_option linter.all false
set_option maxRecDepth 100000
set_option maxHeartbeats 4000000
/-! A layer of our own: G is what is known of the heap H. -/
namespace Lw
open PySem L2
open Evl (Ex)

/-! ### what is known grows -/
def Gr (G G' H H' : Hp) : Prop := Ex G G' ∧ Ex G' H' ∧ Ex H H' ∧ ∀ a, H a ≠ none → G a = none → G' a = none
theorem exTrans {H H1 H2 : Hp} (a : Ex H H1) (b : Ex H1 H2) : Ex H H2 := Ex.trans a b
theorem Gr.same {G H H' : Hp} (e : Ex G H) (e2 : Ex H H') : Gr G G H H' := ⟨Ex.refl G, e.trans e2, e2, fun _ _ h => h⟩
theorem Gr.refl {G H : Hp} (e : Ex G H) : Gr G G H H := .same e (Ex.refl H)
theorem Gr.ok {G G' H H' : Hp} (a : Gr G G' H H') : Ex G' H' := a.2.1
theorem Gr.up {G G' H H' : Hp} (a : Gr G G' H H') : Ex G G' := a.1
theorem Gr.hp {G G' H H' : Hp} (a : Gr G G' H H') : Ex H H' := a.2.2.1
theorem ne_none_of {o : Option HO} {x : HO} (h : o = some x) : o ≠ none := by rw [h]; exact fun z => nomatch z
theorem exNe {H H' : Hp} (e : Ex H H') {a : Addr} (h : H a ≠ none) : H' a ≠ none := by
  cases q : H a with
  | none => exact absurd q h
  | some o => exact ne_none_of (e a o q)
theorem Gr.trans {G G1 G2 H H1 H2 : Hp} (a : Gr G G1 H H1) (b : Gr G1 G2 H1 H2) : Gr G G2 H H2 :=
  ⟨a.1.trans b.1, b.2.1, a.2.2.1.trans b.2.2.1, fun x h g => b.2.2.2 x (exNe a.2.2.1 h) (a.2.2.2 x h g)⟩
theorem Gr.then {G G1 H H1 H2 : Hp} (a : Gr G G1 H H1) (b : Ex H1 H2) : Gr G G1 H H2 := a.trans (.same a.ok b)
theorem none_back {G H : Hp} (e : Ex G H) {p : Addr} (h : H p = none) : G p = none := Evl.fresh_back e h
theorem Gr.new {G H : Hp} {p : Addr} {o : HO} (e : Ex G H) (hp : H p = none) : Gr G (upd G p o) H (upd H p o) := by
  refine ⟨Ex.new (none_back e hp), fun a u q => ?_, Ex.new hp, fun a h g => ?_⟩
  · by_cases ap : a = p
    · subst ap
      rw [upd_same] at q ⊢
      exact q
    · rw [upd_ne ap] at q ⊢
      exact e a u q
  · have ap : a ≠ p := fun z => h (by rw [z]; exact hp)
    rw [upd_ne ap]
    exact g
/-- the knowledge of two readings, one behind the other -/
theorem Gr.join {G G1 G2 H H1 H2 : Hp} (a : Gr G G1 H H1) (b : Gr G G2 H1 H2) : ∃ G3, Ex G1 G3 ∧ Ex G2 G3 ∧ Gr G G3 H H2 := by
  refine ⟨fun x => match G1 x with | some o => some o | none => G2 x, fun x o q => ?_, fun x o q => ?_, ⟨fun x o q => ?_, fun x o q => ?_, a.2.2.1.trans b.2.2.1, fun x h g => ?_⟩⟩
  · show (match G1 x with | some o => some o | none => G2 x) = some o
    rw [q]
  · show (match G1 x with | some o => some o | none => G2 x) = some o
    cases e : G1 x with
    | none => exact q
    | some o' =>
      have h1 := b.2.2.1 x o' (a.2.1 x o' e)
      rw [b.2.1 x o q] at h1
      exact h1.symm
  · show (match G1 x with | some o => some o | none => G2 x) = some o
    rw [a.1 x o q]
  · have q' : (match G1 x with | some o => some o | none => G2 x) = some o := q
    cases e : G1 x with
    | none =>
      rw [e] at q'
      exact b.2.1 x o q'
    | some o' =>
      rw [e] at q'
      cases q'
      exact b.2.2.1 x o (a.2.1 x o e)
  · show (match G1 x with | some o => some o | none => G2 x) = none
    rw [a.2.2.2 x h g]
    exact b.2.2.2 x (exNe a.2.2.1 h) g
/-- an object that is new since H0 may change -/
theorem Gr.mut {G0 G H0 H : Hp} {p : Addr} {o : HO} (e0 : Ex G0 H0) (a : Gr G0 G H0 H) (hp : H0 p = none) : Gr G0 (upd G p o) H0 (upd H p o) := by
  refine ⟨fun b u q => ?_, fun b u q => ?_, fun b u q => ?_, fun b h g => ?_⟩
  · rw [upd_ne (ne_of_none q (none_back e0 hp))]
    exact a.1 b u q
  · by_cases ap : b = p
    · subst ap
      rw [upd_same] at q ⊢
      exact q
    · rw [upd_ne ap] at q ⊢
      exact a.2.1 b u q
  · rw [upd_ne (ne_of_none q hp)]
    exact a.2.2.1 b u q
  · have ap : b ≠ p := fun z => h (by rw [z]; exact hp)
    rw [upd_ne ap]
    exact a.2.2.2 b h g
theorem upd_self' {H : Hp} {p : Addr} {o : HO} (h : H p = some o) : upd H p o = H := by
  funext b
  by_cases e : b = p
  · rw [e, upd_same, h]
  · rw [upd_ne e]
/-- .. and may be known -/
theorem Gr.know {G0 G H0 H : Hp} {p : Addr} {o : HO} (e0 : Ex G0 H0) (a : Gr G0 G H0 H) (hp : H0 p = none) (h : H p = some o) : Gr G0 (upd G p o) H0 H := by
  have q := Gr.mut (o := o) e0 a hp
  rw [upd_self' h] at q
  exact q
theorem ex_know {G H : Hp} {p : Addr} {o : HO} (e : Ex G H) (h : H p = some o) : Ex (upd G p o) H := fun b u q => by
  by_cases ap : b = p
  · subst ap
    rw [upd_same] at q
    cases q
    exact h
  · rw [upd_ne ap] at q
    exact e b u q
theorem ex_off {G H : Hp} {p : Addr} {o : HO} (e : Ex G H) (h : G p = none) : Ex G (upd H p o) := fun b u q => by
  rw [upd_ne (ne_of_none q h)]
  exact e b u q
theorem ex_in {G : Hp} {p : Addr} {o : HO} (h : G p = none) : Ex G (upd G p o) := Ex.new h

/-! ### data -/
section
variable {K : PySem.W.Frag}
mutual
theorem Dp.ex {G G' : Hp} (e : Ex G G') : ∀ (d : PyData) (v : V), Dp K G v d → Dp K G' v d
  | .none, _, h => by cases h; exact .non
  | .bool b, _, h => by cases h; exact .bl b
  | .int i, _, h => by cases h; exact .int i
  | .str x, _, h => by cases h; exact .str x
  | .list ds, _, h => by
    cases h with
    | lst hs ha => exact .lst (Evl.ex_l e hs) (DpAll.ex e ds _ ha)
  | .tuple ds, _, h => by
    cases h with
    | tup hs ha => exact .tup (Evl.ex_t e hs) (DpAll.ex e ds _ ha)
  | .dict _, _, h => by cases h
theorem DpAll.ex {G G' : Hp} (e : Ex G G') : ∀ (ds : List PyData) (vs : List V), DpAll K G vs ds → DpAll K G' vs ds
  | [], _, h => by cases h; exact .nil
  | d :: ds, _, h => by
    cases h with
    | cons h1 h2 => exact .cons (Dp.ex e d _ h1) (DpAll.ex e ds _ h2)
end
theorem dpx {G G' : Hp} {v : V} {d : PyData} (h : Dp K G v d) (e : Ex G G') : Dp K G' v d := Dp.ex e d v h
theorem dpax {G G' : Hp} {vs : List V} {ds : List PyData} (h : DpAll K G vs ds) (e : Ex G G') : DpAll K G' vs ds := DpAll.ex e ds vs h
theorem dpa_len {G : Hp} : ∀ {vs : List V} {ds : List PyData}, DpAll K G vs ds → vs.length = ds.length
  | _, _, .nil => rfl
  | _, _, .cons _ h => congrArg Nat.succ (dpa_len h)
theorem dpa_snoc {G : Hp} : ∀ {vs : List V} {ds : List PyData} {v : V} {d : PyData}, DpAll K G vs ds → Dp K G v d → DpAll K G (vs ++ [v]) (ds ++ [d])
  | _, _, _, _, .nil, h => .cons h .nil
  | _, _, _, _, .cons a r, h => .cons a (dpa_snoc r h)
theorem dpa_get {G : Hp} : ∀ {vs : List V} {ds : List PyData} {i : Nat} {v : V}, DpAll K G vs ds → vs[i]? = some v → ∃ d, ds[i]? = some d ∧ Dp K G v d
  | _, _, i, v, .nil, h => by simp at h
  | _, _, 0, v, .cons a r, h => ⟨_, rfl, by cases h; exact a⟩
  | _, _, i + 1, v, .cons a r, h => dpa_get (i := i) r h
theorem dpa_get' {G : Hp} : ∀ {vs : List V} {ds : List PyData} {i : Nat} {d : PyData}, DpAll K G vs ds → ds[i]? = some d → ∃ v, vs[i]? = some v ∧ Dp K G v d
  | _, _, i, d, .nil, h => by simp at h
  | _, _, 0, d, .cons a r, h => ⟨_, rfl, by cases h; exact a⟩
  | _, _, i + 1, d, .cons a r, h => dpa_get' (i := i) r h
theorem dpa_ints {G : Hp} : ∀ (zs : List Int), DpAll K G (zs.map V.int) (zs.map PyData.int)
  | [] => .nil
  | z :: zs => .cons (.int z) (dpa_ints zs)
theorem dpa_bls {G : Hp} : ∀ (zs : List Bool), DpAll K G (zs.map V.bl) (zs.map PyData.bool)
  | [] => .nil
  | z :: zs => .cons (.bl z) (dpa_bls zs)
theorem dpa_ints_eq {G : Hp} : ∀ {zs : List Int} {vs : List V}, DpAll K G vs (zs.map PyData.int) → vs = zs.map V.int
  | [], _, .nil => rfl
  | z :: zs, _, .cons h r => by
    cases h
    rw [dpa_ints_eq r]
    rfl
theorem dpa_bls_eq {G : Hp} : ∀ {zs : List Bool} {vs : List V}, DpAll K G vs (zs.map PyData.bool) → vs = zs.map V.bl
  | [], _, .nil => rfl
  | z :: zs, _, .cons h r => by
    cases h
    rw [dpa_bls_eq r]
    rfl
theorem dp_lst {G : Hp} {v : V} {ds : List PyData} (h : Dp K G v (.list ds)) : ∃ a xs, v = .ref a ∧ SqL K G a xs ∧ DpAll K G xs ds := by
  cases h with
  | lst hs ha => exact ⟨_, _, rfl, hs, ha⟩
theorem dp_tup {G : Hp} {v : V} {ds : List PyData} (h : Dp K G v (.tuple ds)) : ∃ a xs, v = .ref a ∧ SqT K G a xs ∧ DpAll K G xs ds := by
  cases h with
  | tup hs ha => exact ⟨_, _, rfl, hs, ha⟩
theorem dp_mkL {G : Hp} {p : Addr} {xs : List V} {ds : List PyData} (h : G p = some (.lst xs)) (ha : DpAll K G xs ds) : Dp K G (.ref p) (.list ds) := .lst (Evl.sq_of h) ha
theorem dp_mkT {G : Hp} {p : Addr} {xs : List V} {ds : List PyData} (h : G p = some (.tup xs)) (ha : DpAll K G xs ds) : Dp K G (.ref p) (.tuple ds) := .tup (Evl.st_of h) ha
end

/-! ### readings of expressions -/
abbrev VP := V → Hp → Prop
def EF (te : TE) (σ : L2.St) (G : Hp) (P : VP) : Prop := ∀ H, Ex G H → ∀ Q : VK, (∀ v G' H', Gr G G' H H' → P v G' → Q v H') → te σ H Q
def ET (t : TT) (σ : L2.St) (G : Hp) (p : Bool → Prop) : Prop := ∀ H, Ex G H → ∀ Q : Bool → Hp → Prop, (∀ b H', Ex H H' → p b → Q b H') → t σ H Q
def EA (ta : TA) (σ : L2.St) (G : Hp) (P : List V → Hp → Prop) : Prop := ∀ H, Ex G H → ∀ Q : List V → Hp → Prop, (∀ vs G' H', Gr G G' H H' → P vs G' → Q vs H') → ta σ H Q
def RO (r : R2) (x y : V) (G : Hp) (P : VP) : Prop := ∀ H, Ex G H → ∀ Q : VK, (∀ v G' H', Gr G G' H H' → P v G' → Q v H') → r x y H Q
def RA (r : List V → Hp → VK → Prop) (vs : List V) (G : Hp) (P : VP) : Prop := ∀ H, Ex G H → ∀ Q : VK, (∀ v G' H', Gr G G' H H' → P v G' → Q v H') → r vs H Q
/-- a promise kept: from the knowledge G -/
def SA (sp : Sp) (vs : List V) (G : Hp) (P : VP) : Prop := ∀ H, Ex G H → ∀ (Q : VK) (E : XK), (∀ v G' H', Gr G G' H H' → P v G' → Q v H') → sp vs H Q E
def IV (p : Int → Prop) : VP := fun v _ => ∃ z, v = .int z ∧ p z
def BV (p : Bool → Prop) : VP := fun v _ => ∃ z, v = .bl z ∧ p z
def DV (K : PySem.W.Frag) (d : PyData) : VP := fun v G => Dp K G v d
def XV (x : V) : VP := fun v _ => v = x
def Mo (P : VP) : Prop := ∀ v G G', Ex G G' → P v G → P v G'
theorem mo_IV {p} : Mo (IV p) := fun _ _ _ _ h => h
theorem mo_BV {p} : Mo (BV p) := fun _ _ _ _ h => h
theorem mo_XV {p} : Mo (XV p) := fun _ _ _ _ h => h
theorem mo_DV {K d} : Mo (DV K d) := fun _ _ _ e h => dpx h e
section
variable {K : PySem.W.Frag} {σ : L2.St} {G G' H H' : Hp} {ta tb te tx : TE} {t u : TT} {x y z v : V} {r : R2} {P Pa Pb : VP}
theorem EF.imp {P' : VP} (h : EF te σ G P) (k : ∀ v G', Ex G G' → P v G' → P' v G') : EF te σ G P' := fun H e Q q => h H e Q fun v G' H' g p => q v G' H' g (k v G' g.up p)
theorem ef_var {i : Nat} (h : σ[i]? = some (some v)) (p : P v G) : EF (tVar i) σ G P := fun H e _ q => ⟨v, h, q v G H (.refl e) p⟩
theorem ef_c (p : P v G) : EF (tC v) σ G P := fun H e _ q => q v G H (.refl e) p
theorem ei_c {i : Int} {p : Int → Prop} (h : p i) : EF (tC (.int i)) σ G (IV p) := ef_c ⟨i, rfl, h⟩
theorem ei_var {i : Nat} {z : Int} {p : Int → Prop} (h : σ[i]? = some (some (.int z))) (hp : p z) : EF (tVar i) σ G (IV p) := ef_var h ⟨z, rfl, hp⟩
theorem ef_op (mA : Mo Pa) (mB : Mo Pb) (ha : EF ta σ G Pa) (hb : EF tb σ G Pb) (hr : ∀ x y G', Ex G G' → Pa x G' → Pb y G' → RO r x y G' P) : EF (tOp r ta tb) σ G P := fun H e Q q =>
  ha H e _ fun x G1 H1 g1 p1 => hb H1 (g1.up.trans g1.ok) _ fun y G2 H2 g2 p2 => by
    obtain ⟨G3, e1, e2, g3⟩ := g1.join g2
    exact hr x y G3 g3.up (mA x _ _ e1 p1) (mB y _ _ e2 p2) H2 g3.ok Q fun v G4 H4 g4 p4 => q v G4 H4 (g3.trans g4) p4
theorem ro_I0 {f : Int → Int → V} {i j : Int} (p : P (f i j) G) : RO (rI0 f) (.int i) (.int j) G P := fun H e _ q => ⟨i, j, rfl, rfl, q _ G H (.refl e) p⟩
theorem ro_I {C : Int → Int → Prop} {f : Int → Int → V} {i j : Int} (hc : C i j) (p : P (f i j) G) : RO (rI C f) (.int i) (.int j) G P := fun H e _ q => ⟨i, j, rfl, rfl, hc, q _ G H (.refl e) p⟩
/-- two ints -/
theorem ei_op0 {f : Int → Int → V} {p q : Int → Prop} (ha : EF ta σ G (IV p)) (hb : EF tb σ G (IV q)) (h : ∀ a b G', p a → q b → P (f a b) G') : EF (tOp (rI0 f) ta tb) σ G P :=
  ef_op mo_IV mo_IV ha hb fun x y G' _ hx hy => by
    obtain ⟨a, rfl, pa⟩ := hx
    obtain ⟨b, rfl, pb⟩ := hy
    exact ro_I0 (h a b G' pa pb)
theorem ei_opC {C : Int → Int → Prop} {f : Int → Int → V} {p q : Int → Prop} (ha : EF ta σ G (IV p)) (hb : EF tb σ G (IV q)) (hc : ∀ a b, p a → q b → C a b) (h : ∀ a b G', p a → q b → P (f a b) G') : EF (tOp (rI C f) ta tb) σ G P :=
  ef_op mo_IV mo_IV ha hb fun x y G' _ hx hy => by
    obtain ⟨a, rfl, pa⟩ := hx
    obtain ⟨b, rfl, pb⟩ := hy
    exact ro_I (hc a b pa pb) (h a b G' pa pb)
theorem ei_add {p q s : Int → Prop} (ha : EF ta σ G (IV p)) (hb : EF tb σ G (IV q)) (h : ∀ a b, p a → q b → s (a + b)) : EF (tOp (rI0 fun i j => .int (i + j)) ta tb) σ G (IV s) := ei_op0 ha hb fun a b _ pa pb => ⟨_, rfl, h a b pa pb⟩
theorem ei_sub {p q s : Int → Prop} (ha : EF ta σ G (IV p)) (hb : EF tb σ G (IV q)) (h : ∀ a b, p a → q b → s (a - b)) : EF (tOp (rI0 fun i j => .int (i - j)) ta tb) σ G (IV s) := ei_op0 ha hb fun a b _ pa pb => ⟨_, rfl, h a b pa pb⟩
/-! tests -/
theorem et_test {p : Bool → Prop} (h : EF te σ G (BV p)) : ET (tTest te) σ G p := fun H e _ q => h H e _ fun v G' H' g hv => by
  obtain ⟨b, rfl, pb⟩ := hv
  exact ⟨b, rfl, q b H' g.hp pb⟩
theorem et_B {p : Bool → Prop} (h : EF te σ G (BV p)) : ET (tB te) σ G p := fun H e _ q => h H e _ fun v G' H' g hv => by
  obtain ⟨b, rfl, pb⟩ := hv
  exact ⟨b, rfl, q b H' g.hp pb⟩
theorem et_not {p : Bool → Prop} (h : ET t σ G fun b => p (!b)) : ET (tNot t) σ G p := fun H e _ q => h H e _ fun b H' e' pb => q (!b) H' e' pb
theorem et_and {p q s : Bool → Prop} (h1 : ET t σ G p) (h2 : p true → ET u σ G q) (ht : p true → ∀ b, q b → s b) (hf : p false → s false) : ET (tAnd t u) σ G s := fun H e Q k => h1 H e _ fun b H1 e1 pb => by
  cases b with
  | true =>
    show u σ H1 Q
    exact h2 pb H1 (e.trans e1) Q fun b2 H2 e2 p2 => k b2 H2 (e1.trans e2) (ht pb b2 p2)
  | false => exact k false H1 e1 (hf pb)
theorem et_or {p q s : Bool → Prop} (h1 : ET t σ G p) (h2 : p false → ET u σ G q) (ht : p true → s true) (hf : p false → ∀ b, q b → s b) : ET (tOr t u) σ G s := fun H e Q k => h1 H e _ fun b H1 e1 pb => by
  cases b with
  | true => exact k true H1 e1 (ht pb)
  | false =>
    show u σ H1 Q
    exact h2 pb H1 (e.trans e1) Q fun b2 H2 e2 p2 => k b2 H2 (e1.trans e2) (hf pb b2 p2)
theorem ET.imp {p q : Bool → Prop} (h : ET t σ G p) (k : ∀ b, p b → q b) : ET t σ G q := fun H e Q c => h H e Q fun b H' e' pb => c b H' e' (k b pb)
theorem eb_not {p : Bool → Prop} (h : EF ta σ G (BV fun b => p (!b))) : EF (tNotV ta) σ G (BV p) := fun H e _ q => h H e _ fun v G' H' g hv => by
  obtain ⟨b, rfl, pb⟩ := hv
  exact ⟨b, rfl, q _ G' H' g ⟨!b, rfl, pb⟩⟩
theorem eb_and {p q s : Bool → Prop} (h1 : EF ta σ G (BV p)) (h2 : p true → EF tb σ G (BV q)) (ht : p true → ∀ b, q b → s b) (hf : p false → s false) : EF (tAndV ta tb) σ G (BV s) := fun H e Q k => h1 H e _ fun v G1 H1 g1 hv => by
  obtain ⟨b, rfl, pb⟩ := hv
  refine ⟨b, rfl, ?_⟩
  cases b with
  | true =>
    show tb σ H1 Q
    exact h2 pb H1 (g1.up.trans g1.ok) Q fun v2 G2 H2 g2 p2 => by
      obtain ⟨b2, rfl, pb2⟩ := p2
      exact k _ G2 H2 (⟨g2.up, g2.ok, g1.hp.trans g2.hp, fun a h g => g2.2.2.2 a (exNe g1.hp h) g⟩) ⟨b2, rfl, ht pb b2 pb2⟩
  | false =>
    show Q (.bl false) H1
    exact k _ G1 H1 g1 ⟨false, rfl, hf pb⟩
theorem ef_if {p : Bool → Prop} (h : ET t σ G p) (h1 : p true → EF ta σ G P) (h2 : p false → EF tb σ G P) : EF (tIf t ta tb) σ G P := fun H e Q k => h H e _ fun b H1 e1 pb => by
  cases b with
  | true =>
    show ta σ H1 Q
    exact h1 pb H1 (e.trans e1) Q fun v G2 H2 g2 p2 => k v G2 H2 (⟨g2.up, g2.ok, e1.trans g2.hp, fun a h g => g2.2.2.2 a (exNe e1 h) g⟩) p2
  | false =>
    show tb σ H1 Q
    exact h2 pb H1 (e.trans e1) Q fun v G2 H2 g2 p2 => k v G2 H2 (⟨g2.up, g2.ok, e1.trans g2.hp, fun a h g => g2.2.2.2 a (exNe e1 h) g⟩) p2
/-! arguments, displays, calls -/
theorem ea_nil : EA tNil σ G fun vs _ => vs = [] := fun H e _ q => q [] G H (.refl e) rfl
theorem ea_cons {tr : TA} {R S : List V → Hp → Prop} (mA : Mo Pa) (mR : ∀ vs G G', Ex G G' → R vs G → R vs G') (ha : EF ta σ G Pa) (hr : EA tr σ G R) (h : ∀ x xs G', Ex G G' → Pa x G' → R xs G' → S (x :: xs) G') : EA (tCons ta tr) σ G S := fun H e Q q =>
  ha H e _ fun x G1 H1 g1 p1 => hr H1 (g1.up.trans g1.ok) _ fun xs G2 H2 g2 p2 => by
    obtain ⟨G3, e1, e2, g3⟩ := g1.join g2
    exact q _ G3 H2 g3 (h x xs G3 g3.up (mA x _ _ e1 p1) (mR xs _ _ e2 p2))
theorem ea_one (ha : EF ta σ G P) : EA (tCons ta tNil) σ G fun vs G' => ∃ x, vs = [x] ∧ P x G' := fun H e Q q => ha H e _ fun x G1 H1 g1 p1 => q _ G1 H1 g1 ⟨x, rfl, p1⟩
theorem mo_two {Pa Pb : VP} (mA : Mo Pa) (mB : Mo Pb) : ∀ (vs : List V) (G G' : Hp), Ex G G' → (∃ x y, vs = [x, y] ∧ Pa x G ∧ Pb y G) → ∃ x y, vs = [x, y] ∧ Pa x G' ∧ Pb y G' := fun vs G G' e ⟨x, y, h, a, b⟩ => ⟨x, y, h, mA _ _ _ e a, mB _ _ _ e b⟩
theorem ea_two (mA : Mo Pa) (mB : Mo Pb) (ha : EF ta σ G Pa) (hb : EF tb σ G Pb) : EA (tCons ta (tCons tb tNil)) σ G fun vs G' => ∃ x y, vs = [x, y] ∧ Pa x G' ∧ Pb y G' :=
  ea_cons mA (fun vs G G' e ⟨y, h, b⟩ => ⟨y, h, mB _ _ _ e b⟩) ha (ea_one hb) fun x xs G' _ hx ⟨y, e, hy⟩ => ⟨x, y, by rw [e], hx, hy⟩
theorem ea_three {Pc : VP} {tc : TE} (mA : Mo Pa) (mB : Mo Pb) (mC : Mo Pc) (ha : EF ta σ G Pa) (hb : EF tb σ G Pb) (hc : EF tc σ G Pc) : EA (tCons ta (tCons tb (tCons tc tNil))) σ G fun vs G' => ∃ x y z, vs = [x, y, z] ∧ Pa x G' ∧ Pb y G' ∧ Pc z G' :=
  ea_cons mA (mo_two mB mC) ha (ea_two mB mC hb hc) fun x xs G' _ hx ⟨y, z, e, hy, hz⟩ => ⟨x, y, z, by rw [e], hx, hy, hz⟩
theorem ea_four {Pc Pd : VP} {tc td : TE} (mA : Mo Pa) (mB : Mo Pb) (mC : Mo Pc) (mD : Mo Pd) (ha : EF ta σ G Pa) (hb : EF tb σ G Pb) (hc : EF tc σ G Pc) (hd : EF td σ G Pd) :
    EA (tCons ta (tCons tb (tCons tc (tCons td tNil)))) σ G fun vs G' => ∃ x y z w, vs = [x, y, z, w] ∧ Pa x G' ∧ Pb y G' ∧ Pc z G' ∧ Pd w G' :=
  ea_cons mA (fun vs G G' e ⟨x, y, z, h, a, b, c⟩ => ⟨x, y, z, h, mB _ _ _ e a, mC _ _ _ e b, mD _ _ _ e c⟩) ha (ea_three mB mC mD hb hc hd) fun x xs G' _ hx ⟨y, z, w, e, hy, hz, hw⟩ => ⟨x, y, z, w, by rw [e], hx, hy, hz, hw⟩
/-- a new tuple, a new list -/
theorem ef_tup {ta : TA} {R : List V → Hp → Prop} (h : EA ta σ G R) (hl : ∀ vs G', R vs G' → vs.length ≤ 1000) (hP : ∀ p vs G', Ex G G' → G p = none → G' p = none → R vs G' → P (.ref p) (upd G' p (.tup vs))) : EF (tTup ta) σ G P := fun H e Q q =>
  h H e _ fun vs G1 H1 g1 p1 => ⟨Nat.le_trans (hl vs G1 p1) (by decide), fun p hp => q _ _ _ (g1.trans (.new g1.ok hp)) (hP p vs G1 g1.up (none_back (g1.up.trans g1.ok) hp) (none_back g1.ok hp) p1)⟩
theorem ef_lst {ta : TA} {R : List V → Hp → Prop} (h : EA ta σ G R) (hl : ∀ vs G', R vs G' → vs.length ≤ 1000) (hP : ∀ p vs G', Ex G G' → G p = none → G' p = none → R vs G' → P (.ref p) (upd G' p (.lst vs))) : EF (tLst ta) σ G P := fun H e Q q =>
  h H e _ fun vs G1 H1 g1 p1 => ⟨Nat.le_trans (hl vs G1 p1) (by decide), fun p hp => q _ _ _ (g1.trans (.new g1.ok hp)) (hP p vs G1 g1.up (none_back (g1.up.trans g1.ok) hp) (none_back g1.ok hp) p1)⟩
theorem ef_cb {r : List V → Hp → VK → Prop} {ta : TA} {R : List V → Hp → Prop} (h : EA ta σ G R) (hr : ∀ vs G', Ex G G' → R vs G' → RA r vs G' P) : EF (tCB r ta) σ G P := fun H e Q q =>
  h H e _ fun vs G1 H1 g1 p1 => hr vs G1 g1.up p1 H1 g1.ok Q fun v G2 H2 g2 p2 => q v G2 H2 (g1.trans g2) p2
theorem ef_call {sp : Sp} {dvs : List V} {E : XK} {ta : TA} {R : List V → Hp → Prop} (h : EA ta σ G R) (hr : ∀ vs G', Ex G G' → R vs G' → SA sp (vs ++ dvs) G' P) : EF (tCall sp dvs E ta) σ G P := fun H e Q q =>
  h H e _ fun vs G1 H1 g1 p1 => hr vs G1 g1.up p1 H1 g1.ok Q E fun v G2 H2 g2 p2 => q v G2 H2 (g1.trans g2) p2
/-- o.m(..), o known -/
theorem ef_meth {C : Addr} {m : Str} {sp : Sp} {dvs : List V} {E : XK} {ta : TA} {to : TE} {R : List V → Hp → Prop} {a : Addr} (ho : EF to σ G (XV (.ref a))) (hI : ∃ dx fs, G a = some (.ins C dx fs) ∧ fs.lookup m = none) (h : EA ta σ G R)
    (hr : ∀ vs G', Ex G G' → R vs G' → SA sp (.ref a :: (vs ++ dvs)) G' P) : EF (tMeth C m sp dvs E to ta) σ G P := fun H e Q q =>
  ho H e _ fun x G1 H1 g1 p1 => by
    obtain ⟨dx, fs, h1, h2⟩ := hI
    cases (show x = .ref a from p1)
    refine ⟨a, dx, fs, rfl, g1.hp _ _ (e _ _ h1), h2, h H1 (g1.up.trans g1.ok) _ fun vs G2 H2 g2 p2 => ?_⟩
    exact hr vs G2 g2.up p2 H2 g2.ok Q E fun v G3 H3 g3 p3 => q v G3 H3 (Gr.trans ⟨g2.up, g2.ok, g1.hp.trans g2.hp, fun a h g => g2.2.2.2 a (exNe g1.hp h) g⟩ g3) p3
/-- o.f -/
theorem ef_fld {C dx : Addr} {fs : List (Str × V)} {f : Str} {a : Addr} (ho : EF ta σ G (XV (.ref a))) (hI : G a = some (.ins C dx fs)) (hc : Cls K C) (hn : NoAttr K C f) (hl : fs.lookup f = some v) (hp : P v G) : EF (tFld K ta f) σ G P := fun H e Q q =>
  ho H e _ fun x G1 H1 g1 p1 => ⟨a, C, dx, fs, v, p1, g1.hp _ _ (e _ _ hI), hc, hn, hl, q v G H1 (.same e g1.hp) hp⟩
/-! data: items, membership, equality, len -/
theorem ixN_nat {n j : Nat} (hj : j < n) : ixN n (j : Int) = some j := Evl.ixN_nat hj
theorem atI_of {α : Type} {xs : List α} {j : Nat} {v : α} {i : Int} (e : i = (j : Int)) (h : xs[j]? = some v) : atI xs i = some v := by
  rw [e]
  unfold atI
  rw [Evl.ixN_nat (List.getElem?_eq_some_iff.mp h).1]
  exact h
theorem ed_ixL {ds : List PyData} {q : Int → Prop} (ha : EF ta σ G (DV K (.list ds))) (hb : EF tb σ G (IV q)) (h : ∀ i, q i → ∃ (j : Nat) (d : PyData), i = (j : Int) ∧ ds[j]? = some d ∧ ∀ v G', Dp K G' v d → P v G') : EF (tOp (rIxL K) ta tb) σ G P :=
  ef_op mo_DV mo_IV ha hb fun x y G' _ hx hy => by
    obtain ⟨i, rfl, qi⟩ := hy
    obtain ⟨a, xs, rfl, hs, hall⟩ := dp_lst hx
    obtain ⟨j, d, ej, hd, hP⟩ := h i qi
    obtain ⟨v, hv, dv⟩ := dpa_get' hall hd
    exact fun H e Q k => ⟨a, xs, i, v, rfl, rfl, Evl.ex_l e hs, atI_of ej hv, k v G' H (.refl e) (hP v G' dv)⟩
theorem ed_ixT {ds : List PyData} {q : Int → Prop} (ha : EF ta σ G (DV K (.tuple ds))) (hb : EF tb σ G (IV q)) (h : ∀ i, q i → ∃ (j : Nat) (d : PyData), i = (j : Int) ∧ ds[j]? = some d ∧ ∀ v G', Dp K G' v d → P v G') : EF (tOp (rIxT K) ta tb) σ G P :=
  ef_op mo_DV mo_IV ha hb fun x y G' _ hx hy => by
    obtain ⟨i, rfl, qi⟩ := hy
    obtain ⟨a, xs, rfl, hs, hall⟩ := dp_tup hx
    obtain ⟨j, d, ej, hd, hP⟩ := h i qi
    obtain ⟨v, hv, dv⟩ := dpa_get' hall hd
    exact fun H e Q k => ⟨a, xs, i, v, rfl, rfl, Evl.ex_t e hs, atI_of ej hv, k v G' H (.refl e) (hP v G' dv)⟩
theorem ed_inD {d : PyData} {ds : List PyData} (ha : EF ta σ G (DV K d)) (hb : EF tb σ G (DV K (.list ds))) (sd : SeqAt.shaped d = true) (sl : SeqAt.shaped (.list ds) = true) : EF (tOp (rInD K) ta tb) σ G (BV (· = ds.any fun z => PyData.eqv z d)) :=
  ef_op mo_DV mo_DV ha hb fun x y G' _ hx hy => fun H e Q k => ⟨d, ds, dpx hx e, dpx hy e, sd, sl, k _ G' H (.refl e) ⟨_, rfl, rfl⟩⟩
theorem ed_niD {d : PyData} {ds : List PyData} (ha : EF ta σ G (DV K d)) (hb : EF tb σ G (DV K (.list ds))) (sd : SeqAt.shaped d = true) (sl : SeqAt.shaped (.list ds) = true) : EF (tOp (rNotInD K) ta tb) σ G (BV (· = !ds.any fun z => PyData.eqv z d)) :=
  ef_op mo_DV mo_DV ha hb fun x y G' _ hx hy => fun H e Q k => ⟨d, ds, dpx hx e, dpx hy e, sd, sl, k _ G' H (.refl e) ⟨_, rfl, rfl⟩⟩
theorem ei_eq {p q : Int → Prop} {s : Bool → Prop} (ha : EF ta σ G (IV p)) (hb : EF tb σ G (IV q)) (h : ∀ a b, p a → q b → s (decide (a = b))) : EF (tOp rEq ta tb) σ G (BV s) :=
  ef_op mo_IV mo_IV ha hb fun x y G' _ hx hy => by
    obtain ⟨a, rfl, pa⟩ := hx
    obtain ⟨b, rfl, pb⟩ := hy
    refine fun H e Q k => ⟨rfl, k _ G' H (.refl e) ⟨_, rfl, ?_⟩⟩
    have e2 : decide (V.int a = V.int b) = decide (a = b) := by
      by_cases c : a = b
      · rw [c]; simp
      · rw [decide_eq_false c, decide_eq_false fun z => c (V.int.inj z)]
    rw [e2]
    exact h a b pa pb
theorem ei_ne {p q : Int → Prop} {s : Bool → Prop} (ha : EF ta σ G (IV p)) (hb : EF tb σ G (IV q)) (h : ∀ a b, p a → q b → s (!decide (a = b))) : EF (tOp rNe ta tb) σ G (BV s) :=
  ef_op mo_IV mo_IV ha hb fun x y G' _ hx hy => by
    obtain ⟨a, rfl, pa⟩ := hx
    obtain ⟨b, rfl, pb⟩ := hy
    refine fun H e Q k => ⟨rfl, k _ G' H (.refl e) ⟨_, rfl, ?_⟩⟩
    have e2 : decide (V.int a = V.int b) = decide (a = b) := by
      by_cases c : a = b
      · rw [c]; simp
      · rw [decide_eq_false c, decide_eq_false fun z => c (V.int.inj z)]
    rw [e2]
    exact h a b pa pb
theorem ed_lenL {ds : List PyData} (ha : EF ta σ G (DV K (.list ds))) : EF (tCB (Evl.rLenS K) (tCons ta tNil)) σ G (IV (· = (ds.length : Int))) := fun H e Q q => ha H e _ fun x G1 H1 g1 hx => by
  obtain ⟨a, xs, rfl, hs, hall⟩ := dp_lst hx
  refine ⟨a, xs, rfl, .inl (Evl.ex_l g1.ok hs), q _ G1 H1 g1 ⟨_, rfl, ?_⟩⟩
  rw [dpa_len hall]
theorem ed_list {ds : List PyData} (ha : EF ta σ G (DV K (.list ds))) : EF (tCB (Evl.rListS K) (tCons ta tNil)) σ G (fun v G' => ∃ p xs, v = .ref p ∧ G p = none ∧ G' p = some (.lst xs) ∧ DpAll K G' xs ds) := fun H e Q q => ha H e _ fun x G1 H1 g1 hx => by
  obtain ⟨a, xs, rfl, hs, hall⟩ := dp_lst hx
  refine ⟨a, xs, rfl, .inl (Evl.ex_l g1.ok hs), fun l hl => ?_⟩
  exact q _ _ _ (g1.trans (.new g1.ok hl)) ⟨l, xs, rfl, none_back (g1.up.trans g1.ok) hl, upd_same, dpax hall (ex_in (none_back g1.ok hl))⟩
end
end Lw

set_option Elab.async false
set_option linter.all false
set_option maxRecDepth 100000
set_option maxHeartbeats 4000000
/-! sorted of triples (int, text, int) whose first ints differ -/
namespace Lw
open PySem L2
open Evl (Ex)
open PyProof.Rows
section
variable {prog : Program} {w : World} {A : Around} {E : Value → Shared → Prop} {s : Shared}
def IsTr (h : Heap) (v : Value) (x : Int) : Prop := ∃ a o t y u z n m, v = .ref a ∧ h.get? a = some o ∧ o.cls = .type "tuple" ∧ o.data = .seq #[.int x t, .str y u, .int z n] m
theorem IsTr.keeps {h h' : Heap} {v : Value} {x : Int} (p : IsTr h v x) (k : ∀ b o, h.get? b = some o → o.cls = .type "tuple" → h'.get? b = some o) : IsTr h' v x := by
  obtain ⟨a, o, t, y, u, z, n, m, e, ho, hc, hd⟩ := p
  exact ⟨a, o, t, y, u, z, n, m, e, k a o ho hc, hc, hd⟩
theorem tr_firsts {h : Heap} {k : Value → Int} : ∀ {vs : List Value}, (∀ v ∈ vs, IsTr h v (k v)) → ∃ fs : List Value, PySem.W.KatTups h vs fs ∧ fs.length = vs.length ∧ ∀ f ∈ fs, ∃ x t, f = Value.int x t
  | [], _ => ⟨[], PySem.W.KatTups.nil, rfl, fun _ hm => by simp at hm⟩
  | v :: vs, hp => by
    obtain ⟨fs, h1, h2, h3⟩ := tr_firsts (k := k) (vs := vs) fun v' hm => hp v' (List.mem_cons_of_mem _ hm)
    have hv := hp v (List.mem_cons_self ..)
    generalize k v = x at hv
    obtain ⟨a, o, t, y, u, z, n, m, e, ho, hc, hd⟩ := hv
    subst e
    refine ⟨.int x t :: fs, PySem.W.KatTups.cons ho hc hd rfl h1, by rw [List.length_cons, List.length_cons, h2], fun f hm => ?_⟩
    rcases List.mem_cons.mp hm with rfl | hm
    · exact ⟨x, t, rfl⟩
    · exact h3 f hm
abbrev ltK (k : Value → Int) (v u : Value) : Bool := decide (k v < k u)
theorem ltK_swo (k : Value → Int) : SrtO.Swo (ltK k) := by
  refine ⟨fun x y h => ?_, fun x y z h1 h2 => ?_⟩
  · have a := of_decide_eq_true h
    exact decide_eq_false (by omega)
  · have a := of_decide_eq_false h1
    have b := of_decide_eq_false h2
    exact decide_eq_false (by omega)
theorem tr_cmp {vs : List Value} {k : Value → Int} (hp : ∀ v ∈ vs, IsTr s.heap v (k v)) (hi : ∀ v ∈ vs, ∀ u ∈ vs, k v = k u → v = u) : SrtO.Cmp prog w A s (tuples' true) (fun p => p.1 ∈ vs) (SrtO.lt2 (ltK k)) := by
  intro p q hm hm'
  have h1 := hp _ hm
  have h2 := hp _ hm'
  have hin := hi _ hm _ hm'
  show wpAny (model prog w) A (keyLt' (tuples' true) p.1 q.1) (fun r s' => s' = s ∧ r = decide (k p.1 < k q.1)) (fun _ _ => False) s
  by_cases hk : k p.1 = k q.1
  · have e0 := hin hk
    rw [e0] at h1 ⊢
    generalize k q.1 = x at h1 ⊢
    obtain ⟨a, o, t, y, u, z, n, m, e, ho, hc, hd⟩ := h1
    rw [e]
    refine PySem.W.kat_lt ho hd ho hd ?_
    show PySem.W.KatLex prog w A true (decide (3 < 3)) _ [(.int x t, .int x t), (.str y u, .str y u), (.int z n, .int z n)] 0 s
    refine PySem.W.kat_cons (SeqAt.EqAt.int_int x t x t prog w _ _ ?_)
    refine PySem.W.kat_go (fun _ => ?_) (fun e1 => absurd e1 (by simp))
    refine PySem.W.kat_yes (PySem.W.kat_cons (SeqAt.EqAt.str_str y u y u prog w _ _ ?_))
    refine PySem.W.kat_go (fun _ => ?_) (fun e1 => absurd e1 (by simp))
    refine PySem.W.kat_yes (PySem.W.kat_cons (SeqAt.EqAt.int_int z n z n prog w _ _ ?_))
    refine PySem.W.kat_go (fun _ => ?_) (fun e1 => absurd e1 (by simp))
    exact PySem.W.kat_yes (PySem.W.kat_nil ⟨rfl, (decide_eq_false (Int.lt_irrefl x)).symm⟩)
  · generalize k p.1 = x at h1 hk ⊢
    generalize k q.1 = x' at h2 hk ⊢
    obtain ⟨a, o, t, y, u, z, n, m, e, ho, hc, hd⟩ := h1
    obtain ⟨a', o', t', y', u', z', n', m', e', ho', hc', hd'⟩ := h2
    rw [e, e']
    refine PySem.W.kat_lt ho hd ho' hd' ?_
    show PySem.W.KatLex prog w A true (decide (3 < 3)) _ [(.int x t, .int x' t'), (.str y u, .str y' u'), (.int z n, .int z' n')] 0 s
    refine PySem.W.kat_cons (SeqAt.EqAt.int_int x t x' t' prog w _ _ ?_)
    refine PySem.W.kat_go (fun e1 => absurd (by simpa using e1) hk) (fun _ => ?_)
    exact PySem.W.kat_no (PyProof.Rows.oneLt_int ⟨rfl, rfl⟩)
theorem tr_sortable {a : Addr} {vs : List Value} {k : Value → Int} (h0 : 0 < vs.length) (hp : ∀ v ∈ vs, IsTr s.heap v (k v)) (hi : ∀ v ∈ vs, ∀ u ∈ vs, k v = k u → v = u) (ha : ∀ o, s.heap.get? a = some o → o.cls ≠ .type "tuple") : SrtO.SortableO prog w A s a vs (ltK k) := by
  intro h' keep
  have hp' : ∀ v ∈ vs, IsTr h' v (k v) := fun v hm => (hp v hm).keeps fun b o e c => keep b o (fun z => by subst z; exact ha o e c) e
  obtain ⟨fs, h1, h2, h3⟩ := tr_firsts hp'
  refine ⟨tuples' true, fun Q E hq => ?_, tr_cmp hp' hi⟩
  refine PySem.W.kat_kind (T := .type "int") h1 (by omega) (fun f hm => ?_) (by rfl) ?_
  · obtain ⟨x, t, rfl⟩ := h3 f hm
    exact PySem.W.Looks.now
  · have e : (Value.type "int" != Value.type "tuple") = true := by first | decide +kernel | rfl | decide
    rw [e]
    exact hq
theorem sorted_tr {l : Addr} {vs : List Value} {k : Value → Int} {Q : Value → Shared → Prop} (hl : s.heap.IsList l vs.toArray) (hz : vs.length ≤ sizeLine) (hp : ∀ v ∈ vs, IsTr s.heap v (k v)) (hi : ∀ v ∈ vs, ∀ u ∈ vs, k v = k u → v = u)
    (h : ∀ (h' : Heap) (d : Addr) (out : List Value), SrtO.Srtd (ltK k) out → SrtO.Stb (ltK k) out vs → (∀ b o, s.heap.get? b = some o → h'.get? b = some o) → s.heap.objs.size ≤ d → (∃ n, h'.get? d = some (seqObj "list" out.toArray n)) → Q (.ref d) { s with heap := h' }) :
    wpAny (model prog w) A (call (.builtin "sorted") [.ref l]) Q E s := by
  refine SrtO.sorted_ord (ltK_swo k) hl hz (fun h2 h₁ a ha kk => ?_) fun out hs hb => ?_
  · refine tr_sortable (s := { s with heap := h₁ }) (by omega) (fun v hm => (hp v hm).keeps fun b o e _ => (kk b o e).2) hi fun o e => ?_
    have e' : some o = some (seqObj "list" vs.toArray 0) := e.symm.trans ha
    cases e'
    intro c
    exact absurd (Value.type.inj c) (by decide)
  · exact h _ _ out hs hb (fun b o e => sortedAll_old e) (Nat.le_succ _) (sortedAll_at s.heap vs out.toArray)
end
/-- sorted(xs), xs triples with different first ints: the list by these -/
def rSortTr (K : PySem.W.Frag) : List V → Hp → VK → Prop := fun vs H Q => ∃ (a : Addr) (xs : List V) (k : V → Int), vs = [V.ref a] ∧ SqL K H a xs ∧ (∀ x ∈ xs, ∃ t y z, x = V.ref t ∧ H t = some (.tup [.int (k x), .str y, .int z])) ∧ (∀ x ∈ xs, ∀ y ∈ xs, k x = k y → x = y) ∧
  ∀ ys p, ys.Pairwise (fun x y => ¬ k y < k x) → ys.Perm xs → H p = none → Q (.ref p) (upd H p (.lst ys))
section
variable {X : Cx}
theorem cr_sortTr : CallR X (.builtin "sorted") (rSortTr X.K) := by
  intro pins s σ H vs us Q I r h
  obtain ⟨a, xs, k, rfl, hs, hx, hi, q⟩ := h
  obtain ⟨its, rv, hl, hz⟩ := I.list hs
  obtain ⟨u, rfl, ru⟩ := vals1 r
  obtain rfl : u = Value.ref a := ru
  obtain ⟨e1, e2⟩ := refs_back rv fun x m => by
    obtain ⟨t, _, _, e, _⟩ := hx x m
    exact ⟨t, e⟩
  refine sorted_tr (k := fun u => k (backV u)) hl.isList (by rw [← rv.length]; exact hz) (fun v hv => ?_) (fun v hv u hu e => ?_) fun h' d out h1 h2 kp hd hn => ?_
  · obtain ⟨t, rfl⟩ := e2 v hv
    have hm : V.ref t ∈ xs := by rw [e1]; exact List.mem_map.mpr ⟨_, hv, rfl⟩
    obtain ⟨t', y, z, e, ht⟩ := hx _ hm
    cases e
    obtain ⟨_, its2, r2, o, ho, hc, n, hd⟩ := I.hok _ _ ht
    obtain ⟨u1, us2, rfl, ri, r3⟩ : ∃ u1 us2, its2 = u1 :: us2 ∧ RelV (.int (k (.ref t))) u1 ∧ Vals [.str y, .int z] us2 := by
      cases r2 with
      | cons p q => exact ⟨_, _, rfl, p, q⟩
    obtain ⟨u2, u3, rfl, rj, rz⟩ := vals2 r3
    obtain ⟨t1, rfl⟩ := ri
    obtain ⟨t2, rfl⟩ := rj
    obtain ⟨t3, rfl⟩ := rz
    exact ⟨t, o, t1, y, t2, z, t3, n, rfl, ho, hc, hd⟩
  · obtain ⟨t, rfl⟩ := e2 v hv
    obtain ⟨t', rfl⟩ := e2 u hu
    have hm : V.ref t ∈ xs := by rw [e1]; exact List.mem_map.mpr ⟨_, hv, rfl⟩
    have hm' : V.ref t' ∈ xs := by rw [e1]; exact List.mem_map.mpr ⟨_, hu, rfl⟩
    have z := hi _ hm _ hm' e
    cases z
    rfl
  · have h3 : ∀ u ∈ out, ∃ a, u = Value.ref a := fun u hu => e2 u (h2.perm.mem_iff.mp hu)
    obtain ⟨n, hn⟩ := hn
    have hb : (out.map backV).Perm xs := by
      rw [e1]
      exact h2.perm.map backV
    refine ⟨.ref d, upd H d (.lst (out.map backV)), I.laid (t' := s.toks) kp hd ⟨?_, out, n, vals_back h3, hn⟩, rfl, q _ d ?_ hb (I.hok.fresh hd)⟩
    · rw [hb.length_eq]
      exact hz
    · refine List.pairwise_map.mpr (List.Pairwise.imp (fun {a b} hab => ?_) h1)
      have := of_decide_eq_false hab
      exact this
end
end Lw

set_option Elab.async false
set_option linter.all false
set_option maxRecDepth 100000
set_option maxHeartbeats 4000000
/-! statements, loops, comprehensions -/
namespace Lw
open PySem L2
open Evl (Ex)
section
variable {K : PySem.W.Frag} {σ : L2.St} {G G' H H' : Hp} {ta tb te tx : TE} {t u : TT} {x y z v : V} {r : R2} {P Pa Pb : VP} {D : Ends} {tu tw : TS} {g : TG}
theorem st_asg {i : Nat} (hG : Ex G H) (h : EF te σ G P) (k : ∀ v G' H', Gr G G' H H' → P v G' → D.nx (σ.set i (some v)) H') : tAsg te (gName i) D σ H := h H hG _ k
theorem st_ret (hG : Ex G H) (h : EF te σ G P) (k : ∀ v G' H', Gr G G' H H' → P v G' → D.rt v H') : tRet te D σ H := h H hG _ k
theorem st_drop (hG : Ex G H) (h : EF te σ G P) (k : ∀ v G' H', Gr G G' H H' → P v G' → D.nx σ H') : tDrop te D σ H := h H hG _ k
theorem st_if {p : Bool → Prop} (hG : Ex G H) (h : ET t σ G p) (h1 : p true → ∀ H', Ex H H' → tu D σ H') (h2 : p false → ∀ H', Ex H H' → tw D σ H') : tIfS t tu tw D σ H := h H hG _ fun b H' e pb => by
  cases b with
  | true =>
    show tu D σ H'
    exact h1 pb H' e
  | false =>
    show tw D σ H'
    exact h2 pb H' e
/-- an if that is never gone -/
theorem st_if0 (hG : Ex G H) (h : ET t σ G (· = false)) (h2 : ∀ H', Ex H H' → tw D σ H') : tIfS t tu tw D σ H := st_if hG h (fun z => nomatch z) fun _ => h2
/-- l.append(e): l a list that H alone tells -/
theorem st_app {l : Addr} {xs : List V} (hG : Ex G H) (hl : H l = some (.lst xs)) (ho : EF ta σ G (XV (.ref l))) (h : EF te σ G P) (hz : xs.length < 1000) (k : ∀ v G' H', Gr G G' H H' → P v G' → D.nx σ (upd H' l (.lst (xs ++ [v])))) :
    tDrop (tBM K "list" rAppend ta (tCons te tNil)) D σ H := ho H hG _ fun v1 G1 H1 g1 p1 => by
  cases (show v1 = .ref l from p1)
  refine ⟨.inl ⟨rfl, xs, Evl.sq_of (g1.hp _ _ hl)⟩, h H1 (hG.trans g1.hp) _ fun v2 G2 H2 g2 p2 => ?_⟩
  refine ⟨l, xs, v2, rfl, rfl, g2.hp _ _ (g1.hp _ _ hl), Nat.lt_of_lt_of_le hz (by decide), ?_⟩
  exact k v2 G2 H2 ⟨g2.up, g2.ok, g1.hp.trans g2.hp, fun a h g => g2.2.2.2 a (exNe g1.hp h) g⟩ p2
theorem st_forR1 {j : Nat} {n : Int} {ta : TA} (hG : Ex G H) (h : EA ta σ G fun vs _ => vs = [.int n]) (hn : n ≤ 100000) (hn0 : -100000 ≤ n) (W : Nat → L2.St → Hp → Prop) (h0 : ∀ H', Ex H H' → W 0 σ H')
    (hs : ∀ (i : Nat) σ' H', (i : Int) < n → W i σ' H' → tu { D with nx := W (i + 1), ct := W (i + 1), bk := D.nx } (σ'.set j (some (.int (i : Int)))) H') (hd : ∀ σ' H', W n.toNat σ' H' → D.nx σ' H') : tFor (iRng1 ta) (gName j) tu D σ H :=
  h H hG _ fun vs G1 H1 g1 e => ⟨n, e, by omega, by omega, for_range (lo := 0) (n := n.toNat) W (h0 H1 g1.hp) (fun i σ' H' hi p => by
    have e0 : (0 : Int) + (i : Int) = (i : Int) := Int.zero_add _
    show tu { D with nx := W (i + 1), ct := W (i + 1), bk := D.nx } (σ'.set j (some (.int ((0 : Int) + (i : Int))))) H'
    rw [e0]
    exact hs i σ' H' (by omega) p) hd⟩
theorem st_forR2 {j : Nat} {lo n : Int} {ta : TA} (hG : Ex G H) (h : EA ta σ G fun vs _ => vs = [.int lo, .int n]) (hn : 0 ≤ lo ∧ lo ≤ 100000 ∧ -100000 ≤ n ∧ n ≤ 100000) (W : Nat → L2.St → Hp → Prop) (h0 : ∀ H', Ex H H' → W 0 σ H')
    (hs : ∀ (i : Nat) σ' H', lo + (i : Int) < n → W i σ' H' → tu { D with nx := W (i + 1), ct := W (i + 1), bk := D.nx } (σ'.set j (some (.int (lo + (i : Int))))) H') (hd : ∀ σ' H', W (n - lo).toNat σ' H' → D.nx σ' H') : tFor (iRng2 ta) (gName j) tu D σ H :=
  h H hG _ fun vs G1 H1 g1 e => ⟨lo, n, e, ⟨by omega, by omega, by omega, by omega⟩, for_range (lo := lo) (n := (n - lo).toNat) W (h0 H1 g1.hp) (fun i σ' H' hi p => hs i σ' H' (by omega) p) hd⟩
/-- over a list that stays -/
theorem st_forL {xs : List V} {tl : TE} (hG : Ex G H) (h : EF tl σ G fun v G' => ∃ a, v = .ref a ∧ SqL K G' a xs) (W : Nat → L2.St → Hp → Prop) (h0 : ∀ G' H', Gr G G' H H' → W 0 σ H')
    (hl : ∀ G' H1 a, Gr G G' H H1 → SqL K G' a xs → ∀ i σ' H', i ≤ xs.length → W i σ' H' → SqL K H' a xs)
    (hs : ∀ i x σ' H', xs[i]? = some x → W i σ' H' → g x σ' H' fun σ2 H2 => tu { D with nx := W (i + 1), ct := W (i + 1), bk := D.nx } σ2 H2) (hd : ∀ σ' H', W xs.length σ' H' → D.nx σ' H') : tFor (iList K tl) g tu D σ H :=
  h H hG _ fun v G1 H1 g1 ⟨a, e, hx⟩ => ⟨a, e, ⟨xs, Evl.ex_l g1.ok hx⟩, for_list W (h0 G1 H1 g1) (hl G1 H1 a g1 hx) hs hd⟩

/-! ### comprehensions -/
/-- one turn: none, or a value -/
def EC (t : TT) (te : TE) (σ : L2.St) (G : Hp) (N : Hp → Prop) (Y : VP) : Prop := ∀ H, Ex G H → ∀ R : Option V → Hp → Prop, (∀ H', Ex H H' → N G → R none H') → (∀ y G' H', Gr G G' H H' → Y y G' → R (some y) H') →
  t σ H fun b H3 => if b = true then te σ H3 fun y H4 => R (some y) H4 else R none H3
theorem ec_all {N : Hp → Prop} {Y : VP} (h : EF te σ G Y) : EC tYes te σ G N Y := fun H e R _ k => by
  show if true = true then te σ H fun y H4 => R (some y) H4 else R none H
  rw [if_pos rfl]
  exact h H e _ k
theorem ec_if {p : Bool → Prop} {N : Hp → Prop} {Y : VP} (ht : ET t σ G p) (h : p true → EF te σ G Y) (hn : p false → N G) : EC t te σ G N Y := fun H e R k0 k => ht H e _ fun b H1 e1 pb => by
  cases b with
  | true =>
    rw [if_pos rfl]
    exact h pb H1 (e.trans e1) _ fun y G2 H2 g2 p2 => k y G2 H2 ⟨g2.up, g2.ok, e1.trans g2.hp, fun a h g => g2.2.2.2 a (exNe e1 h) g⟩ p2
  | false =>
    rw [if_neg Bool.false_ne_true]
    exact k0 H1 e1 (hn pb)
/-- the state between two turns: D the list that is made -/
def CW (G H1 : Hp) (D : Addr) (I : Nat → List V → Hp → Prop) (i : Nat) (H' : Hp) : Prop := ∃ G' xs, Ex G G' ∧ Ex G' H' ∧ G' D = none ∧ H' D = some (.lst xs) ∧ xs.length ≤ i ∧ I i xs G' ∧ Ex H1 H' ∧ ∀ a, H1 a ≠ none → G a = none → G' a = none
theorem cw_start {G H1 : Hp} {D : Addr} {I : Nat → List V → Hp → Prop} (e : Ex G H1) (hD : H1 D = none) (h0 : I 0 [] G) : CW G H1 D I 0 (upd H1 D (.lst [])) :=
  ⟨G, [], Ex.refl G, ex_off e (none_back e hD), none_back e hD, upd_same, Nat.le_refl _, h0, Ex.new hD, fun _ _ h => h⟩
theorem cw_turn {G H1 : Hp} {D : Addr} {I : Nat → List V → Hp → Prop} {i : Nat} {H' : Hp} {t : TT} {te : TE} {σ2 : L2.St} (hD : H1 D = none) (p : CW G H1 D I i H') (hi : i < 50000)
    (h : ∀ xs G', Ex G G' → I i xs G' → EC t te σ2 G' (fun G' => I (i + 1) xs G') fun y G' => I (i + 1) (xs ++ [y]) G') :
    t σ2 H' fun b H3 => if b = true then te σ2 H3 fun y H4 => ∃ acc, H4 D = some (.lst acc) ∧ acc.length < sizeLine ∧ CW G H1 D I (i + 1) (upd H4 D (.lst (acc ++ [y]))) else CW G H1 D I (i + 1) H3 := by
  obtain ⟨G', xs, e1, e2, gD, hd, hl, hI, e3, hc⟩ := p
  refine h xs G' e1 hI H' e2 (fun o H4 => match o with | some y => ∃ acc, H4 D = some (.lst acc) ∧ acc.length < sizeLine ∧ CW G H1 D I (i + 1) (upd H4 D (.lst (acc ++ [y]))) | none => CW G H1 D I (i + 1) H4) (fun H4 e4 hN => ?_) (fun y G2 H4 g4 hy => ?_)
  · exact ⟨G', xs, e1, e2.trans e4, gD, e4 _ _ hd, Nat.le_succ_of_le hl, hN, e3.trans e4, hc⟩
  · have g2D : G2 D = none := g4.2.2.2 D (ne_none_of hd) gD
    refine ⟨xs, g4.hp _ _ hd, Nat.lt_of_le_of_lt hl (Nat.lt_of_lt_of_le hi (by decide)), G2, xs ++ [y], e1.trans g4.up, ex_off g4.ok g2D, g2D, upd_same, by rw [List.length_append, List.length_singleton]; omega, hy, ?_, fun a h g => g4.2.2.2 a (exNe e3 h) (hc a h g)⟩
    exact ex_off (e3.trans g4.hp) hD
theorem cw_end {G H1 : Hp} {D : Addr} {I : Nat → List V → Hp → Prop} {i : Nat} {H' : Hp} {P : VP} {Q : VK} (hD : H1 D = none) (e : Ex G H1) (p : CW G H1 D I i H') (hP : ∀ p xs G', G p = none → G' p = none → Ex G G' → xs.length ≤ i → I i xs G' → P (.ref p) (upd G' p (.lst xs)))
    (q : ∀ v G' H', Gr G G' H1 H' → P v G' → Q v H') : Q (.ref D) H' := by
  obtain ⟨G', xs, e1, e2, gD, hd, hl, hI, e3, hc⟩ := p
  refine q _ (upd G' D (.lst xs)) H' ⟨e1.trans (ex_in gD), ex_know e2 hd, e3, fun a h g => ?_⟩ (hP D xs G' (none_back e hD) gD e1 hl hI)
  rw [upd_ne (fun z => h (by rw [z]; exact hD))]
  exact hc a h g
theorem ef_lcR1 {ta : TA} {j : Nat} {vs : List Nat} {n : Int} (I : Nat → List V → Hp → Prop) (h : EA ta σ G fun us _ => us = [.int n]) (hn : 0 ≤ n ∧ n ≤ 40000) (hw : ∀ x, wipe ((wipe σ vs).set j (some x)) vs = wipe σ vs) (h0 : ∀ G', Ex G G' → I 0 [] G')
    (hs : ∀ (i : Nat) xs G', Ex G G' → (i : Int) < n → I i xs G' → EC t te ((wipe σ vs).set j (some (.int (i : Int)))) G' (fun G' => I (i + 1) xs G') fun y G' => I (i + 1) (xs ++ [y]) G')
    (hP : ∀ p xs G', G p = none → G' p = none → Ex G G' → xs.length ≤ n.toNat → I n.toNat xs G' → P (.ref p) (upd G' p (.lst xs))) : EF (tLc (iRng1 ta) (gName j) t te vs) σ G P := fun H0 e Q q => h H0 e _ fun us G1 H1 g1 ev => ⟨n, ev, by omega, by omega, fun Dl hD =>
  lc_range (lo := 0) (n := n.toNat) (CW G1 H1 Dl I) (cw_start g1.ok hD (h0 G1 g1.up)) (fun i H' hi p => by
    have e0 : (0 : Int) + (i : Int) = (i : Int) := Int.zero_add _
    show wipe ((wipe σ vs).set j (some (.int ((0 : Int) + (i : Int))))) vs = wipe σ vs ∧ t ((wipe σ vs).set j (some (.int ((0 : Int) + (i : Int))))) H' fun b H3 => if b = true then te ((wipe σ vs).set j (some (.int ((0 : Int) + (i : Int))))) H3 fun y H4 => ∃ acc, H4 Dl = some (.lst acc) ∧ acc.length < sizeLine ∧ CW G1 H1 Dl I (i + 1) (upd H4 Dl (.lst (acc ++ [y]))) else CW G1 H1 Dl I (i + 1) H3
    rw [e0]
    exact ⟨hw _, cw_turn hD p (by omega) fun xs G' e' hI => hs i xs G' (g1.up.trans e') (by omega) hI⟩) (fun H' p => cw_end (P := P) hD g1.ok p (fun p xs G' g g' e' hl hI => hP p xs G' (none_back g1.up g) g' (g1.up.trans e') hl hI) fun v G' H' g' p' => q v G' H' (g1.trans g') p')⟩
theorem ef_lcL {xs : List V} {tl : TE} {j : Nat} {vs : List Nat} (I : Nat → List V → Hp → Prop) (h : EF tl σ G fun v G' => ∃ a, v = .ref a ∧ SqL K G' a xs) (hz : xs.length ≤ 40000) (hw : ∀ x, wipe ((wipe σ vs).set j (some x)) vs = wipe σ vs) (h0 : ∀ G', Ex G G' → I 0 [] G')
    (hs : ∀ (i : Nat) x acc G', Ex G G' → xs[i]? = some x → I i acc G' → EC t te ((wipe σ vs).set j (some x)) G' (fun G' => I (i + 1) acc G') fun y G' => I (i + 1) (acc ++ [y]) G')
    (hP : ∀ p acc G', G p = none → G' p = none → Ex G G' → acc.length ≤ xs.length → I xs.length acc G' → P (.ref p) (upd G' p (.lst acc))) : EF (tLc (iList K tl) (gName j) t te vs) σ G P := fun H0 e Q q => h H0 e _ fun v G1 H1 g1 ⟨a, ev, hx⟩ => ⟨a, ev, ⟨xs, Evl.ex_l g1.ok hx⟩, fun Dl hD =>
  lc_list (xs := xs) (CW G1 H1 Dl I) (cw_start g1.ok hD (h0 G1 g1.up)) (fun i H' _ p => by
    obtain ⟨G', _, e1, e2, _⟩ := p
    exact Evl.ex_l (e1.trans e2) hx) (fun i x H' hi p => ⟨hw x, cw_turn hD p (by have := (List.getElem?_eq_some_iff.mp hi).1; omega) fun acc G' e' hI => hs i x acc G' (g1.up.trans e') hi hI⟩)
    (fun H' p => cw_end (P := P) hD g1.ok p (fun p xs G' g g' e' hl hI => hP p xs G' (none_back g1.up g) g' (g1.up.trans e') hl hI) fun v G' H' g' p' => q v G' H' (g1.trans g') p')⟩
theorem tyes_go {σ : L2.St} {H : Hp} {Q : Bool → Hp → Prop} (h : Q true H) : tYes σ H Q := h
/-- the same without its turns -/
def CX2 (G H1 : Hp) (D : Addr) (J : List V → Hp → Prop) (H' : Hp) : Prop := ∃ G' xs, Ex G G' ∧ Ex G' H' ∧ G' D = none ∧ H' D = some (.lst xs) ∧ J xs G' ∧ Ex H1 H' ∧ ∀ a, H1 a ≠ none → G a = none → G' a = none
/-- two for's: a range, and a list that the turn knows; no tests -/
theorem ef_lc2 {ta : TA} {tl : TE} {j j1 : Nat} {vs vs1 : List Nat} {n : Int} (ys : Nat → List V) (I : Nat → Nat → List V → Hp → Prop) (h : EA ta σ G fun us _ => us = [.int n]) (hn : 0 ≤ n ∧ n ≤ 1000) (hy : ∀ i, (ys i).length ≤ 1000)
    (hw : ∀ x, wipe ((wipe σ vs).set j (some x)) vs = wipe σ vs) (hw1 : ∀ x y, wipe ((wipe ((wipe σ vs).set j (some x)) vs1).set j1 (some y)) vs1 = wipe ((wipe σ vs).set j (some x)) vs1) (h0 : ∀ G', Ex G G' → I 0 0 [] G')
    (hx : ∀ (i : Nat) xs G', (i : Int) < n → I i (ys i).length xs G' → I (i + 1) 0 xs G')
    (hl : ∀ (i : Nat) G', Ex G G' → (i : Int) < n → EF tl ((wipe σ vs).set j (some (.int (i : Int)))) G' fun v G'' => ∃ a, v = .ref a ∧ SqL K G'' a (ys i))
    (hm : ∀ i k xs G' G'', Ex G' G'' → I i k xs G' → I i k xs G'')
    (hs : ∀ (i k : Nat) y xs G', Ex G G' → (i : Int) < n → (ys i)[k]? = some y → I i k xs G' → EF te ((wipe ((wipe σ vs).set j (some (.int (i : Int)))) vs1).set j1 (some y)) G' fun y G' => I i (k + 1) (xs ++ [y]) G')
    (hc : ∀ i k xs G', I i k xs G' → xs.length ≤ 1000000)
    (hP : ∀ p xs G', G p = none → G' p = none → Ex G G' → I n.toNat 0 xs G' → P (.ref p) (upd G' p (.lst xs))) : EF (tLc2 (iRng1 ta) (gName j) tYes (iList K tl) (gName j1) tYes te vs vs1) σ G P := fun H0 e Q q => h H0 e _ fun us G1 H1 g1 ev => by
  refine ⟨n, ev, by omega, by omega, fun Dl hD => ?_⟩
  refine ⟨fun i m H' => m = n.toNat - i ∧ i ≤ n.toNat ∧ CX2 G1 H1 Dl (I i 0) H', ⟨n.toNat, by simp, Nat.zero_le _, ?_⟩, ?_⟩
  · exact ⟨G1, [], Ex.refl _, ex_off g1.ok (none_back g1.ok hD), none_back g1.ok hD, upd_same, h0 G1 g1.up, Ex.new hD, fun _ _ h => h⟩
  · rintro i m H' ⟨rfl, hi, p⟩
    by_cases hlt : i < n.toNat
    · refine .inr ⟨hlt, fun H'' => CX2 G1 H1 Dl (I (i + 1) 0) H'', fun H'' p' => ⟨n.toNat - (i + 1), by omega, rfl, hlt, p'⟩, fun x H'' yy => ?_⟩
      obtain ⟨ey, yy⟩ := yy
      subst ey yy
      have e0 : (0 : Int) + (i : Int) = (i : Int) := Int.zero_add _
      rw [e0]
      refine ⟨hw _, ?_⟩
      refine tyes_go (iteT ?_)
      obtain ⟨G', xs, e1, e2, gD, hd, hI, e3, hcc⟩ := p
      refine hl i G' (g1.up.trans e1) (by omega) _ e2 _ fun v G2 H2 g2 ⟨a, ea, hsl⟩ => ?_
      refine ⟨a, ea, ⟨ys i, Evl.ex_l g2.ok hsl⟩, ?_⟩
      refine ⟨fun k m H' => m = (ys i).length - k ∧ k ≤ (ys i).length ∧ CX2 G1 H1 Dl (fun xs G3 => Ex G2 G3 ∧ I i k xs G3) H', ⟨(ys i).length, by simp, Nat.zero_le _, ?_⟩, ?_⟩
      · exact ⟨G2, xs, e1.trans g2.up, g2.ok, g2.2.2.2 Dl (ne_none_of hd) gD, g2.hp _ _ hd, ⟨Ex.refl _, hm _ _ _ _ _ g2.up hI⟩, e3.trans g2.hp, fun b hb gb => g2.2.2.2 b (exNe e3 hb) (hcc b hb gb)⟩
      · rintro k m H3 ⟨rfl, hk, p3⟩
        obtain ⟨G4, xs4, f1, f2, fD, fd, ⟨fe, fI⟩, f3, fc⟩ := p3
        have hsl3 := Evl.ex_l (fe.trans f2) hsl
        by_cases hkl : k < (ys i).length
        · refine .inr ⟨⟨ys i, (ys i)[k], hsl3, by simp [hkl]⟩, fun H'' => CX2 G1 H1 Dl (fun xs G3 => Ex G2 G3 ∧ I i (k + 1) xs G3) H'', fun H'' p' => ⟨(ys i).length - (k + 1), by omega, rfl, hkl, p'⟩, fun y H'' yy => ?_⟩
          obtain ⟨ey, yy⟩ := yy
          subst ey
          have hyk := yy (ys i) hsl3
          refine ⟨hw1 _ _, ?_⟩
          refine tyes_go (iteT ?_)
          refine hs i k y xs4 G4 (g1.up.trans f1) (by omega) hyk fI _ f2 _ fun v5 G5 H5 g5 p5 => ?_
          have g5D : G5 Dl = none := g5.2.2.2 Dl (ne_none_of fd) fD
          exact ⟨xs4, g5.hp _ _ fd, Nat.lt_of_le_of_lt (hc _ _ _ _ fI) (by decide), ⟨G5, xs4 ++ [v5], f1.trans g5.up, ex_off g5.ok g5D, g5D, upd_same, ⟨fe.trans g5.up, p5⟩, ex_off (f3.trans g5.hp) hD, fun b hb gb => g5.2.2.2 b (exNe f3 hb) (fc b hb gb)⟩⟩
        · have ek : k = (ys i).length := by omega
          subst ek
          exact .inl ⟨⟨ys i, hsl3, Nat.le_refl _⟩, G4, xs4, f1, f2, fD, fd, hx _ _ _ (by omega) fI, f3, fc⟩
    · have ei : i = n.toNat := by omega
      subst ei
      refine .inl ⟨Nat.le_refl _, ?_⟩
      obtain ⟨G', xs, e1, e2, gD, hd, hI, e3, hcc⟩ := p
      refine q _ (upd G' Dl (.lst xs)) H' (g1.trans ⟨e1.trans (ex_in gD), ex_know e2 hd, e3, fun a h g => ?_⟩) (hP Dl xs G' (none_back (g1.up.trans g1.ok) hD) gD (g1.up.trans e1) hI)
      rw [upd_ne (fun z => h (by rw [z]; exact hD))]
      exact hcc a h g
end
end Lw

set_option Elab.async false
set_option linter.all false
set_option maxRecDepth 100000
set_option maxHeartbeats 4000000
/-! x in o by an own __contains__; is None, is True of anything; own field stores -/
namespace Lw
open PySem L2
open Evl (Ex)
section
variable {X : Cx} {CX : CXT} {k : Nat} {f C : Addr} {fd : FuncData} {ps : List Str} {sp : Sp} {E : XK}
def rInOwn (neg : Bool) (C : Addr) (sp : Sp) (E : XK) : R2 := fun x y H Q => ∃ a dx fs, y = .ref a ∧ H a = some (.ins C dx fs) ∧ sp [.ref a, x] H (fun v H2 => ∃ b, v = .bl b ∧ Q (.bl (if neg then !b else b)) H2) E
theorem contains_own {pins : List (Addr × Obj)} {σ : L2.St} {H : Hp} {s : Shared} {a : Addr} {dx : Addr} {fs : List (Str × V)} {x : V} {v : Value} {Q' : Bool → Hp → Prop} (hm : Meth X.K C "__contains__" f) (F : FnOk X.prog X.w X.K X.mg X.base CX k f fd ps sp) (hr : Room k X.A) (hb : Binds X.K fd ps []) (hx : Passes CX X E)
    (I : Inv X pins σ H s) (rx : RelV x v) (ea : H a = some (.ins C dx fs)) (h : sp [.ref a, x] H (fun v H2 => ∃ b, v = .bl b ∧ Q' b H2) E) :
    wpAny (model X.prog X.w) X.A (contains (.ref a) v) (fun b s' => ∃ H', Inv X pins σ H' s' ∧ Q' b H') X.xe s := by
  obtain ⟨mA, O, _⟩ := ins_get I.hok ea
  obtain ⟨od, J, _⟩ := O.look
  unfold contains
  refine wpAny_holding (wpAny_bind (wpAny_bind (J.type.here ((PySem.W.looks_findIn I.kIn hm.at_).here ?_))))
  rw [if_neg (by simp)]
  refine wpAny_bind (PySem.W.unlessNone_K I.kIn J hm.at_ hm.fn ?_)
  refine wpAny_mono (run_fn (us := [.ref a, v]) (vs := [.ref a, x]) (ds := []) (dvs := []) F hr hb .nil hx I (.cons rfl (.cons rx .nil)) h) (fun r s' hq => ?_) fun _ _ z => z
  obtain ⟨y, H', I', ry, b, rfl, q⟩ := hq
  cases (show r = Value.bool b from ry)
  exact wpAny_pure ⟨H', I', q⟩
theorem op_notInOwn (hm : Meth X.K C "__contains__" f) (F : FnOk X.prog X.w X.K X.mg X.base CX k f fd ps sp) (hr : Room k X.A) (hb : Binds X.K fd ps []) (hx : Passes CX X E) : OpR X (compareOp .NotIn) (rInOwn true C sp E) := by
  intro pins s σ H x y v u Q I rx ry h
  obtain ⟨a, dx, fs, rfl, ea, h⟩ := h
  cases (show u = Value.ref a from ry)
  refine wpAny_bind (wpAny_mono (contains_own (Q' := fun b H2 => Q (.bl (!b)) H2) hm F hr hb hx I rx ea h) (fun b s' hq => ?_) fun _ _ z => z)
  obtain ⟨H', I', q⟩ := hq
  exact wpAny_pure ⟨.bl (!b), H', I', rfl, q⟩
theorem op_inOwn (hm : Meth X.K C "__contains__" f) (F : FnOk X.prog X.w X.K X.mg X.base CX k f fd ps sp) (hr : Room k X.A) (hb : Binds X.K fd ps []) (hx : Passes CX X E) : OpR X (compareOp .In) (rInOwn false C sp E) := by
  intro pins s σ H x y v u Q I rx ry h
  obtain ⟨a, dx, fs, rfl, ea, h⟩ := h
  cases (show u = Value.ref a from ry)
  refine wpAny_bind (wpAny_mono (contains_own (Q' := fun b H2 => Q (.bl b) H2) hm F hr hb hx I rx ea h) (fun b s' hq => ?_) fun _ _ z => z)
  obtain ⟨H', I', q⟩ := hq
  exact wpAny_pure ⟨.bl b, H', I', rfl, q⟩
/-- x is True, False: x anything but an object of which one may not know -/
def rIsC (c : Bool) : R2 := fun x y H Q => y = .bl c ∧ Q (.bl (decide (x = .bl c))) H
theorem op_isC {c : Bool} : OpR X (compareOp .Is) (rIsC c) := by
  intro pins s σ H x y v u Q I rx ry h
  obtain ⟨rfl, q⟩ := h
  cases (show u = Value.bool c from ry)
  have no : (∀ b, x ≠ .bl b) → plainIs v (.bool c) = true → v ≠ .bool c → wpAny (model X.prog X.w) X.A (compareOp .Is v (.bool c)) (EP X pins σ Q) X.xe s := fun hx hp hn =>
    wpAny_is_other hp hn ⟨.bl false, H, I, rfl, by rw [decide_eq_false (hx c)] at q; exact q⟩
  cases x with
  | bl b =>
    cases (show v = Value.bool b from rx)
    by_cases e : b = c
    · subst e
      exact wpAny_is_self rfl ⟨.bl true, H, I, rfl, by simpa using q⟩
    · exact wpAny_is_other rfl (fun z => e (Value.bool.inj z)) ⟨.bl false, H, I, rfl, by simpa [e] using q⟩
  | non => cases rx; exact no (fun _ z => nomatch z) rfl (fun z => nomatch z)
  | int i => obtain ⟨t, rfl⟩ := rx; exact no (fun _ z => nomatch z) rfl (fun z => nomatch z)
  | str i => obtain ⟨t, rfl⟩ := rx; exact no (fun _ z => nomatch z) rfl (fun z => nomatch z)
  | byt i => obtain ⟨t, rfl⟩ := rx; exact no (fun _ z => nomatch z) rfl (fun z => nomatch z)
  | flt i => obtain ⟨t, rfl⟩ := rx; exact no (fun _ z => nomatch z) rfl (fun z => nomatch z)
  | ref i => cases rx; exact no (fun _ z => nomatch z) rfl (fun z => nomatch z)
  | ty i => cases rx; exact no (fun _ z => nomatch z) rfl (fun z => nomatch z)
end
end Lw

set_option Elab.async false
set_option linter.all false
set_option maxRecDepth 100000
set_option maxHeartbeats 4000000
/-! the mathematics: tracks, joints, demands as data -/
namespace Lw
open PySem L2
open Evl (Ex)

/-! ### data -/
abbrev dI (l : List Int) : PyData := .list (l.map PyData.int)
def dP (p : Int × Int) : PyData := .tuple [.int p.1, .int p.2]
abbrev dPs (l : List (Int × Int)) : PyData := .list (l.map dP)
def dTr (a : Int) (s : Str) (b : Int) : PyData := .tuple [.int a, .str s, .int b]
theorem eqv_int (a b : Int) : PyData.eqv (.int a) (.int b) = decide (a = b) := by
  simp only [PyData.eqv]
  by_cases h : a = b
  · simp [h]
  · simp [h]
theorem eqv_pair (p q : Int × Int) : PyData.eqv (dP p) (dP q) = decide (p = q) := by
  obtain ⟨a, b⟩ := p
  obtain ⟨c, d⟩ := q
  simp only [dP, PyData.eqv, PyData.eqvAll]
  by_cases h1 : a = c
  · by_cases h2 : b = d
    · simp [h1, h2]
    · simp [h1, h2]
  · simp [h1]
theorem any_int (l : List Int) (b : Int) : ((l.map PyData.int).any fun z => PyData.eqv z (.int b)) = decide (b ∈ l) := by
  induction l with
  | nil => rfl
  | cons a l ih =>
    rw [List.map_cons, List.any_cons, ih, eqv_int]
    by_cases h : b = a
    · simp [h]
    · have : ¬ a = b := fun z => h z.symm
      simp [h, this]
theorem any_pair (l : List (Int × Int)) (b : Int × Int) : ((l.map dP).any fun z => PyData.eqv z (dP b)) = decide (b ∈ l) := by
  induction l with
  | nil => rfl
  | cons a l ih =>
    rw [List.map_cons, List.any_cons, ih, eqv_pair]
    by_cases h : b = a
    · simp [h]
    · have : ¬ a = b := fun z => h z.symm
      simp [h, this]
theorem shaped_of {d : PyData} (h1 : d.canLay0 = true) (h2 : d.depth ≤ 64) : SeqAt.shaped d = true := by
  show (d.canLay0 && decide (d.depth ≤ 64)) = true
  rw [h1, decide_eq_true h2]
  rfl
theorem sh_int (a : Int) : SeqAt.shaped (.int a) = true := shaped_of (by simp [PyData.canLay0]) (by simp [PyData.depth])
theorem lay_ints : ∀ l : List Int, PyData.canLayAll0 (l.map PyData.int) = true
  | [] => by simp [PyData.canLayAll0]
  | z :: zs => by simp [PyData.canLayAll0, PyData.canLay0, lay_ints zs]
theorem dep_ints : ∀ l : List Int, PyData.depthAll (l.map PyData.int) ≤ 1
  | [] => by simp [PyData.depthAll]
  | z :: zs => by
    have h := dep_ints zs
    simp only [List.map_cons, PyData.depthAll, PyData.depth]
    omega
theorem sh_ints (l : List Int) : SeqAt.shaped (dI l) = true := shaped_of (by simp only [dI, PyData.canLay0]; exact lay_ints l) (by have := dep_ints l; simp only [dI, PyData.depth]; omega)
theorem dep_pair (p : Int × Int) : (dP p).depth ≤ 2 := by simp [dP, PyData.depth, PyData.depthAll]
theorem lay_pair (p : Int × Int) : (dP p).canLay0 = true := by simp [dP, PyData.canLay0, PyData.canLayAll0]
theorem sh_pair (p : Int × Int) : SeqAt.shaped (dP p) = true := shaped_of (lay_pair p) (by have := dep_pair p; omega)
theorem lay_pairs : ∀ l : List (Int × Int), PyData.canLayAll0 (l.map dP) = true
  | [] => by simp [PyData.canLayAll0]
  | z :: zs => by simp [PyData.canLayAll0, lay_pair, lay_pairs zs]
theorem dep_pairs : ∀ l : List (Int × Int), PyData.depthAll (l.map dP) ≤ 2
  | [] => by simp [PyData.depthAll]
  | z :: zs => by
    have h := dep_pairs zs
    have h2 := dep_pair z
    simp only [List.map_cons, PyData.depthAll]
    omega
theorem sh_pairs (l : List (Int × Int)) : SeqAt.shaped (dPs l) = true := shaped_of (by simp only [dPs, PyData.canLay0]; exact lay_pairs l) (by have := dep_pairs l; simp only [dPs, PyData.depth]; omega)

/-! ### joints -/
def eo (js : List (Int × Int)) (b : Int) : List Int := (js.filter fun p => decide (p.1 = b)).map (·.2)
def wo (js : List (Int × Int)) (b : Int) : List Int := (js.filter fun p => decide (p.2 = b)).map (·.1)
theorem eo_snoc_same (js : List (Int × Int)) (w e : Int) : eo (js ++ [(w, e)]) w = eo js w ++ [e] := by simp [eo, List.filter_append]
theorem eo_snoc_ne (js : List (Int × Int)) {w e b : Int} (h : w ≠ b) : eo (js ++ [(w, e)]) b = eo js b := by simp [eo, List.filter_append, h]
theorem wo_snoc_same (js : List (Int × Int)) (w e : Int) : wo (js ++ [(w, e)]) e = wo js e ++ [w] := by simp [wo, List.filter_append]
theorem wo_snoc_ne (js : List (Int × Int)) {w e b : Int} (h : e ≠ b) : wo (js ++ [(w, e)]) b = wo js b := by simp [wo, List.filter_append, h]
theorem eo_len_le (js : List (Int × Int)) (b : Int) : (eo js b).length ≤ js.length := by
  unfold eo
  rw [List.length_map]
  exact List.length_filter_le _ _
theorem wo_len_le (js : List (Int × Int)) (b : Int) : (wo js b).length ≤ js.length := by
  unfold wo
  rw [List.length_map]
  exact List.length_filter_le _ _
theorem mem_eo {js : List (Int × Int)} {w e : Int} : e ∈ eo js w ↔ (w, e) ∈ js := by
  unfold eo
  rw [List.mem_map]
  constructor
  · rintro ⟨⟨a, b⟩, h, rfl⟩
    obtain ⟨h1, h2⟩ := List.mem_filter.mp h
    have h2 := of_decide_eq_true h2
    subst h2
    exact h1
  · intro h
    exact ⟨(w, e), List.mem_filter.mpr ⟨h, decide_eq_true rfl⟩, rfl⟩
/-- what a new joint must be -/
structure JNew (n : Int) (parks : List Int) (js : List (Int × Int)) (w e : Int) : Prop where
  lo : 0 ≤ w
  lt : w < e
  hi : e < n
  new : (w, e) ∉ js
  ew : w ∉ parks → (eo js w).length ≠ 2
  we : e ∉ parks → (wo js e).length ≠ 2
inductive JOk (n : Int) (parks : List Int) : List (Int × Int) → Prop
  | nil : JOk n parks []
  | snoc {js : List (Int × Int)} {w e : Int} : JOk n parks js → JNew n parks js w e → JOk n parks (js ++ [(w, e)])
theorem JOk.at {n : Int} {parks : List Int} {js : List (Int × Int)} (h : JOk n parks js) : ∀ {i : Nat} {p : Int × Int}, js[i]? = some p → JNew n parks (js.take i) p.1 p.2 := by
  induction h with
  | nil => intro i p h; simp at h
  | snoc hj hn ih =>
    rename_i js w e
    intro i p hp
    by_cases hi : i < js.length
    · rw [List.getElem?_append_left hi] at hp
      rw [List.take_append_of_le_length (Nat.le_of_lt hi)]
      exact ih hp
    · have hl := (List.getElem?_eq_some_iff.mp hp).1
      rw [List.length_append, List.length_singleton] at hl
      have ei : i = js.length := by omega
      subst ei
      rw [List.getElem?_append_right (Nat.le_refl _)] at hp
      simp at hp
      subst hp
      rw [List.take_append_of_le_length (Nat.le_refl _), List.take_length]
      exact hn
theorem JOk.mem {n : Int} {parks : List Int} {js : List (Int × Int)} (h : JOk n parks js) {p : Int × Int} (m : p ∈ js) : 0 ≤ p.1 ∧ p.1 < p.2 ∧ p.2 < n := by
  obtain ⟨i, hi, e⟩ := List.getElem_of_mem m
  have q := h.at (i := i) (p := p) (by rw [List.getElem?_eq_getElem hi, e])
  exact ⟨q.lo, q.lt, q.hi⟩
theorem JOk.yards {n : Int} {parks parks2 : List Int} {js : List (Int × Int)} (h : JOk n parks js) (hs : ∀ p ∈ parks, p ∈ parks2) : JOk n parks2 js := by
  induction h with
  | nil => exact .nil
  | snoc hj hn ih => exact .snoc ih ⟨hn.lo, hn.lt, hn.hi, hn.new, fun z => hn.ew fun y => z (hs _ y), fun z => hn.we fun y => z (hs _ y)⟩
structure Trk where
  lens : List Int
  joints : List (Int × Int)
  parks : List Int
structure TrkOk (t : Trk) : Prop where
  pos : 1 ≤ t.lens.length
  few : t.lens.length ≤ 200
  one : ∀ l ∈ t.lens, 1 ≤ l
  fewP : t.parks.length ≤ 200
  inP : ∀ b ∈ t.parks, 0 ≤ b ∧ b < (t.lens.length : Int)
  fewJ : t.joints.length ≤ 900
  js : JOk (t.lens.length : Int) t.parks t.joints
def dT (t : Trk) : PyData := .tuple [dI t.lens, dPs t.joints, dI t.parks]

/-! ### demands -/
def eastS : Str := "east"
def westS : Str := "west"
def wantD (parks : List Int) (js : List (Int × Int)) (w e : Int) : List PyData :=
  (if w ∉ parks ∧ (eo js w).length = 2 then [dTr w eastS e] else []) ++ (if e ∉ parks ∧ (wo js e).length = 2 then [dTr e westS w] else [])
/-- data whose sameness is asked: depth at most n -/
def Okd : Nat → PyData → Prop
  | _, .int _ => True
  | _, .str _ => True
  | n + 1, .list ds => ds.length ≤ 1000 ∧ ∀ d ∈ ds, Okd n d
  | n + 1, .tuple ds => ds.length ≤ 1000 ∧ ∀ d ∈ ds, Okd n d
  | _, _ => False
theorem ok_tr (a b : Int) (s : Str) : Okd 1 (dTr a s b) := by
  unfold dTr Okd
  refine ⟨by simp, fun d h => ?_⟩
  simp at h
  rcases h with rfl | rfl | rfl <;> simp [Okd]
theorem ok_pair (p : Int × Int) : Okd 1 (dP p) := by
  unfold dP Okd
  refine ⟨by simp, fun d h => ?_⟩
  simp at h
  rcases h with rfl | rfl <;> simp [Okd]
theorem ok_want (parks : List Int) (js : List (Int × Int)) (w e : Int) : Okd 2 (.list (wantD parks js w e)) := by
  unfold Okd
  refine ⟨?_, fun d h => ?_⟩
  · unfold wantD
    rw [List.length_append]
    split <;> split <;> simp
  · unfold wantD at h
    rcases List.mem_append.mp h with h | h
    · split at h
      · simp at h; subst h; exact ok_tr _ _ _
      · simp at h
    · split at h
      · simp at h; subst h; exact ok_tr _ _ _
      · simp at h
theorem ok_pairs (l : List (Int × Int)) (h : l.length ≤ 1000) : Okd 2 (dPs l) := by
  unfold Okd
  refine ⟨by rw [List.length_map]; exact h, fun d m => ?_⟩
  obtain ⟨p, _, rfl⟩ := List.mem_map.mp m
  exact ok_pair p

/-! ### sorted joints -/
def lexLe (p q : Int × Int) : Prop := p.1 < q.1 ∨ (p.1 = q.1 ∧ p.2 ≤ q.2)
theorem sort_uniq : ∀ {l m : List (Int × Int)}, l.Perm m → l.Pairwise lexLe → m.Pairwise lexLe → l = m
  | [], m, h, _, _ => (List.Perm.nil_eq h)
  | x :: l, [], h, _, _ => absurd h.length_eq (by simp)
  | x :: l, y :: m, h, hl, hm => by
    have e : x = y := by
      have h1 : x = y ∨ lexLe y x := by
        rcases List.mem_cons.mp (h.mem_iff.mp (List.mem_cons_self (a := x) (l := l))) with e | hx
        · exact .inl e
        · exact .inr ((List.pairwise_cons.mp hm).1 x hx)
      have h2 : y = x ∨ lexLe x y := by
        rcases List.mem_cons.mp (h.mem_iff.mpr (List.mem_cons_self (a := y) (l := m))) with e | hx
        · exact .inl e
        · exact .inr ((List.pairwise_cons.mp hl).1 y hx)
      rcases h1 with e | h1
      · exact e
      · rcases h2 with e | h2
        · exact e.symm
        · obtain ⟨a, b⟩ := x
          obtain ⟨c, d⟩ := y
          unfold lexLe at h1 h2
          simp only at h1 h2
          have : a = c := by omega
          have : b = d := by omega
          simp [*]
    subst e
    rw [sort_uniq h.cons_inv (List.pairwise_cons.mp hl).2 (List.pairwise_cons.mp hm).2]
/-- the joints by their western blocks -/
def fan (ess : List (List Int)) (n : Nat) : List (Int × Int) := (List.range n).flatMap fun b => ((ess.getD b []).map fun e => ((b : Int), e))
theorem fan_zero (ess : List (List Int)) : fan ess 0 = [] := rfl
theorem fan_succ (ess : List (List Int)) (n : Nat) : fan ess (n + 1) = fan ess n ++ (ess.getD n []).map fun e => ((n : Int), e) := by
  unfold fan
  rw [List.range_succ, List.flatMap_append]
  simp
structure Srt (f : Int → List Int) (n : Nat) (ess : List (List Int)) : Prop where
  len : ess.length = n
  at_ : ∀ (b : Nat) x, ess[b]? = some x → x.Perm (f (b : Int)) ∧ x.Pairwise (· ≤ ·)
theorem Srt.get {f : Int → List Int} {n : Nat} {ess : List (List Int)} (h : Srt f n ess) {b : Nat} (hb : b < n) : ∃ x, ess[b]? = some x ∧ ess.getD b [] = x ∧ x.Perm (f (b : Int)) ∧ x.Pairwise (· ≤ ·) := by
  have hb' : b < ess.length := by rw [h.len]; exact hb
  have e : ess[b]? = some ess[b] := List.getElem?_eq_getElem hb'
  refine ⟨ess[b], e, ?_, h.at_ b _ e⟩
  rw [List.getD_eq_getElem?_getD, e]
  rfl
theorem fan_sorted {f : Int → List Int} {ess : List (List Int)} {N : Nat} (h : Srt f N ess) : ∀ n, n ≤ N → (fan ess n).Pairwise lexLe ∧ ∀ p ∈ fan ess n, p.1 < (n : Int)
  | 0, _ => ⟨.nil, fun p hp => absurd hp (by simp [fan_zero])⟩
  | n + 1, hn => by
    obtain ⟨h1, h2⟩ := fan_sorted h n (by omega)
    obtain ⟨x, _, ex, _, hs⟩ := h.get (b := n) (by omega)
    rw [fan_succ, ex]
    refine ⟨List.pairwise_append.mpr ⟨h1, ?_, fun p hp q hq => ?_⟩, fun p hp => ?_⟩
    · exact List.pairwise_map.mpr (List.Pairwise.imp (fun {a b} hab => .inr ⟨rfl, hab⟩) hs)
    · obtain ⟨e, _, rfl⟩ := List.mem_map.mp hq
      exact .inl (h2 p hp)
    · rcases List.mem_append.mp hp with hp | hp
      · have := h2 p hp
        omega
      · obtain ⟨e, _, rfl⟩ := List.mem_map.mp hp
        show ((n : Nat) : Int) < ((n + 1 : Nat) : Int)
        omega
theorem fan_perm {js : List (Int × Int)} {ess : List (List Int)} {N : Nat} (h : Srt (eo js) N ess) : ∀ n, n ≤ N → (fan ess n).Perm (js.filter fun p => decide (0 ≤ p.1 ∧ p.1 < (n : Int)))
  | 0, _ => by
    have e : (js.filter fun p => decide (0 ≤ p.1 ∧ p.1 < ((0 : Nat) : Int))) = [] := List.filter_eq_nil_iff.mpr fun p _ q => by
      have := of_decide_eq_true q
      omega
    rw [e, fan_zero]
  | n + 1, hn => by
    obtain ⟨x, _, ex, hp, _⟩ := h.get (b := n) (by omega)
    rw [fan_succ, ex]
    have h1 := fan_perm h n (by omega)
    have h2 : (x.map fun e => ((n : Int), e)).Perm (js.filter fun p => decide (p.1 = (n : Int))) := by
      have e : ((js.filter fun p => decide (p.1 = (n : Int))).map (·.2)).map (fun e => ((n : Int), e)) = js.filter fun p => decide (p.1 = (n : Int)) := by
        rw [List.map_map]
        conv => rhs; rw [← List.map_id (js.filter fun p => decide (p.1 = (n : Int)))]
        refine List.map_congr_left fun p hp => ?_
        have := of_decide_eq_true (List.mem_filter.mp hp).2
        obtain ⟨a, b⟩ := p
        simp only at this
        subst this
        rfl
      have q := hp.map (fun e => ((n : Int), e))
      unfold eo at q
      rw [e] at q
      exact q
    refine (h1.append h2).trans ?_
    have h3 := List.filter_append_perm (fun p : Int × Int => decide (p.1 < (n : Int))) (js.filter fun p => decide (0 ≤ p.1 ∧ p.1 < ((n + 1 : Nat) : Int)))
    refine List.Perm.trans ?_ h3
    rw [List.filter_filter, List.filter_filter]
    have a1 : (js.filter fun p => decide (0 ≤ p.1 ∧ p.1 < (n : Int))) = js.filter fun p => decide (p.1 < (n : Int)) && decide (0 ≤ p.1 ∧ p.1 < ((n + 1 : Nat) : Int)) := by
      refine List.filter_congr fun p _ => ?_
      rw [Bool.eq_iff_iff]
      simp only [Bool.and_eq_true, decide_eq_true_eq]
      omega
    have a2 : (js.filter fun p => decide (p.1 = (n : Int))) = js.filter fun p => (!decide (p.1 < (n : Int))) && decide (0 ≤ p.1 ∧ p.1 < ((n + 1 : Nat) : Int)) := by
      refine List.filter_congr fun p _ => ?_
      rw [Bool.eq_iff_iff]
      simp only [Bool.and_eq_true, Bool.not_eq_true', decide_eq_true_eq, decide_eq_false_iff_not]
      omega
    rw [a1, a2]
theorem fan_all {n : Nat} {parks : List Int} {js : List (Int × Int)} {ess : List (List Int)} (h : Srt (eo js) n ess) (hj : JOk (n : Int) parks js) : (fan ess n).Perm js := by
  have e : (js.filter fun p => decide (0 ≤ p.1 ∧ p.1 < (n : Int))) = js := List.filter_eq_self.mpr fun p hp => by
    have := hj.mem hp
    exact decide_eq_true (by omega)
  have q := fan_perm h n (Nat.le_refl _)
  rw [e] at q
  exact q
end Lw

set_option Elab.async false
set_option linter.all false
set_option maxRecDepth 100000
set_option maxHeartbeats 4000000
/-! the promises -/
namespace Lw
open PySem L2
open Evl (Ex)
def Ret (G H : Hp) (P : VP) (Q : VK) : Prop := ∀ v G' H', Gr G G' H H' → P v G' → Q v H'
section
variable {K : PySem.W.Frag} {C : Addr}
/-! ### the law's helpers -/
def spCell (K : PySem.W.Frag) : Sp := fun vs H Q _ => ∃ (G : Hp) (l : Addr) (ns : List Int) (k : Int), Ex G H ∧ vs = [.ref l, .int k] ∧ SqL K G l (ns.map V.int) ∧ ns.length ≤ 63 ∧ 0 ≤ k ∧ k < 1000 ∧ Ret G H (IV fun _ => True) Q
theorem sa_cell {G : Hp} {l : Addr} {ns : List Int} {k : Int} (h : SqL K G l (ns.map V.int)) (hn : ns.length ≤ 63) (h0 : 0 ≤ k) (h1 : k < 1000) : SA (spCell K) [.ref l, .int k] G (IV fun _ => True) :=
  fun H e Q _ q => ⟨G, l, ns, k, e, rfl, h, hn, h0, h1, q⟩
def spDraw : Sp := fun vs H Q _ => ∃ (G : Hp) (c : Int) (k : Int) (n : Int), Ex G H ∧ vs = [.int c, .int k, .int n] ∧ 0 ≤ k ∧ k ≤ 2000 ∧ 1 ≤ n ∧ n ≤ 2000 ∧ Ret G H (IV fun z => 0 ≤ z ∧ z < n) Q
theorem sa_draw {G : Hp} {c k n : Int} (h0 : 0 ≤ k) (h1 : k ≤ 2000) (h2 : 1 ≤ n) (h3 : n ≤ 2000) : SA spDraw [.int c, .int k, .int n] G (IV fun z => 0 ≤ z ∧ z < n) :=
  fun H e Q _ q => ⟨G, c, k, n, e, rfl, h0, h1, h2, h3, q⟩
def spSame (K : PySem.W.Frag) (n : Nat) : Sp := fun vs H Q _ => ∃ (G : Hp) (x : V) (y : V) (d : PyData), Ex G H ∧ vs = [x, y] ∧ Dp K G x d ∧ Dp K G y d ∧ Okd n d ∧ Ret G H (XV (.bl true)) Q
theorem sa_same {G : Hp} {x y : V} {d : PyData} {n : Nat} (hx : Dp K G x d) (hy : Dp K G y d) (ho : Okd n d) : SA (spSame K n) [x, y] G (XV (.bl true)) := fun H e Q _ q => ⟨G, x, y, d, e, rfl, hx, hy, ho, q⟩
def TV (K : PySem.W.Frag) (m : Int) : VP := fun v G => ∃ t, TrkOk t ∧ (t.lens.length : Int) ≤ m ∧ Dp K G v (dT t)
def spTrack (K : PySem.W.Frag) : Sp := fun vs H Q _ => ∃ (G : Hp) (c : Int) (m : Int), Ex G H ∧ vs = [.int c, .int m] ∧ 2 ≤ m ∧ m ≤ 60 ∧ Ret G H (TV K m) Q
theorem sa_track {G : Hp} {c m : Int} (h1 : 2 ≤ m) (h2 : m ≤ 60) : SA (spTrack K) [.int c, .int m] G (TV K m) := fun H e Q _ q => ⟨G, c, m, e, rfl, h1, h2, q⟩
theorem mo_TV {m} : Mo (TV K m) := fun _ _ _ e ⟨t, h, l, d⟩ => ⟨t, h, l, dpx d e⟩
def spAnyT (K : PySem.W.Frag) : Sp := fun vs H Q _ => ∃ (G : Hp) (l : Addr) (ns : List Int) (m : Int), Ex G H ∧ vs = [.ref l, .int m] ∧ SqL K G l (ns.map V.int) ∧ ns.length ≤ 63 ∧ 2 ≤ m ∧ m ≤ 20 ∧ Ret G H (TV K (3 * m)) Q
def spWanted (K : PySem.W.Frag) : Sp := fun vs H Q _ => ∃ (G : Hp) (x : V) (t : Trk) (w : Int) (e : Int), Ex G H ∧ vs = [x, .int w, .int e] ∧ Dp K G x (dT t) ∧ t.joints.length ≤ 900 ∧ Ret G H (DV K (.list (wantD t.parks t.joints w e))) Q

/-! ### the layout -/
/-- the fields of a whole layout -/
structure FLd (fs : List (Str × V)) (n : Int) (l y e w : Addr) : Prop where
  size : fs.lookup ("size" : Str) = some (.int n)
  lens : fs.lookup ("_lengths" : Str) = some (.ref l)
  marks : fs.lookup ("_yard_marks" : Str) = some (.ref y)
  east : fs.lookup ("_east" : Str) = some (.ref e)
  west : fs.lookup ("_west" : Str) = some (.ref w)
  no : ∀ m : Str, m ≠ "size" → m ≠ "_lengths" → m ≠ "_yard_marks" → m ≠ "_east" → m ≠ "_west" → fs.lookup m = none
  few : fs.length ≤ 20
def marksOf (n : Nat) (parks : List Int) : List Bool := (List.range n).map fun b => decide (((b : Nat) : Int) ∈ parks)
theorem marks_at {n : Nat} {parks : List Int} {b : Nat} (h : b < n) : (marksOf n parks)[b]? = some (decide ((b : Int) ∈ parks)) := by
  unfold marksOf
  rw [List.getElem?_map, List.getElem?_range h]
  rfl
/-- a layout stands at p -/
def LayAt (K : PySem.W.Frag) (C : Addr) (G : Hp) (p : Addr) (n : Nat) (parks : List Int) (js : List (Int × Int)) : Prop := ∃ dx fs l y e w ess wss, G p = some (.ins C dx fs) ∧ FLd fs (n : Int) l y e w ∧
  Dp K G (.ref y) (.list ((marksOf n parks).map PyData.bool)) ∧ Dp K G (.ref e) (.list (ess.map dI)) ∧ Dp K G (.ref w) (.list (wss.map dI)) ∧ Srt (eo js) n ess ∧ Srt (wo js) n wss
theorem LayAt.ex {G G' : Hp} {p : Addr} {n : Nat} {parks : List Int} {js : List (Int × Int)} (h : LayAt K C G p n parks js) (e : Ex G G') : LayAt K C G' p n parks js := by
  obtain ⟨dx, fs, l, y, ea, w, ess, wss, h1, h2, h3, h4, h5, h6, h7⟩ := h
  exact ⟨dx, fs, l, y, ea, w, ess, wss, e _ _ h1, h2, dpx h3 e, dpx h4 e, dpx h5 e, h6, h7⟩
/-- an instance whose size is told -/
def SizeAt (C : Addr) (G : Hp) (p : Addr) (n : Int) : Prop := ∃ dx fs, G p = some (.ins C dx fs) ∧ fs.lookup ("size" : Str) = some (.int n)
theorem LayAt.size {G : Hp} {p : Addr} {n : Nat} {parks : List Int} {js : List (Int × Int)} (h : LayAt K C G p n parks js) : SizeAt C G p (n : Int) := by
  obtain ⟨dx, fs, l, y, ea, w, ess, wss, h1, h2, _⟩ := h
  exact ⟨dx, fs, h1, h2.size⟩
theorem LayAt.meth {G : Hp} {p : Addr} {n : Nat} {parks : List Int} {js : List (Int × Int)} (h : LayAt K C G p n parks js) {m : Str} (h1 : m ≠ "size" ∧ m ≠ "_lengths" ∧ m ≠ "_yard_marks" ∧ m ≠ "_east" ∧ m ≠ "_west") : ∃ dx fs, G p = some (.ins C dx fs) ∧ fs.lookup m = none := by
  obtain ⟨dx, fs, l, y, ea, w, ess, wss, h2, h3, _⟩ := h
  exact ⟨dx, fs, h2, h3.no m h1.1 h1.2.1 h1.2.2.1 h1.2.2.2.1 h1.2.2.2.2⟩
theorem SizeAt.ex {G G' : Hp} {p : Addr} {n : Int} (h : SizeAt C G p n) (e : Ex G G') : SizeAt C G' p n := by
  obtain ⟨dx, fs, h1, h2⟩ := h
  exact ⟨dx, fs, e _ _ h1, h2⟩
def spContains (C : Addr) : Sp := fun vs H Q _ => ∃ (G : Hp) (p : Addr) (n : Int) (b : Int), Ex G H ∧ vs = [.ref p, .int b] ∧ SizeAt C G p n ∧ Ret G H (XV (.bl (decide (0 ≤ b ∧ b < n)))) Q
def spCheck (C : Addr) : Sp := fun vs H Q _ => ∃ (G : Hp) (p : Addr) (n : Int) (b : Int), Ex G H ∧ vs = [.ref p, .int b] ∧ SizeAt C G p n ∧ 0 ≤ b ∧ b < n ∧ Ret G H (XV .non) Q
theorem sa_check {G : Hp} {p : Addr} {n b : Int} (h : SizeAt C G p n) (h0 : 0 ≤ b) (h1 : b < n) : SA (spCheck C) [.ref p, .int b] G (XV .non) := fun H e Q _ q => ⟨G, p, n, b, e, rfl, h, h0, h1, q⟩
def spChecks (K : PySem.W.Frag) (C : Addr) : Sp := fun vs H Q _ => ∃ (G : Hp) (p : Addr) (n : Int) (a : Addr) (bs : List Int), Ex G H ∧ vs = [.ref p, .ref a] ∧ SizeAt C G p n ∧ SqL K G a (bs.map V.int) ∧ (∀ b ∈ bs, 0 ≤ b ∧ b < n) ∧ Ret G H (XV .non) Q
theorem sa_checks {G : Hp} {p a : Addr} {n : Int} {bs : List Int} (h : SizeAt C G p n) (ha : SqL K G a (bs.map V.int)) (hb : ∀ b ∈ bs, 0 ≤ b ∧ b < n) : SA (spChecks K C) [.ref p, .ref a] G (XV .non) := fun H e Q _ q => ⟨G, p, n, a, bs, e, rfl, h, ha, hb, q⟩
/-- what the questions of a whole layout give -/
def spAsk (K : PySem.W.Frag) (C : Addr) (P : Nat → List Int → List (Int × Int) → Int → VP) : Sp := fun vs H Q _ => ∃ (G : Hp) (p : Addr) (n : Nat) (parks : List Int) (js : List (Int × Int)) (b : Int), Ex G H ∧ vs = [.ref p, .int b] ∧ LayAt K C G p n parks js ∧ 0 ≤ b ∧ b < (n : Int) ∧ Ret G H (P n parks js b) Q
theorem sa_ask {P : Nat → List Int → List (Int × Int) → Int → VP} {G : Hp} {p : Addr} {n : Nat} {parks : List Int} {js : List (Int × Int)} {b : Int} (h : LayAt K C G p n parks js) (h0 : 0 ≤ b) (h1 : b < (n : Int)) : SA (spAsk K C P) [.ref p, .int b] G (P n parks js b) :=
  fun H e Q _ q => ⟨G, p, n, parks, js, b, e, rfl, h, h0, h1, q⟩
def pYard : Nat → List Int → List (Int × Int) → Int → VP := fun _ parks _ b => XV (.bl (decide (b ∈ parks)))
/-- a new list of so many ints as the end has joints -/
def NL (K : PySem.W.Frag) (k : Nat) : VP := fun v G => ∃ l : List Int, l.length = k ∧ Dp K G v (dI l)
def pEast (K : PySem.W.Frag) : Nat → List Int → List (Int × Int) → Int → VP := fun _ _ js b => NL K (eo js b).length
def pWest (K : PySem.W.Frag) : Nat → List Int → List (Int × Int) → Int → VP := fun _ _ js b => NL K (wo js b).length
def spAskS (K : PySem.W.Frag) (C : Addr) (P : List Int → List (Int × Int) → Int → Bool → VP) : Sp := fun vs H Q _ => ∃ (G : Hp) (p : Addr) (n : Nat) (parks : List Int) (js : List (Int × Int)) (b : Int) (c : Bool), Ex G H ∧ vs = [.ref p, .int b, .str (if c = true then eastS else westS)] ∧ LayAt K C G p n parks js ∧ 0 ≤ b ∧ b < (n : Int) ∧ Ret G H (P parks js b c) Q
theorem sa_askS {P : List Int → List (Int × Int) → Int → Bool → VP} {G : Hp} {p : Addr} {n : Nat} {parks : List Int} {js : List (Int × Int)} {b : Int} (c : Bool) (h : LayAt K C G p n parks js) (h0 : 0 ≤ b) (h1 : b < (n : Int)) : SA (spAskS K C P) [.ref p, .int b, .str (if c = true then eastS else westS)] G (P parks js b c) :=
  fun H e Q _ q => ⟨G, p, n, parks, js, b, c, e, rfl, h, h0, h1, q⟩
def endN (js : List (Int × Int)) (b : Int) (c : Bool) : Nat := if c = true then (eo js b).length else (wo js b).length
def pBranch (K : PySem.W.Frag) : List Int → List (Int × Int) → Int → Bool → VP := fun _ js b c => NL K (endN js b c)
def isPt (parks : List Int) (js : List (Int × Int)) (b : Int) (c : Bool) : Bool := !decide (b ∈ parks) && decide (endN js b c = 2)
def pPoint : List Int → List (Int × Int) → Int → Bool → VP := fun parks js b c => XV (.bl (isPt parks js b c))
def spOpp : Sp := fun vs H Q _ => ∃ (G : Hp) (c : Bool), Ex G H ∧ vs = [.str (if c = true then eastS else westS)] ∧ Ret G H (XV (.str (if c = true then westS else eastS))) Q
theorem sa_opp {G : Hp} (c : Bool) : SA spOpp [.str (if c = true then eastS else westS)] G (XV (.str (if c = true then westS else eastS))) := fun H e Q _ q => ⟨G, c, e, rfl, q⟩
/-- a new list of data -/
def FL (K : PySem.W.Frag) (H0 : Hp) (ds : List PyData) : VP := fun v G => ∃ q xs, v = .ref q ∧ H0 q = none ∧ G q = some (.lst xs) ∧ DpAll K G xs ds
def spJd (K : PySem.W.Frag) (C : Addr) : Sp := fun vs H Q _ => ∃ (G : Hp) (p : Addr) (n : Nat) (parks : List Int) (js : List (Int × Int)) (w : Int) (e : Int) (f : Bool), Ex G H ∧ vs = [.ref p, .int (if f = true then w else e), .int (if f = true then e else w)] ∧ LayAt K C G p n parks js ∧ 0 ≤ w ∧ w < e ∧ e < (n : Int) ∧ Ret G H (FL K H (wantD parks js w e)) Q
theorem sa_jd {G : Hp} {p : Addr} {n : Nat} {parks : List Int} {js : List (Int × Int)} {w e : Int} (f : Bool) (h : LayAt K C G p n parks js) (h0 : 0 ≤ w) (h1 : w < e) (h2 : e < (n : Int)) (H : Hp) (ex : Ex G H) (Q : VK) (E : XK) (q : Ret G H (FL K H (wantD parks js w e)) Q) :
    spJd K C [.ref p, .int (if f = true then w else e), .int (if f = true then e else w)] H Q E := ⟨G, p, n, parks, js, w, e, f, ex, rfl, h, h0, h1, h2, q⟩
def spJoints (K : PySem.W.Frag) (C : Addr) : Sp := fun vs H Q _ => ∃ (G : Hp) (p : Addr) (n : Nat) (parks : List Int) (js : List (Int × Int)), Ex G H ∧ vs = [.ref p] ∧ LayAt K C G p n parks js ∧ JOk (n : Int) parks js ∧ n ≤ 200 ∧ js.length ≤ 900 ∧ Ret G H (fun v G' => ∃ l, l.Perm js ∧ l.Pairwise lexLe ∧ Dp K G' v (dPs l)) Q
def spMeet (K : PySem.W.Frag) (C : Addr) : Sp := fun vs H Q _ => ∃ (G : Hp) (p : Addr) (n : Nat) (parks : List Int) (js : List (Int × Int)) (w : Int) (e : Int) (f : Bool) (x : V), Ex G H ∧ vs = [.ref p, x, .int (if f = true then w else e), .int (if f = true then e else w)] ∧ LayAt K C G p n parks js ∧ 0 ≤ w ∧ w < e ∧ e < (n : Int) ∧ Dp K G x (.list (wantD parks js w e)) ∧ Ret G H (XV (.bl true)) Q
end
/-! ### names of the top -/
section
variable (P : Program) (w : World) (K : PySem.W.Frag) (mg : Str → Option Value) (base : Heap)
def Cal (x : Str) (k : Nat) (ps : List Str) (sp : Sp) : Prop := ∃ f fd, FnOk P w K mg base CX0 k f fd ps sp ∧ mg x = some (.ref f) ∧ PySem.W.keepIn K (.ref f) = true ∧ Binds K fd ps []
def CalM (C : Addr) (m : Str) (k : Nat) (ps : List Str) (sp : Sp) : Prop := ∃ f fd, FnOk P w K mg base CX0 k f fd ps sp ∧ Meth K C m f ∧ Binds K fd ps []
structure Blt : Prop where
  len : mg "len" = none
  abs : mg "abs" = none
  min : mg "min" = none
  range : mg "range" = none
  int : mg "int" = none
  str : mg "str" = none
  bool : mg "bool" = none
  list : mg "list" = none
  tuple : mg "tuple" = none
  sorted : mg "sorted" = none
  isinstance : mg "isinstance" = none
structure Cl (C : Addr) : Prop where
  cl : Cls K C
  size : NoAttr K C "size"
  lens : NoAttr K C "_lengths"
  marks : NoAttr K C "_yard_marks"
  east : NoAttr K C "_east"
  west : NoAttr K C "_west"
end
theorem hu65 {k : Nat} {A : Around} (r : Room k A) : A.units + 65 < cLine := by have := r.un; omega
theorem hu64 {k : Nat} {A : Around} (r : Room k A) : A.units + 64 < cLine := by have := r.un; omega
/-! a call by keywords alone -/
section
variable {X : Cx} {CX : CXT} {k : Nat} {f : Addr} {fd : FuncData} {ps ks : List Str} {sp : Sp} {E : XK} {x : Str} {p pos : Pos} {kws : List Keyword} {tk : TA} {g : List Value → List Value → List Value} {gV : List V → List V → List V}
theorem pe_callK0 (F : FnOk X.prog X.w X.K X.mg X.base CX k f fd ps sp) (hr : Room k X.A) (hg : Gl X x) (hm : X.mg x = some (.ref f)) (hk : PySem.W.keepIn X.K (.ref f) = true) (hb : KBinds X.K fd ps ks g gV) (hx : Passes CX X E) (hkw : PK X kws tk)
    (hall : (backToKw pos (keywordEach kws X.env)).all (·.1.isSome) = true := by rfl) (hks : (backToKw pos (keywordEach kws X.env)).filterMap (·.1) = ks := by rfl) (hdb : (x == ("__debug__" : Str)) = false := by decide)
    (hpl : ((backTo pos (starEach [] X.env)).any (·.1) || (backToKw pos (keywordEach kws X.env)).any (·.1.isNone)) = false := by rfl) :
    PE X (.Call (.Name x p) [] kws pos) (tCallK sp gV E tNil tk) := by
  refine ⟨fun pins s σ H Q I h => wpAny_Call_Name_kw (ld_glob I hg hm ?_ hdb)⟩
  refine PySem.W.callWith_KW0 (h₀ := X.base) I.ok.mod.kin hk hall (thn (hkw.run pos pins s σ H _ I h) fun ws s2 ⟨zs, H2, I2, rz, q2⟩ => ⟨I2.kIn, ?_⟩) hpl
  rw [hks]
  exact run_fnk (us := []) (vs := []) F hr hb hx I2 .nil rz q2
end
end Lw
namespace Lw
open PySem L2
open Evl (Ex)
section
variable {K : PySem.W.Frag} {σ : L2.St} {G G' H H' : Hp} {ta tb te tc : TE} {P : VP} {D : Ends} {u : TT}
theorem ex_eq {x y : V} {p : Bool → Prop} (ha : EF ta σ G (XV x)) (hb : EF tb σ G (XV y)) (hs : scal x y = true) (h : p (decide (x = y))) : EF (tOp rEq ta tb) σ G (BV p) :=
  ef_op mo_XV mo_XV ha hb fun a b G' _ pa pb => by
    cases (show a = x from pa)
    cases (show b = y from pb)
    exact fun H e Q k => ⟨hs, k _ G' H (.refl e) ⟨_, rfl, h⟩⟩
theorem ex_var {i : Nat} {v : V} (h : σ[i]? = some (some v)) : EF (tVar i) σ G (XV v) := ef_var h rfl
theorem ex_c {v : V} : EF (tC v) σ G (XV v) := ef_c rfl
theorem EF.iv {z : Int} (h : EF te σ G (XV (.int z))) : EF te σ G (IV (· = z)) := h.imp fun v _ _ p => ⟨z, p, rfl⟩
theorem EF.dv {v : V} {d : PyData} (h : EF te σ G (XV v)) (hd : Dp K G v d) : EF te σ G (DV K d) := h.imp fun x G' e p => by
  cases (show x = v from p)
  exact dpx hd e
theorem EF.bl {b : Bool} {p : Bool → Prop} (h : EF te σ G (XV (.bl b))) (hp : p b) : EF te σ G (BV p) := h.imp fun v _ _ q => ⟨b, q, hp⟩
/-- c <= x < y -/
theorem ef_chain {r r' : R2} {Pa Pb Pc : VP} {p q s : Bool → Prop} (mA : Mo Pa) (mB : Mo Pb) (mC : Mo Pc) (ha : EF ta σ G Pa) (hb : EF tb σ G Pb) (hc : EF tc σ G Pc)
    (h1 : ∀ x y G', Pa x G' → Pb y G' → RO r x y G' (BV p)) (h2 : p true → ∀ x y G', Pb x G' → Pc y G' → RO r' x y G' (BV q)) (ht : p true → ∀ b, q b → s b) (hf : p false → s false) : EF (tChain r r' ta tb tc) σ G (BV s) := fun H e Q k =>
  ha H e _ fun x G1 H1 g1 p1 => hb H1 (g1.up.trans g1.ok) _ fun y G2 H2 g2 p2 => by
    obtain ⟨G3, e1, e2, g3⟩ := g1.join g2
    refine h1 x y G3 (mA x _ _ e1 p1) (mB y _ _ e2 p2) H2 g3.ok _ fun v G4 H4 g4 p4 => ?_
    obtain ⟨b, rfl, pb⟩ := p4
    refine ⟨b, rfl, ?_⟩
    have g5 := g3.trans g4
    cases b with
    | true =>
      rw [if_pos rfl]
      refine hc H4 (g5.up.trans g5.ok) _ fun z G6 H6 g6 p6 => ?_
      obtain ⟨G7, f1, f2, g7⟩ := g5.join g6
      refine h2 pb y z G7 (mB y _ _ (e2.trans (g4.up.trans f1)) p2) (mC z _ _ f2 p6) H6 g7.ok _ fun v G8 H8 g8 p8 => ?_
      obtain ⟨c, rfl, pc⟩ := p8
      exact k _ G8 H8 (g7.trans g8) ⟨c, rfl, ht pb c pc⟩
    | false =>
      rw [if_neg Bool.false_ne_true]
      exact k _ G4 H4 g5 ⟨false, rfl, hf pb⟩
theorem east_ne : ¬ westS = eastS := by unfold westS eastS; decide +kernel
theorem side_dec (c : Bool) : decide (V.str (if c = true then eastS else westS) = V.str eastS) = c := by
  cases c with
  | true => simp
  | false =>
    rw [if_neg Bool.false_ne_true]
    exact decide_eq_false fun z => east_ne (V.str.inj z)
/-- x not in o, o of an own class -/
theorem eb_notIn {C : Addr} {sp : Sp} {E : XK} {a : Addr} {x : V} {b : Bool} {s : Bool → Prop} (ha : EF ta σ G (XV x)) (hb : EF tb σ G (XV (.ref a))) (hI : ∃ dx fs, G a = some (.ins C dx fs)) (hsp : ∀ G', Ex G G' → SA sp [.ref a, x] G' (XV (.bl b))) (hs : s (!b)) :
    EF (tOp (rInOwn true C sp E) ta tb) σ G (BV s) := ef_op mo_XV mo_XV ha hb fun v u G' e1 pa pb => by
  cases (show v = x from pa)
  cases (show u = .ref a from pb)
  obtain ⟨dx, fs, h⟩ := hI
  refine fun H e Q k => ⟨a, dx, fs, rfl, e _ _ (e1 _ _ h), hsp G' e1 H e _ E fun v2 G2 H2 g2 p2 => ?_⟩
  exact ⟨b, p2, k _ G2 H2 g2 ⟨!b, rfl, hs⟩⟩
/-- over a list that is known -/
theorem st_forK {xs : List V} {tl : TE} {a : Addr} {g : TG} {tu : TS} (hG : Ex G H) (h : EF tl σ G (XV (.ref a))) (hx : SqL K G a xs) (W : Nat → L2.St → Hp → Prop) (h0 : ∀ H', Ex H H' → W 0 σ H') (hl : ∀ i σ' H', W i σ' H' → Ex G H')
    (hs : ∀ i x σ' H', xs[i]? = some x → W i σ' H' → g x σ' H' fun σ2 H2 => tu { D with nx := W (i + 1), ct := W (i + 1), bk := D.nx } σ2 H2) (hd : ∀ σ' H', W xs.length σ' H' → D.nx σ' H') : tFor (iList K tl) g tu D σ H :=
  h H hG _ fun v G1 H1 g1 e => ⟨a, e, ⟨xs, Evl.ex_l (hG.trans g1.hp) hx⟩, for_list W (h0 H1 g1.hp) (fun i σ' H' _ w => Evl.ex_l (hl i σ' H' w) hx) hs hd⟩
theorem ex_ixT {a : Addr} {xs : List V} {i : Nat} {v : V} (ha : EF ta σ G (XV (.ref a))) (hb : EF tb σ G (XV (.int (i : Int)))) (hs : SqT K G a xs) (hv : xs[i]? = some v) : EF (tOp (rIxT K) ta tb) σ G (XV v) :=
  ef_op mo_XV mo_XV ha hb fun x y G' e1 pa pb => by
    cases (show x = .ref a from pa)
    cases (show y = .int (i : Int) from pb)
    exact fun H e Q k => ⟨a, xs, (i : Int), v, rfl, rfl, Evl.ex_t (e1.trans e) hs, atI_of rfl hv, k v G' H (.refl e) rfl⟩
theorem ex_ixL {a : Addr} {xs : List V} {i : Nat} {z : Int} {v : V} (ha : EF ta σ G (XV (.ref a))) (hb : EF tb σ G (XV (.int z))) (ez : z = (i : Int)) (hs : SqL K G a xs) (hv : xs[i]? = some v) : EF (tOp (rIxL K) ta tb) σ G (XV v) :=
  ef_op mo_XV mo_XV ha hb fun x y G' e1 pa pb => by
    cases (show x = .ref a from pa)
    cases (show y = .int z from pb)
    exact fun H e Q k => ⟨a, xs, z, v, rfl, rfl, Evl.ex_l (e1.trans e) hs, atI_of ez hv, k v G' H (.refl e) rfl⟩
/-- calls whose arguments are known values -/
theorem ex_call1 {sp : Sp} {E : XK} {x : V} {P : VP} (ha : EF ta σ G (XV x)) (h : ∀ G', Ex G G' → SA sp [x] G' P) : EF (tCall sp [] E (tCons ta tNil)) σ G P := ef_call (ea_one ha) fun vs G' e hv => by
  obtain ⟨a, rfl, pa⟩ := hv
  cases (show a = x from pa)
  exact h G' e
theorem ex_call2 {sp : Sp} {E : XK} {x y : V} {P : VP} (ha : EF ta σ G (XV x)) (hb : EF tb σ G (XV y)) (h : ∀ G', Ex G G' → SA sp [x, y] G' P) : EF (tCall sp [] E (tCons ta (tCons tb tNil))) σ G P := ef_call (ea_two mo_XV mo_XV ha hb) fun vs G' e hv => by
  obtain ⟨a, b, rfl, pa, pb⟩ := hv
  cases (show a = x from pa)
  cases (show b = y from pb)
  exact h G' e
theorem ex_call3 {sp : Sp} {E : XK} {x y z : V} {P : VP} (ha : EF ta σ G (XV x)) (hb : EF tb σ G (XV y)) (hc : EF tc σ G (XV z)) (h : ∀ G', Ex G G' → SA sp [x, y, z] G' P) : EF (tCall sp [] E (tCons ta (tCons tb (tCons tc tNil)))) σ G P := ef_call (ea_three mo_XV mo_XV mo_XV ha hb hc) fun vs G' e hv => by
  obtain ⟨a, b, c, rfl, pa, pb, pc⟩ := hv
  cases (show a = x from pa)
  cases (show b = y from pb)
  cases (show c = z from pc)
  exact h G' e
theorem ex_meth1 {C a : Addr} {m : Str} {sp : Sp} {E : XK} {to : TE} {y : V} {P : VP} (ho : EF to σ G (XV (.ref a))) (hI : ∃ dx fs, G a = some (.ins C dx fs) ∧ fs.lookup m = none) (hb : EF tb σ G (XV y)) (h : ∀ G', Ex G G' → SA sp [.ref a, y] G' P) :
    EF (tMeth C m sp [] E to (tCons tb tNil)) σ G P := ef_meth ho hI (ea_one hb) fun vs G' e hv => by
  obtain ⟨b, rfl, pb⟩ := hv
  cases (show b = y from pb)
  exact h G' e
theorem ex_meth2 {C a : Addr} {m : Str} {sp : Sp} {E : XK} {to : TE} {y z : V} {P : VP} (ho : EF to σ G (XV (.ref a))) (hI : ∃ dx fs, G a = some (.ins C dx fs) ∧ fs.lookup m = none) (hb : EF tb σ G (XV y)) (hc : EF tc σ G (XV z)) (h : ∀ G', Ex G G' → SA sp [.ref a, y, z] G' P) :
    EF (tMeth C m sp [] E to (tCons tb (tCons tc tNil))) σ G P := ef_meth ho hI (ea_two mo_XV mo_XV hb hc) fun vs G' e hv => by
  obtain ⟨b, c, rfl, pb, pc⟩ := hv
  cases (show b = y from pb)
  cases (show c = z from pc)
  exact h G' e
theorem ex_meth0 {C a : Addr} {m : Str} {sp : Sp} {E : XK} {to : TE} {P : VP} (ho : EF to σ G (XV (.ref a))) (hI : ∃ dx fs, G a = some (.ins C dx fs) ∧ fs.lookup m = none) (h : ∀ G', Ex G G' → SA sp [.ref a] G' P) :
    EF (tMeth C m sp [] E to tNil) σ G P := ef_meth ho hI ea_nil fun vs G' e hv => by
  cases (show vs = [] from hv)
  exact h G' e
theorem en_len {k : Nat} (ha : EF ta σ G (NL K k)) : EF (tCB (Evl.rLenS K) (tCons ta tNil)) σ G (XV (.int (k : Int))) := fun H e Q q => ha H e _ fun x G1 H1 g1 ⟨l, hl, hx⟩ => by
  obtain ⟨a, xs, rfl, hs, hall⟩ := dp_lst hx
  refine ⟨a, xs, rfl, .inl (Evl.ex_l g1.ok hs), q _ G1 H1 g1 ?_⟩
  show V.int _ = V.int _
  rw [dpa_len hall, List.length_map, hl]
end
end Lw
namespace Lw
open PySem L2
open Evl (Ex)
theorem Gr.fresh {G G' H H' : Hp} {q : Addr} {o : HO} (g : Gr G G' H H') (h : G q = none) (h' : G' q = some o) : H q = none := by
  cases e : H q with
  | none => rfl
  | some u =>
    have z := g.2.2.2 q (ne_none_of e) h
    rw [h'] at z
    cases z
theorem perm2 {α : Type} {x y : α} : ∀ {l : List α}, l.Perm [x, y] → l = [x, y] ∨ l = [y, x]
  | [], h => absurd h.length_eq (by simp)
  | [a], h => absurd h.length_eq (by simp)
  | a :: b :: c :: l, h => absurd h.length_eq (by simp)
  | [a, b], h => by
    have m := h.mem_iff.mp (List.mem_cons_self (a := a) (l := [b]))
    have one : ∀ {u v : α}, [u].Perm [v] → u = v := fun p => by
      have := p.mem_iff.mp (List.mem_cons_self ..)
      simpa using this
    rcases List.mem_cons.mp m with e | m
    · subst e
      have e2 := one h.cons_inv
      rw [e2]
      exact .inl rfl
    · have e : a = y := by simpa using m
      subst e
      have h2 : [a, b].Perm [a, x] := h.trans (List.Perm.swap a x [])
      have e2 := one h2.cons_inv
      rw [e2]
      exact .inr rfl
/-- the first int of a tuple -/
def keyOf (G : Hp) (v : V) : Int := match v with
  | .ref t => (match G t with | some (.tup (.int i :: _)) => i | _ => 0)
  | _ => 0
def TrAt (G : Hp) (v : V) (a : Int) (s : Str) (b : Int) : Prop := ∃ t, v = .ref t ∧ G t = some (.tup [.int a, .str s, .int b])
theorem TrAt.ex {G G' : Hp} {v : V} {a b : Int} {s : Str} (h : TrAt G v a s b) (e : Ex G G') : TrAt G' v a s b := by
  obtain ⟨t, h1, h2⟩ := h
  exact ⟨t, h1, e _ _ h2⟩
theorem TrAt.key {G : Hp} {v : V} {a b : Int} {s : Str} (h : TrAt G v a s b) : keyOf G v = a := by
  obtain ⟨t, rfl, h⟩ := h
  unfold keyOf
  show (match G t with | some (.tup (.int i :: _)) => i | _ => 0) = a
  rw [h]
theorem TrAt.dp {K : PySem.W.Frag} {G : Hp} {v : V} {a b : Int} {s : Str} (h : TrAt G v a s b) : Dp K G v (dTr a s b) := by
  obtain ⟨t, rfl, h⟩ := h
  exact dp_mkT h (.cons (.int a) (.cons (.str s) (.cons (.int b) .nil)))
def mm (c : Bool) (v : V) : List V := if c = true then [v] else []
def sd (f : Bool) : Str := if f = true then eastS else westS
/-- sorted of the two demands -/
theorem two_sorted {K : PySem.W.Frag} {G : Hp} {parks : List Int} {js : List (Int × Int)} {w e : Int} {f : Bool} {v1 v2 : V} (hwe : w < e) (h1 : isPt parks js (if f = true then w else e) f = true → TrAt G v1 (if f = true then w else e) (sd f) (if f = true then e else w))
    (h2 : isPt parks js (if f = true then e else w) (!f) = true → TrAt G v2 (if f = true then e else w) (sd (!f)) (if f = true then w else e)) {ys : List V} (hp : ys.Perm (mm (isPt parks js (if f = true then w else e) f) v1 ++ mm (isPt parks js (if f = true then e else w) (!f)) v2))
    (hs : ys.Pairwise fun x y => ¬ keyOf G y < keyOf G x) : DpAll K G ys (wantD parks js w e) := by
  have key : wantD parks js w e = (if isPt parks js w true = true then [dTr w eastS e] else []) ++ (if isPt parks js e false = true then [dTr e westS w] else []) := by
    unfold wantD isPt endN
    congr 1 <;> (congr 1; simp)
  have one : ∀ {u v : V}, u ∈ ([v] : List V) → u = v := fun m => by simpa using m
  have perm1 : ∀ {v : V}, ys.Perm [v] → ys = [v] := fun {v} p => by
    have hl := p.length_eq
    match ys, hl with
    | [u], _ =>
      have := p.mem_iff.mp (List.mem_cons_self ..)
      rw [one this]
  rw [key]
  cases f with
  | true =>
    simp only [if_true, Bool.not_true] at h1 h2 hp
    unfold mm at hp
    by_cases c1 : isPt parks js w true = true
    · have t1 := h1 c1
      rw [if_pos c1] at hp ⊢
      by_cases c2 : isPt parks js e false = true
      · have t2 := h2 c2
        rw [if_pos c2] at hp ⊢
        rcases perm2 hp with e1 | e1
        · rw [e1]
          exact .cons t1.dp (.cons t2.dp .nil)
        · rw [e1] at hs
          have q := (List.pairwise_cons.mp hs).1 v1 (List.mem_cons_self ..)
          rw [t1.key, t2.key] at q
          exact absurd hwe q
      · rw [if_neg c2] at hp ⊢
        rw [perm1 hp]
        exact .cons t1.dp .nil
    · rw [if_neg c1] at hp ⊢
      by_cases c2 : isPt parks js e false = true
      · have t2 := h2 c2
        rw [if_pos c2] at hp ⊢
        rw [perm1 hp]
        exact .cons t2.dp .nil
      · rw [if_neg c2] at hp ⊢
        rw [List.Perm.eq_nil hp]
        exact .nil
  | false =>
    simp only [Bool.false_eq_true, if_false, Bool.not_false] at h1 h2 hp
    unfold mm at hp
    by_cases c1 : isPt parks js w true = true
    · have t1 := h2 c1
      rw [if_pos c1] at hp ⊢
      by_cases c2 : isPt parks js e false = true
      · have t2 := h1 c2
        rw [if_pos c2] at hp ⊢
        rcases perm2 hp with e1 | e1
        · rw [e1] at hs
          have q := (List.pairwise_cons.mp hs).1 v2 (List.mem_cons_self ..)
          rw [t1.key, t2.key] at q
          exact absurd hwe q
        · rw [e1]
          exact .cons t1.dp (.cons t2.dp .nil)
      · rw [if_neg c2] at hp ⊢
        rw [perm1 hp]
        exact .cons t1.dp .nil
    · rw [if_neg c1] at hp ⊢
      by_cases c2 : isPt parks js e false = true
      · have t2 := h1 c2
        rw [if_pos c2] at hp ⊢
        rw [perm1 hp]
        exact .cons t2.dp .nil
      · rw [if_neg c2] at hp ⊢
        rw [List.Perm.eq_nil hp]
        exact .nil
theorem Gr.app {G G' H H3 H4 : Hp} {q : Addr} {o : HO} (g : Gr G G' H3 H4) (eH : Ex H H3) (hq : H q = none) (g' : G' q = none) : Gr G G' H (upd H4 q o) :=
  ⟨g.up, ex_off g.ok g', ex_off (eH.trans g.hp) hq, fun a h ga => g.2.2.2 a (exNe eH h) ga⟩
theorem Gr.wide {G G' H H3 H4 : Hp} (g : Gr G G' H3 H4) (eH : Ex H H3) : Gr G G' H H4 := ⟨g.up, g.ok, eH.trans g.hp, fun a h ga => g.2.2.2 a (exNe eH h) ga⟩
theorem sa_opp' {G : Hp} (f : Bool) : SA spOpp [.str (sd f)] G (XV (.str (sd (!f)))) := by
  have h := sa_opp (G := G) f
  cases f <;> exact h
theorem mm_yes {c : Bool} {v : V} (h : true = c) : mm c v = [v] := by
  unfold mm
  rw [if_pos h.symm]
theorem mm_no {c : Bool} {v : V} (h : false = c) : mm c v = [] := by
  unfold mm
  rw [if_neg (by rw [← h]; exact Bool.false_ne_true)]
theorem EA.imp {ta : TA} {σ : L2.St} {G : Hp} {R S : List V → Hp → Prop} (h : EA ta σ G R) (k : ∀ vs G', Ex G G' → R vs G' → S vs G') : EA ta σ G S := fun H e Q q => h H e Q fun vs G' H' g p => q vs G' H' g (k vs G' g.up p)
theorem take_next {α : Type} : ∀ {l : List α} {k : Nat} {x : α}, l[k]? = some x → l.take (k + 1) = l.take k ++ [x]
  | [], k, x, h => by simp at h
  | a :: l, 0, x, h => by
    have e : a = x := Option.some.inj h
    subst e
    rfl
  | a :: l, k + 1, x, h => by
    show a :: l.take (k + 1) = a :: (l.take k ++ [x])
    rw [take_next (l := l) (k := k) (x := x) h]
theorem Srt.len_at {js : List (Int × Int)} {n : Nat} {ess : List (List Int)} (h : Srt (eo js) n ess) (i : Nat) : (ess.getD i []).length ≤ js.length := by
  by_cases hi : i < n
  · obtain ⟨x, _, e, hp, _⟩ := h.get hi
    rw [e, hp.length_eq]
    exact eo_len_le js _
  · rw [List.getD_eq_getElem?_getD, List.getElem?_eq_none (by rw [h.len]; omega)]
    exact Nat.zero_le _
theorem fan_len {js : List (Int × Int)} {n : Nat} {ess : List (List Int)} (h : Srt (eo js) n ess) {i : Nat} (hi : i ≤ n) : (fan ess i).length ≤ js.length := by
  rw [(fan_perm h i hi).length_eq]
  exact List.length_filter_le _ _
end Lw

set_option Elab.async false
set_option linter.all false
set_option maxRecDepth 100000
set_option maxHeartbeats 4000000
/-! a layout that is being made -/
namespace Lw
open PySem L2
open Evl (Ex)
def outH (H : Hp) (x : Addr) : Hp := fun a => if a = x then none else H a
theorem out_self {H : Hp} {x : Addr} : outH H x x = none := if_pos rfl
theorem out_ne {H : Hp} {x a : Addr} (h : a ≠ x) : outH H x a = H a := if_neg h
theorem out_ex {H : Hp} {x : Addr} : Ex (outH H x) H := fun a o h => by
  by_cases e : a = x
  · rw [e, out_self] at h
    cases h
  · rw [out_ne e] at h
    exact h
theorem ex_out {G H : Hp} {x : Addr} (e : Ex G H) (h : G x = none) : Ex G (outH H x) := fun a o q => by
  rw [out_ne (ne_of_none q h)]
  exact e a o q
open Classical in
/-- what is known of the objects in S, and G -/
noncomputable def pick (S : List Addr) (G H : Hp) : Hp := fun a => if a ∈ S then H a else G a
theorem pick_in {S : List Addr} {G H : Hp} {a : Addr} (h : a ∈ S) : pick S G H a = H a := if_pos h
theorem pick_gr {S : List Addr} {G Hs H : Hp} (hS : ∀ a ∈ S, Hs a = none) (e0 : Ex G Hs) (e : Ex Hs H) : Gr G (pick S G H) Hs H := by
  have no : ∀ a o, G a = some o → a ∉ S := fun a o q m => by
    have z := e0 a o q
    rw [hS a m] at z
    cases z
  refine ⟨fun a o q => ?_, fun a o q => ?_, e, fun a h g => ?_⟩
  · unfold pick
    rw [if_neg (no a o q)]
    exact q
  · unfold pick at q
    split at q
    · exact q
    · exact e a o (e0 a o q)
  · unfold pick
    rw [if_neg (fun m => h (hS a m))]
    exact g
structure AddSt (C : Addr) (H : Hp) (x : Addr) (n : Nat) (parks : List Int) (js : List (Int × Int)) (dx : Addr) (fs : List (Str × V)) (l ym e w : Addr) (ea wa : List Addr) : Prop where
  ins : H x = some (.ins C dx fs)
  fld : FLd fs (n : Int) l ym e w
  marks : H ym = some (.lst ((marksOf n parks).map V.bl))
  east : H e = some (.lst (ea.map V.ref))
  west : H w = some (.lst (wa.map V.ref))
  le : ea.length = n
  lw : wa.length = n
  ae : ∀ (b : Nat) a, ea[b]? = some a → H a = some (.lst ((eo js (b : Int)).map V.int))
  aw : ∀ (b : Nat) a, wa[b]? = some a → H a = some (.lst ((wo js (b : Int)).map V.int))
  nd : (ea ++ wa).Nodup
section
variable {K : PySem.W.Frag} {C : Addr} {H H' : Hp} {x : Addr} {n : Nat} {parks : List Int} {js : List (Int × Int)} {dx : Addr} {fs : List (Str × V)} {l ym e w : Addr} {ea wa : List Addr}
theorem AddSt.ex (s : AddSt C H x n parks js dx fs l ym e w ea wa) (h : Ex H H') : AddSt C H' x n parks js dx fs l ym e w ea wa :=
  ⟨h _ _ s.ins, s.fld, h _ _ s.marks, h _ _ s.east, h _ _ s.west, s.le, s.lw, fun b a q => h _ _ (s.ae b a q), fun b a q => h _ _ (s.aw b a q), s.nd⟩
theorem AddSt.size (s : AddSt C H x n parks js dx fs l ym e w ea wa) : SizeAt C H x (n : Int) := ⟨dx, fs, s.ins, s.fld.size⟩
theorem refs_ints {as : List Addr} {zs : List Int} (h : as.map V.ref = zs.map V.int) : as = [] := by
  cases as with
  | nil => rfl
  | cons a as =>
    cases zs with
    | nil => cases h
    | cons z zs => cases h
theorem bls_ints {bs : List Bool} {zs : List Int} (h : bs.map V.bl = zs.map V.int) : bs = [] := by
  cases bs with
  | nil => rfl
  | cons a as =>
    cases zs with
    | nil => cases h
    | cons z zs => cases h
theorem marks_len : (marksOf n parks).length = n := by
  unfold marksOf
  rw [List.length_map, List.length_range]
/-- an inner list is no other object of the layout -/
theorem AddSt.inner (s : AddSt C H x n parks js dx fs l ym e w ea wa) (h0 : 0 < n) {a : Addr} {zs : List Int} (ha : H a = some (.lst (zs.map V.int))) : x ≠ a ∧ ym ≠ a ∧ e ≠ a ∧ w ≠ a := by
  refine ⟨fun z => ?_, fun z => ?_, fun z => ?_, fun z => ?_⟩
  · have q := s.ins
    rw [z, ha] at q
    cases q
  · have q := s.marks
    rw [z, ha] at q
    have q2 := bls_ints (HO.lst.inj (Option.some.inj q)).symm
    have := marks_len (n := n) (parks := parks)
    rw [q2] at this
    simp at this
    omega
  · have q := s.east
    rw [z, ha] at q
    have q2 := refs_ints (HO.lst.inj (Option.some.inj q)).symm
    have := s.le
    rw [q2] at this
    simp at this
    omega
  · have q := s.west
    rw [z, ha] at q
    have q2 := refs_ints (HO.lst.inj (Option.some.inj q)).symm
    have := s.lw
    rw [q2] at this
    simp at this
    omega
theorem nd_ne {as bs : List Addr} (h : (as ++ bs).Nodup) {i j : Nat} {a b : Addr} (ha : as[i]? = some a) (hb : bs[j]? = some b) : a ≠ b := by
  have q := (List.nodup_append.mp h).2.2
  exact q a (List.mem_of_getElem? ha) b (List.mem_of_getElem? hb)
theorem AddSt.step (s : AddSt C H x n parks js dx fs l ym e w ea wa) {i j : Nat} {a a2 : Addr} (hi : ea[i]? = some a) (hj : wa[j]? = some a2) (h1 : H' a = some (.lst ((eo js (i : Int) ++ [(j : Int)]).map V.int))) (h2 : H' a2 = some (.lst ((wo js (j : Int) ++ [(i : Int)]).map V.int)))
    (hk : ∀ b o, b ≠ a → b ≠ a2 → H b = some o → H' b = some o) : AddSt C H' x n parks (js ++ [((i : Int), (j : Int))]) dx fs l ym e w ea wa := by
  have h0 : 0 < n := by
    have := (List.getElem?_eq_some_iff.mp hi).1
    have := s.le
    omega
  obtain ⟨n1, n2, n3, n4⟩ := s.inner h0 (s.ae i a hi)
  obtain ⟨m1, m2, m3, m4⟩ := s.inner h0 (s.aw j a2 hj)
  refine ⟨hk _ _ n1 m1 s.ins, s.fld, hk _ _ n2 m2 s.marks, hk _ _ n3 m3 s.east, hk _ _ n4 m4 s.west, s.le, s.lw, fun b c hc => ?_, fun b c hc => ?_, s.nd⟩
  · by_cases hb : i = b
    · subst hb
      rw [hi] at hc
      cases hc
      rw [eo_snoc_same]
      exact h1
    · rw [eo_snoc_ne js (by omega)]
      refine hk _ _ (fun z => hb ?_) (nd_ne s.nd hc hj) (s.ae b c hc)
      subst z
      exact nd_ix (List.nodup_append.mp s.nd).1 hi hc
  · by_cases hb : j = b
    · subst hb
      rw [hj] at hc
      cases hc
      rw [wo_snoc_same]
      exact h2
    · rw [wo_snoc_ne js (by omega)]
      refine hk _ _ (fun z => ?_) (fun z => hb ?_) (s.aw b c hc)
      · exact nd_ne s.nd hi hc z.symm
      · subst z
        exact nd_ix (List.nodup_append.mp s.nd).2.1 hj hc
end
def spAdd (C : Addr) : Sp := fun vs H Q _ => ∃ (x : Addr) (n : Nat) (parks : List Int) (js : List (Int × Int)) (dx : Addr) (fs : List (Str × V)) (l ym e w : Addr) (ea wa : List Addr) (u v : Int), vs = [.ref x, .int u, .int v] ∧ AddSt C H x n parks js dx fs l ym e w ea wa ∧ JNew (n : Int) parks js u v ∧ js.length ≤ 900 ∧
  ∀ H', AddSt C H' x n parks (js ++ [(u, v)]) dx fs l ym e w ea wa → (∀ a o, a ∉ ea → a ∉ wa → H a = some o → H' a = some o) → Q .non H'
def spInit (K : PySem.W.Frag) (C : Addr) : Sp := fun vs H Q _ => ∃ (G : Hp) (x dx : Addr) (lens : List Int) (js : List (Int × Int)) (parks : List Int) (a1 a2 a3 : Addr), vs = [.ref x, .ref a1, .ref a2, .ref a3] ∧ Ex G H ∧ G x = none ∧ H x = some (.ins C dx []) ∧
  Dp K G (.ref a1) (dI lens) ∧ Dp K G (.ref a2) (dPs js) ∧ Dp K G (.ref a3) (dI parks) ∧ 1 ≤ lens.length ∧ lens.length ≤ 200 ∧ (∀ z ∈ lens, 1 ≤ z) ∧ (∀ b ∈ parks, 0 ≤ b ∧ b < (lens.length : Int)) ∧ JOk (lens.length : Int) parks js ∧ js.length ≤ 900 ∧
  ∀ G' H', Gr G G' (outH H x) H' → LayAt K C G' x lens.length parks js → Q .non H'
section
variable {K : PySem.W.Frag} {σ : L2.St} {G H : Hp} {ta tb te : TE} {P : VP} {D : Ends}
theorem ex_fld {C dx a : Addr} {fs : List (Str × V)} {f : Str} {v : V} (ho : EF ta σ G (XV (.ref a))) (hI : G a = some (.ins C dx fs)) (hc : Cls K C) (hn : NoAttr K C f) (hl : fs.lookup f = some v) : EF (tFld K ta f) σ G (XV v) := ef_fld ho hI hc hn hl rfl
theorem ex_lenL {a : Addr} {xs : List V} (ha : EF ta σ G (XV (.ref a))) (hs : SqL K G a xs) : EF (tCB (Evl.rLenS K) (tCons ta tNil)) σ G (XV (.int (xs.length : Int))) := fun H e Q q => ha H e _ fun x G1 H1 g1 p => by
  cases (show x = .ref a from p)
  exact ⟨a, xs, rfl, .inl (Evl.ex_l (g1.up.trans g1.ok) hs), q _ G1 H1 g1 rfl⟩
theorem st_fld {C dx x : Addr} {fs : List (Str × V)} {f : Str} {tv : TE} (hi : H x = some (.ins C dx fs)) (hv : EF tv σ H P) (ho : EF ta σ H (XV (.ref x))) (hc : Cls K C) (hn : NoAttr K C f) (hl : fs.length < 1000)
    (k : ∀ y G' H', Ex H G' → Ex G' H' → P y G' → D.nx σ (upd H' x (.ins C dx (putF f y fs)))) : sFld K ta tv f D σ H := hv H (Ex.refl H) _ fun y G1 H1 g1 p1 => ho H1 g1.hp _ fun z G2 H2 g2 p2 => by
  refine ⟨x, C, dx, fs, p2, g2.hp _ _ (g1.hp _ _ hi), hc, hn, hl, ?_⟩
  exact k y G1 H2 g1.up (g1.ok.trans g2.hp) p1
theorem ef_sortI {a : Addr} {ns : List Int} (ha : EF ta σ G (XV (.ref a))) (hs : SqL K G a (ns.map V.int)) : EF (tCB (rSortedI K) (tCons ta tNil)) σ G fun v G' => ∃ (p : Addr) (ns' : List Int), v = .ref p ∧ G p = none ∧ G' p = some (.lst (ns'.map V.int)) ∧ ns'.Perm ns ∧ ns'.Pairwise (· ≤ ·) := fun H e Q q => ha H e _ fun x G1 H1 g1 p => by
  cases (show x = .ref a from p)
  refine ⟨a, ns, rfl, Evl.ex_l (g1.up.trans g1.ok) hs, fun ns' p2 h1 h2 h3 => ?_⟩
  exact q _ _ _ (g1.trans (.new g1.ok h3)) ⟨p2, ns', rfl, none_back (g1.up.trans g1.ok) h3, upd_same, h1, h2⟩
theorem putF_len (f : Str) (v : V) : ∀ fs : List (Str × V), (putF f v fs).length ≤ fs.length + 1
  | [] => Nat.le_refl _
  | (g, x) :: r => by
    unfold putF
    split
    · simp
    · have := putF_len f v r
      simp
      omega
theorem fld5 {n : Int} {l y e w : Addr} : FLd (putF "_west" (.ref w) (putF "_east" (.ref e) (putF "_yard_marks" (.ref y) (putF "_lengths" (.ref l) (putF "size" (.int n) []))))) n l y e w ∧ (putF "_west" (.ref w) (putF "_east" (.ref e) (putF "_yard_marks" (.ref y) (putF "_lengths" (.ref l) (putF "size" (.int n) []))))).length ≤ 5 := by
  refine ⟨⟨?_, ?_, ?_, ?_, ?_, fun m h1 h2 h3 h4 h5 => ?_, ?_⟩, ?_⟩
  · rw [lookup_putF, if_neg (by decide +kernel), lookup_putF, if_neg (by decide +kernel), lookup_putF, if_neg (by decide +kernel), lookup_putF, if_neg (by decide +kernel), lookup_putF, if_pos rfl]
  · rw [lookup_putF, if_neg (by decide +kernel), lookup_putF, if_neg (by decide +kernel), lookup_putF, if_neg (by decide +kernel), lookup_putF, if_pos rfl]
  · rw [lookup_putF, if_neg (by decide +kernel), lookup_putF, if_neg (by decide +kernel), lookup_putF, if_pos rfl]
  · rw [lookup_putF, if_neg (by decide +kernel), lookup_putF, if_pos rfl]
  · rw [lookup_putF, if_pos rfl]
  · rw [lookup_putF, if_neg h5, lookup_putF, if_neg h4, lookup_putF, if_neg h3, lookup_putF, if_neg h2, lookup_putF, if_neg h1]
    rfl
  all_goals
    have q1 := putF_len "size" (.int n) []
    have q2 := putF_len "_lengths" (.ref l) (putF "size" (.int n) [])
    have q3 := putF_len "_yard_marks" (.ref y) (putF "_lengths" (.ref l) (putF "size" (.int n) []))
    have q4 := putF_len "_east" (.ref e) (putF "_yard_marks" (.ref y) (putF "_lengths" (.ref l) (putF "size" (.int n) [])))
    have q5 := putF_len "_west" (.ref w) (putF "_east" (.ref e) (putF "_yard_marks" (.ref y) (putF "_lengths" (.ref l) (putF "size" (.int n) []))))
    rw [List.length_nil] at q1
    omega
theorem FLd.putE {fs : List (Str × V)} {n : Int} {l y e w e2 : Addr} (h : FLd fs n l y e w) (hl : fs.length ≤ 19) : FLd (putF "_east" (.ref e2) fs) n l y e2 w := by
  refine ⟨?_, ?_, ?_, ?_, ?_, fun m h1 h2 h3 h4 h5 => ?_, ?_⟩
  · rw [lookup_putF, if_neg (by decide +kernel)]; exact h.size
  · rw [lookup_putF, if_neg (by decide +kernel)]; exact h.lens
  · rw [lookup_putF, if_neg (by decide +kernel)]; exact h.marks
  · rw [lookup_putF, if_pos rfl]
  · rw [lookup_putF, if_neg (by decide +kernel)]; exact h.west
  · rw [lookup_putF, if_neg h4]; exact h.no m h1 h2 h3 h4 h5
  · have := putF_len "_east" (.ref e2) fs; omega
theorem FLd.putW {fs : List (Str × V)} {n : Int} {l y e w w2 : Addr} (h : FLd fs n l y e w) (hl : fs.length ≤ 19) : FLd (putF "_west" (.ref w2) fs) n l y e w2 := by
  refine ⟨?_, ?_, ?_, ?_, ?_, fun m h1 h2 h3 h4 h5 => ?_, ?_⟩
  · rw [lookup_putF, if_neg (by decide +kernel)]; exact h.size
  · rw [lookup_putF, if_neg (by decide +kernel)]; exact h.lens
  · rw [lookup_putF, if_neg (by decide +kernel)]; exact h.marks
  · rw [lookup_putF, if_neg (by decide +kernel)]; exact h.east
  · rw [lookup_putF, if_pos rfl]
  · rw [lookup_putF, if_neg h5]; exact h.no m h1 h2 h3 h4 h5
  · have := putF_len "_west" (.ref w2) fs; omega
/-- the addresses among values -/
def adrs (vs : List V) : List Addr := vs.filterMap fun v => match v with | .ref a => some a | _ => none
theorem mem_adrs {vs : List V} {a : Addr} : a ∈ adrs vs ↔ V.ref a ∈ vs := by
  unfold adrs
  rw [List.mem_filterMap]
  constructor
  · rintro ⟨v, hv, e⟩
    cases v with
    | ref b =>
      have e2 : b = a := Option.some.inj e
      subst e2
      exact hv
    | _ => cases e
  · intro h
    exact ⟨_, h, rfl⟩
theorem sq_pick {S : List Addr} {G H : Hp} {a : Addr} {xs : List V} (m : a ∈ S) (h : SqL K H a xs) : SqL K (pick S G H) a xs := by
  have e : pick S G H a = H a := pick_in m
  rcases h with (h | ⟨o, h⟩) | h
  · exact .inl (.inl (by rw [e]; exact h))
  · exact .inl (.inr ⟨o, by rw [e]; exact h⟩)
  · exact .inr h
theorem dpa_pick {S : List Addr} {G H : Hp} : ∀ {acc : List V} {ess : List (List Int)}, (∀ a, V.ref a ∈ acc → a ∈ S) → DpAll K H acc (ess.map dI) → DpAll K (pick S G H) acc (ess.map dI)
  | [], [], _, _ => .nil
  | v :: acc, z :: ess, hm, h => by
    cases h with
    | cons h1 h2 =>
      refine .cons ?_ (dpa_pick (fun a m => hm a (List.mem_cons_of_mem _ m)) h2)
      obtain ⟨a, xs, rfl, hs, hd⟩ := dp_lst h1
      rw [dpa_ints_eq hd] at hs
      exact .lst (sq_pick (hm a (List.mem_cons_self ..)) hs) (dpa_ints z)
  | [], _ :: _, _, h => nomatch h
  | _ :: _, [], _, h => nomatch h
theorem sq_upd {H : Hp} {a x : Addr} {o : HO} {xs : List V} (m : a ≠ x) (h : SqL K H a xs) : SqL K (upd H x o) a xs := by
  have e : upd H x o a = H a := upd_ne m
  rcases h with (h | ⟨o, h⟩) | h
  · exact .inl (.inl (by rw [e]; exact h))
  · exact .inl (.inr ⟨o, by rw [e]; exact h⟩)
  · exact .inr h
theorem dpa_upd {H : Hp} {x : Addr} {o : HO} : ∀ {acc : List V} {ess : List (List Int)}, (∀ a, V.ref a ∈ acc → a ≠ x) → DpAll K H acc (ess.map dI) → DpAll K (upd H x o) acc (ess.map dI)
  | [], [], _, _ => .nil
  | v :: acc, z :: ess, hm, h => by
    cases h with
    | cons h1 h2 =>
      refine .cons ?_ (dpa_upd (fun a m => hm a (List.mem_cons_of_mem _ m)) h2)
      obtain ⟨a, xs, rfl, hs, hd⟩ := dp_lst h1
      rw [dpa_ints_eq hd] at hs
      exact .lst (sq_upd (hm a (List.mem_cons_self ..)) hs) (dpa_ints z)
  | [], _ :: _, _, h => nomatch h
  | _ :: _, [], _, h => nomatch h
end
end Lw

set_option Elab.async false
set_option linter.all false
set_option maxRecDepth 100000
set_option maxHeartbeats 4000000
/-! ints of any size, types, sameness -/
namespace Lw
open PySem L2
open Evl (Ex)
def rAbsI : List V → Hp → VK → Prop := fun xs H Q => ∃ i, xs = [.int i] ∧ Q (.int (if i < 0 then -i else i)) H
def rIntI : List V → Hp → VK → Prop := fun xs H Q => (∃ i, xs = [.int i] ∧ Q (.int i) H) ∨ ∃ k, xs = [.bl k] ∧ Q (.int (if k then 1 else 0)) H
def rMinI : List V → Hp → VK → Prop := fun xs H Q => ∃ i j, xs = [.int i, .int j] ∧ Q (.int (if j < i then j else i)) H
def rIsNone : R2 := fun x y H Q => y = .non ∧ Q (.bl (decide (x = .non))) H
section
variable {K : PySem.W.Frag} {σ : L2.St} {G H : Hp} {ta tb te : TE} {P : VP} {D : Ends} {p q s : Int → Prop}
theorem ei_abs (ha : EF ta σ G (IV p)) : EF (tCB rAbsI (tCons ta tNil)) σ G (IV fun _ => True) := fun H e Q k => ha H e _ fun x G1 H1 g1 ⟨z, ez, _⟩ => ⟨z, by rw [ez], k _ G1 H1 g1 ⟨_, rfl, trivial⟩⟩
theorem ei_int (ha : EF ta σ G (IV p)) : EF (tCB rIntI (tCons ta tNil)) σ G (IV p) := fun H e Q k => ha H e _ fun x G1 H1 g1 ⟨z, ez, hz⟩ => .inl ⟨z, by rw [ez], k _ G1 H1 g1 ⟨_, rfl, hz⟩⟩
theorem ei_min (ha : EF ta σ G (IV p)) (hb : EF tb σ G (IV q)) (h : ∀ a b, p a → q b → s (if b < a then b else a)) : EF (tCB rMinI (tCons ta (tCons tb tNil))) σ G (IV s) := fun H e Q k => (ea_two mo_IV mo_IV ha hb) H e _ fun vs G1 H1 g1 ⟨x, y, ev, ⟨a, ea, pa⟩, ⟨b, eb, pb⟩⟩ =>
  ⟨a, b, by rw [ev, ea, eb], k _ G1 H1 g1 ⟨_, rfl, h a b pa pb⟩⟩
theorem ei_mod {n : Int} (ha : EF ta σ G (IV p)) (hb : EF tb σ G (IV (· = n))) (hn : 0 < n) (h : ∀ a, p a → s (a % n)) : EF (tOp (rI (fun _ j => 0 < j) fun i j => .int (i % j)) ta tb) σ G (IV s) :=
  ei_opC ha hb (fun a b _ hb => by rw [hb]; exact hn) fun a b G' pa pb => ⟨_, rfl, by rw [pb]; exact h a pa⟩
theorem ei_div {n : Int} (ha : EF ta σ G (IV p)) (hb : EF tb σ G (IV (· = n))) (hn : 0 < n) (hm : n < 1000000) (h : ∀ a, p a → s (a / n)) : EF (tOp (rI CDiv fun i j => .int (i / j)) ta tb) σ G (IV s) :=
  ei_opC ha hb (fun a b _ hb => by rw [hb]; exact ⟨hn, by omega⟩) fun a b G' pa pb => ⟨_, rfl, by rw [pb]; exact h a pa⟩
theorem ei_mul (ha : EF ta σ G (IV p)) (hb : EF tb σ G (IV q)) (hc : ∀ a, p a → -1000000000000 < a ∧ a < 1000000000000) (h : ∀ a b, p a → q b → s (a * b)) : EF (tOp (rI CMul fun i j => .int (i * j)) ta tb) σ G (IV s) :=
  ei_opC ha hb (fun a b pa _ => .inl (by have := hc a pa; omega)) fun a b G' pa pb => ⟨_, rfl, h a b pa pb⟩
/-- a comparison of ints -/
theorem ec_int {f : Int → Int → Bool} {s : Bool → Prop} (ha : EF ta σ G (IV p)) (hb : EF tb σ G (IV q)) (h : ∀ a b, p a → q b → s (f a b)) : EF (tOp (rI0 fun i j => .bl (f i j)) ta tb) σ G (BV s) := ei_op0 ha hb fun a b _ pa pb => ⟨_, rfl, h a b pa pb⟩
theorem iv_any (h : EF te σ G (IV p)) : EF te σ G (IV fun _ => True) := h.imp fun v _ _ ⟨z, e, _⟩ => ⟨z, e, trivial⟩
theorem EF.ivp {z : Int} (h : EF te σ G (XV (.int z))) (hz : p z) : EF te σ G (IV p) := h.imp fun v _ _ e => ⟨z, e, hz⟩
/-- a call whose arguments are ints -/
theorem ei_draw {E : XK} {tc tk tn : TE} {n : Int} (hc : EF tc σ G (IV fun _ => True)) (hk : EF tk σ G (IV fun z => 0 ≤ z ∧ z ≤ 2000)) (hn : EF tn σ G (IV (· = n))) (h1 : 1 ≤ n) (h2 : n ≤ 2000) : EF (tCall spDraw [] E (tCons tc (tCons tk (tCons tn tNil)))) σ G (IV fun z => 0 ≤ z ∧ z < n) :=
  ef_call (ea_three mo_IV mo_IV mo_IV hc hk hn) fun vs G' _ ⟨x, y, z, ev, ⟨a, ea, _⟩, ⟨b, eb, hb⟩, ⟨c, ec, hc⟩⟩ => by
    subst ev ea eb ec
    subst hc
    exact sa_draw hb.1 hb.2 h1 h2
/-! what a value's type is -/
inductive Ki where | i | s | l | t
def nameK : Ki → String | .i => "int" | .s => "str" | .l => "list" | .t => "tuple"
def kiOf : PyData → Option Ki | .int _ => some .i | .str _ => some .s | .list _ => some .l | .tuple _ => some .t | _ => none
theorem ty_sl {a : Addr} {xs : List V} (h : SqL K G a xs) : TyX K G (.ref a) (.type "list") := by
  rcases h with (h | ⟨o, h⟩) | ⟨o, its, n, h1, h2, _⟩
  · exact .base (.lst h)
  · exact .base (.frz h)
  · exact .kList h1 h2
theorem ty_st {a : Addr} {xs : List V} (h : SqT K G a xs) : TyX K G (.ref a) (.type "tuple") := by
  rcases h with (h | ⟨o, h⟩) | ⟨o, its, n, h1, h2, _⟩
  · exact .base (.tup h)
  · exact .fTuple h
  · exact .kTuple h1 h2
theorem ty_of {v : V} {d : PyData} {k : Ki} (h : Dp K G v d) (hk : kiOf d = some k) : TyX K G v (.type (nameK k)) := by
  cases h with
  | non => cases hk
  | bl b => cases hk
  | int z => cases hk; exact .base (.int z)
  | str z => cases hk; exact .base (.str z)
  | lst hs _ => cases hk; exact ty_sl hs
  | tup hs _ => cases hk; exact ty_st hs
theorem ex_isi {v : V} {d : PyData} {k : Ki} {c : String} {r : Bool} (ha : EF ta σ G (XV v)) (hb : EF tb σ G (XV (.ty c))) (hd : Dp K G v d) (hk : kiOf d = some k) (hr : kitB (nameK k) c = some r) : EF (tCB (rIsi K) (tCons ta (tCons tb tNil))) σ G (XV (.bl r)) :=
  ef_cb (ea_two mo_XV mo_XV ha hb) fun vs G' e ⟨x, y, ev, hx, hy⟩ => by
    subst ev
    cases (show x = v from hx)
    cases (show y = .ty c from hy)
    exact fun H e2 Q q => ⟨v, .ty c, _, _, r, rfl, .ty c, ty_of (dpx hd (e.trans e2)) hk, kit_ty hr, q _ G' H (.refl e2) rfl⟩
theorem ex_isN {v : V} (ha : EF ta σ G (XV v)) (hb : EF tb σ G (XV .non)) : EF (tOp rIsNone ta tb) σ G (XV (.bl (decide (v = .non)))) := ef_op mo_XV mo_XV ha hb fun x y G' _ hx hy => by
  cases (show x = v from hx)
  cases (show y = .non from hy)
  exact fun H e Q k => ⟨rfl, k _ G' H (.refl e) rfl⟩
theorem ex_isC {v : V} {c : Bool} (ha : EF ta σ G (XV v)) (hb : EF tb σ G (XV (.bl c))) : EF (tOp (rIsC c) ta tb) σ G (XV (.bl (decide (v = .bl c)))) := ef_op mo_XV mo_XV ha hb fun x y G' _ hx hy => by
  cases (show x = v from hx)
  cases (show y = .bl c from hy)
  exact fun H e Q k => ⟨rfl, k _ G' H (.refl e) rfl⟩
theorem okd_ki {n : Nat} {d : PyData} (h : Okd n d) : ∃ k, kiOf d = some k := by
  cases d with
  | int z => exact ⟨_, rfl⟩
  | str z => exact ⟨_, rfl⟩
  | list z => exact ⟨_, rfl⟩
  | tuple z => exact ⟨_, rfl⟩
  | _ => cases n <;> exact h.elim
theorem dp_not {v : V} {d : PyData} {k : Ki} (h : Dp K G v d) (hk : kiOf d = some k) : v ≠ .non ∧ ∀ b, v ≠ .bl b := by
  cases h with
  | non => cases hk
  | bl b => cases hk
  | int z => exact ⟨(fun z => nomatch z), (fun b z => nomatch z)⟩
  | str z => exact ⟨(fun z => nomatch z), (fun b z => nomatch z)⟩
  | lst hs _ => exact ⟨(fun z => nomatch z), (fun b z => nomatch z)⟩
  | tup hs _ => exact ⟨(fun z => nomatch z), (fun b z => nomatch z)⟩
/-- a list or a tuple -/
def SqA (K : PySem.W.Frag) (G : Hp) (v : V) (xs : List V) : Prop := ∃ a, v = .ref a ∧ (SqL K G a xs ∨ SqT K G a xs)
theorem SqA.ex {G' : Hp} {v : V} {xs : List V} (h : SqA K G v xs) (e : Ex G G') : SqA K G' v xs := by
  obtain ⟨a, rfl, h⟩ := h
  exact ⟨a, rfl, h.elim (fun h => .inl (Evl.ex_l e h)) fun h => .inr (Evl.ex_t e h)⟩
theorem ex_lenA {v : V} {xs : List V} (ha : EF ta σ G (XV v)) (hs : SqA K G v xs) : EF (tCB (Evl.rLenS K) (tCons ta tNil)) σ G (XV (.int (xs.length : Int))) := fun H e Q q => ha H e _ fun x G1 H1 g1 p => by
  cases (show x = v from p)
  obtain ⟨a, rfl, h⟩ := hs.ex (g1.up.trans g1.ok)
  exact ⟨a, xs, rfl, h, q _ G1 H1 g1 rfl⟩
theorem ex_ixA {v : V} {xs : List V} {i : Nat} {u : V} (ha : EF ta σ G (XV v)) (hb : EF tb σ G (XV (.int (i : Int)))) (hs : SqA K G v xs) (hu : xs[i]? = some u) : EF (tOp (rIx K) ta tb) σ G (XV u) := ef_op mo_XV mo_XV ha hb fun x y G' e1 hx hy => by
  cases (show x = v from hx)
  cases (show y = .int (i : Int) from hy)
  refine fun H e Q k => ?_
  obtain ⟨a, rfl, h⟩ := hs.ex (e1.trans e)
  rcases h with h | h
  · exact .inl ⟨a, xs, _, u, rfl, rfl, h, atI_of rfl hu, k _ G' H (.refl e) rfl⟩
  · exact .inr (.inl ⟨a, xs, _, u, rfl, rfl, h, atI_of rfl hu, k _ G' H (.refl e) rfl⟩)
end
end Lw

set_option Elab.async false
set_option linter.all false
set_option maxRecDepth 100000
set_option maxHeartbeats 4000000
/-! how many of a list of pairs have this number; drawn lists -/
namespace Lw
open PySem L2
open Evl (Ex)
section
variable {K : PySem.W.Frag} {σ : L2.St} {G H : Hp} {ta tb te tl : TE} {P : VP}
/-- the i-th of a pair of ints -/
theorem ei_pair {q : Int × Int} {v : V} {i : Nat} {z : Int} (ha : EF ta σ G (XV v)) (hv : Dp K G v (dP q)) (hb : EF tb σ G (XV (.int (i : Int)))) (hz : ([PyData.int q.1, .int q.2])[i]? = some (.int z)) : EF (tOp (rIxT K) ta tb) σ G (XV (.int z)) := by
  obtain ⟨a, xs, rfl, hs, hd⟩ := dp_tup hv
  obtain ⟨u, hu, du⟩ := dpa_get' hd hz
  cases du
  exact ex_ixT ha hb hs hu
theorem ef_cnt {a : Addr} {xs : List V} {js : List (Int × Int)} {j so i0 : Nat} {o : Int} {sel : Int × Int → Int} (hsel : ∀ p : Int × Int, ([PyData.int p.1, .int p.2])[i0]? = some (.int (sel p))) (h : EF tl σ G (XV (.ref a))) (hs : SqL K G a xs) (hx : DpAll K G xs (js.map dP)) (hlen : js.length ≤ 1000)
    (hw : ∀ x, wipe ((wipe σ [j]).set j (some x)) [j] = wipe σ [j]) (h1 : ∀ x, ((wipe σ [j]).set j (some x))[j]? = some (some x)) (h2 : ∀ x, ((wipe σ [j]).set j (some x))[so]? = some (some (.int o))) :
    EF (tCB (Evl.rLenS K) (tCons (tLc (iList K tl) (gName j) (tTest (tOp rEq (tOp (rIxT K) (tVar j) (tC (.int (i0 : Int)))) (tVar so))) (tVar j) [j]) tNil)) σ G (XV (.int (((js.filter fun p => decide (sel p = o)).length : Nat) : Int))) := by
  have hl : xs.length = js.length := by rw [dpa_len hx, List.length_map]
  have inner : EF (tLc (iList K tl) (gName j) (tTest (tOp rEq (tOp (rIxT K) (tVar j) (tC (.int (i0 : Int)))) (tVar so))) (tVar j) [j]) σ G fun v G' => ∃ q ys, v = .ref q ∧ G' q = some (.lst ys) ∧ ys.length = (js.filter fun p => decide (sel p = o)).length := by
    refine ef_lcL (xs := xs) (fun i acc G' => acc.length = ((js.take i).filter fun p => decide (sel p = o)).length) (h.imp fun v G' e p => ⟨a, p, Evl.ex_l e hs⟩) (by omega) hw (fun G' _ => rfl) (fun i x acc G' e1 hi hI => ?_) (fun p acc G' h1 h2 e1 _ hI => ⟨p, acc, rfl, upd_same, ?_⟩)
    · obtain ⟨d, hd, dx⟩ := dpa_get (dpax hx e1) hi
      rw [List.getElem?_map] at hd
      obtain ⟨q, hq, rfl⟩ := Option.map_eq_some_iff.mp hd
      refine ec_if (p := (· = decide (sel q = o))) (et_test (ei_eq (EF.iv (ei_pair (ef_var (h1 x) rfl) dx ex_c (hsel q))) (EF.iv (ef_var (h2 x) rfl)) fun a b ha hb => by rw [ha, hb])) (fun hb => ?_) (fun hb => ?_)
      · refine ef_var (h1 x) ?_
        rw [take_next hq, List.filter_append, List.length_append, List.length_append, hI, List.filter_cons, if_pos hb.symm]
        rfl
      · rw [take_next hq, List.filter_append, List.length_append, hI, List.filter_cons, if_neg (by rw [← hb]; exact Bool.false_ne_true)]
        rfl
    · rw [hI, hl, List.take_length]
  refine ef_cb (ea_one inner) fun vs G' e ⟨x, ev, p, ys, ex, hp, hy⟩ => ?_
  subst ev ex
  exact fun H e2 Q q => ⟨p, ys, rfl, .inl (Evl.sq_of (e2 _ _ hp)), q _ G' H (.refl e2) (by show V.int _ = V.int _; rw [hy])⟩
theorem eo_len (js : List (Int × Int)) (o : Int) : (js.filter fun p => decide (p.1 = o)).length = (eo js o).length := by
  unfold eo
  rw [List.length_map]
theorem wo_len (js : List (Int × Int)) (o : Int) : (js.filter fun p => decide (p.2 = o)).length = (wo js o).length := by
  unfold wo
  rw [List.length_map]
/-- a new list of ints of which p holds -/
def DL (p : List Int → Prop) : VP := fun v G' => ∃ (q : Addr) (ns : List Int), v = .ref q ∧ G' q = some (.lst (ns.map V.int)) ∧ p ns
theorem ef_lens {ta : TA} {j : Nat} {n : Int} (h : EA ta σ G fun us _ => us = [.int n]) (hn : 0 ≤ n ∧ n ≤ 1000) (hw : ∀ x, wipe ((wipe σ [j]).set j (some x)) [j] = wipe σ [j]) (he : ∀ (i : Nat) G', Ex G G' → (i : Int) < n → EF te ((wipe σ [j]).set j (some (.int (i : Int)))) G' (IV fun z => 1 ≤ z)) :
    EF (tLc (iRng1 ta) (gName j) tYes te [j]) σ G (DL fun ns => (ns.length : Int) = n ∧ ∀ z ∈ ns, 1 ≤ z) := by
  refine ef_lcR1 (n := n) (fun i xs G' => ∃ ns : List Int, xs = ns.map V.int ∧ ns.length = i ∧ ∀ z ∈ ns, 1 ≤ z) h ⟨hn.1, by omega⟩ hw (fun G' _ => ⟨[], rfl, rfl, fun z m => nomatch m⟩) (fun i xs G' e1 hi ⟨ns, ex, hl, hp⟩ => ec_all ((he i G' e1 hi).imp fun v G2 _ ⟨z, ez, hz⟩ => ⟨ns ++ [z], by rw [ex, ez, List.map_append]; rfl, by rw [List.length_append, hl]; rfl, fun y m => ?_⟩)) (fun p xs G' h1 h2 _ _ ⟨ns, ex, hl, hp⟩ => ⟨p, ns, rfl, by rw [upd_same, ex], by omega, hp⟩)
  rcases List.mem_append.mp m with m | m
  · exact hp y m
  · have e : y = z := by simpa using m
    rw [e]
    exact hz
theorem ef_parks {ta : TA} {j : Nat} {n : Int} {t : TT} (h : EA ta σ G fun us _ => us = [.int n]) (hn : 0 ≤ n ∧ n ≤ 1000) (hw : ∀ x, wipe ((wipe σ [j]).set j (some x)) [j] = wipe σ [j]) (hj : ∀ x, ((wipe σ [j]).set j (some x))[j]? = some (some x)) (ht : ∀ (i : Nat) G', Ex G G' → (i : Int) < n → ET t ((wipe σ [j]).set j (some (.int (i : Int)))) G' fun _ => True) :
    EF (tLc (iRng1 ta) (gName j) t (tVar j) [j]) σ G (DL fun ns => (ns.length : Int) ≤ n ∧ ∀ z ∈ ns, 0 ≤ z ∧ z < n) := by
  refine ef_lcR1 (n := n) (fun i xs G' => ∃ ns : List Int, xs = ns.map V.int ∧ ns.length ≤ i ∧ ∀ z ∈ ns, 0 ≤ z ∧ z < n) h ⟨hn.1, by omega⟩ hw (fun G' _ => ⟨[], rfl, Nat.le_refl _, fun z m => nomatch m⟩) (fun i xs G' e1 hi ⟨ns, ex, hl, hp⟩ => ec_if (ht i G' e1 hi) (fun _ => ef_var (hj _) ⟨ns ++ [(i : Int)], by rw [ex, List.map_append]; rfl, by rw [List.length_append]; exact Nat.succ_le_succ hl, fun y m => ?_⟩) (fun _ => ⟨ns, ex, by omega, hp⟩)) (fun p xs G' h1 h2 _ _ ⟨ns, ex, hl, hp⟩ => ⟨p, ns, rfl, by rw [upd_same, ex], by omega, hp⟩)
  rcases List.mem_append.mp m with m | m
  · exact hp y m
  · have e : y = (i : Int) := by simpa using m
    rw [e]
    omega
theorem dl_dp {p : List Int → Prop} {v : V} (h : DL p v G) : ∃ q ns, v = .ref q ∧ G q = some (.lst (ns.map V.int)) ∧ p ns ∧ Dp K G v (dI ns) := by
  obtain ⟨q, ns, ev, hq, hp⟩ := h
  exact ⟨q, ns, ev, hq, hp, by rw [ev]; exact dp_mkL hq (dpa_ints ns)⟩
/-- the state of the loops that draw joints: p the list -/
def JSt (K : PySem.W.Frag) (G1 H1 H' : Hp) (p : Addr) (n : Int) (parks : List Int) (most : Nat) (R : List (Int × Int) → Prop) : Prop := ∃ G' xs js, Gr G1 G' H1 H' ∧ G' p = none ∧ H' p = some (.lst xs) ∧ DpAll K G' xs (js.map dP) ∧ JOk n parks js ∧ js.length ≤ most ∧ R js
theorem JSt.up {G1 H1 H' H2 : Hp} {p : Addr} {n : Int} {parks : List Int} {m m' : Nat} {R R' : List (Int × Int) → Prop} (h : JSt K G1 H1 H' p n parks m R) (e : Ex H' H2) (hm : m ≤ m') (hR : ∀ js, R js → R' js) : JSt K G1 H1 H2 p n parks m' R' := by
  obtain ⟨G', xs, js, g, gp, hp, hx, hj, hl, r⟩ := h
  exact ⟨G', xs, js, g.then e, gp, e _ _ hp, hx, hj, Nat.le_trans hl hm, hR js r⟩
theorem Gr.put {G G' H H' : Hp} {p : Addr} {o : HO} (g : Gr G G' H H') (hp : H p = none) (gp : G' p = none) : Gr G G' H (upd H' p o) := ⟨g.up, ex_off g.ok gp, ex_off g.hp hp, g.2.2.2⟩
/-- 5 * block + d -/
theorem ei_k5 {j : Nat} {b d : Int} (h : σ[j]? = some (some (.int b))) (h0 : 0 ≤ b ∧ b ≤ 300) (hd : 0 ≤ d ∧ d ≤ 100) : EF (tOp (rI0 fun i j => .int (i + j)) (tOp (rI CMul fun i j => .int (i * j)) (tC (.int 5)) (tVar j)) (tC (.int d))) σ G (IV (· = 5 * b + d)) :=
  ei_add (p := (· = 5 * b)) (q := (· = d)) (ei_mul (p := (· = 5)) (q := (· = b)) (EF.iv ex_c) (EF.iv (ex_var h)) (fun a ha => by omega) fun a b ha hb => by rw [ha, hb]) (EF.iv ex_c) fun a b ha hb => by rw [ha, hb]
theorem EF.ivw {p q : Int → Prop} (h : EF te σ G (IV p)) (k : ∀ z, p z → q z) : EF te σ G (IV q) := h.imp fun v _ _ ⟨z, e, hz⟩ => ⟨z, e, k z hz⟩
/-- no joint more at a plain end that has two -/
theorem et_crowd {parks : List Int} {o : Int} {m : Nat} {b : Bool} {ta tb tc : TE} (hp : EF ta σ G (XV (.int o))) (hq : EF tb σ G (DV K (dI parks))) (hc : EF tc σ G (XV (.int (m : Int)))) :
    ET (tAnd (tTest (tOp (rNotInD K) ta tb)) (tTest (tOp rEq tc (tC (.int 2))))) σ G (· = (!decide (o ∈ parks) && decide (m = 2))) :=
  et_and (p := (· = !decide (o ∈ parks))) (q := (· = decide (m = 2))) (et_test ((ed_niD (d := .int o) (ds := parks.map PyData.int) (EF.dv hp (.int o)) hq (sh_int _) (sh_ints _)).imp fun v _ _ ⟨b, e, hb⟩ => ⟨b, e, by rw [hb, any_int]⟩)) (fun _ => et_test (ei_eq (EF.iv hc) (EF.iv ex_c) fun x y hx hy => by
    rw [hx, hy]
    by_cases h : m = 2
    · rw [h]; rfl
    · rw [decide_eq_false h, decide_eq_false (by omega)])) (fun h b hb => by rw [← h, hb]; rfl) (fun h => by rw [← h]; rfl)
end
end Lw

set_option Elab.async false
set_option linter.all false
set_option maxRecDepth 100000
set_option maxHeartbeats 4000000
/-! sorted of pairs by what they are; a new layout; a call by keywords -/
namespace Lw
open PySem L2
open Evl (Ex)
open PyProof.Rows
/-- the pair that a value is -/
def keyP (h : Heap) (v : Value) : Int × Int := match v with
  | .ref t => (match h.get? t with
    | some o => (match o.data with
      | .seq arr _ => (match arr.toList with | [.int x _, .int y _] => (x, y) | _ => (0, 0))
      | _ => (0, 0))
    | none => (0, 0))
  | _ => (0, 0)
theorem keyP_of {h : Heap} {t : Addr} {o : Obj} {x y : Int} {t1 t2 : Tok} {n : Nat} (ho : h.get? t = some o) (hd : o.data = .seq #[.int x t1, .int y t2] n) : keyP h (.ref t) = (x, y) := by
  unfold keyP
  simp only [ho, hd]
def rSortPD (K : PySem.W.Frag) : List V → Hp → VK → Prop := fun vs H Q => ∃ (G : Hp) (a : Addr) (xs : List V) (js : List (Int × Int)), Ex G H ∧ vs = [V.ref a] ∧ SqL K H a xs ∧ DpAll K G xs (js.map dP) ∧
  ∀ (ys : List V) (js' : List (Int × Int)) (p : Addr), DpAll K G ys (js'.map dP) → js'.Perm js → js'.Pairwise lexLe → H p = none → Q (.ref p) (upd H p (.lst ys))
section
variable {X : Cx}
theorem pair_facts {pins : List (Addr × Obj)} {σ : L2.St} {G H : Hp} {s : Shared} (I : Inv X pins σ H s) (e : Ex G H) : ∀ {xs : List V} {js : List (Int × Int)} {its : List Value}, DpAll X.K G xs (js.map dP) → Vals xs its →
    its.map (keyP s.heap) = js ∧ ∀ v ∈ its, Srt.IsPair s.heap v (keyP s.heap v).1 (keyP s.heap v).2 ∧ ∃ t, v = .ref t ∧ Dp X.K G (.ref t) (dP (keyP s.heap v))
  | [], [], _, _, .nil => ⟨rfl, fun v m => nomatch m⟩
  | x :: xs, q :: js, _, h, .cons rx rt => by
    rename_i v its
    cases h with
    | cons h1 h2 =>
      obtain ⟨e1, e2⟩ := pair_facts I e (js := js) h2 rt
      obtain ⟨t, ys, rfl, hs, hd⟩ := dp_tup h1
      have eys : ys = [.int q.1, .int q.2] := dpa_ints_eq (zs := [q.1, q.2]) hd
      have hs' := hs
      rw [eys] at hs'
      cases (show v = Value.ref t from rx)
      obtain ⟨its2, r2, ⟨o, ho, hc, n, hdt⟩, _⟩ := I.tuple (Evl.ex_t e hs')
      obtain ⟨u1, u2, rfl, ri, rj⟩ := vals2 r2
      obtain ⟨t1, rfl⟩ := ri
      obtain ⟨t2, rfl⟩ := rj
      have kq : keyP s.heap (.ref t) = q := keyP_of ho hdt
      refine ⟨by rw [List.map_cons, e1, kq], fun v m => ?_⟩
      rcases List.mem_cons.mp m with e3 | m
      · subst e3
        rw [kq]
        exact ⟨⟨t, o, t1, t2, n, rfl, ho, hc, hdt⟩, t, rfl, h1⟩
      · exact e2 v m
  | [], _ :: _, _, h, _ => nomatch h
  | _ :: _, [], _, h, _ => nomatch h
theorem dpa_map {K : PySem.W.Frag} {H : Hp} {f : Value → V} {k : Value → Int × Int} : ∀ {out : List Value}, (∀ v ∈ out, Dp K H (f v) (dP (k v))) → DpAll K H (out.map f) ((out.map k).map dP)
  | [], _ => .nil
  | v :: out, h => .cons (h v (List.mem_cons_self ..)) (dpa_map fun u m => h u (List.mem_cons_of_mem _ m))
theorem cr_sortPD : CallR X (.builtin "sorted") (rSortPD X.K) := by
  intro pins s σ H vs us Q I r h
  obtain ⟨G, a, xs, js, eG, rfl, hs, hx, q⟩ := h
  obtain ⟨its, rv, hl, hz⟩ := I.list hs
  obtain ⟨u, eu, ru⟩ := vals1 r
  subst eu
  cases (show u = Value.ref a from ru)
  obtain ⟨ek, hp⟩ := pair_facts I eG hx rv
  have hlen := rv.length
  refine SrtO.sorted_pairsO (k := keyP s.heap) hl.isList (by omega) (fun v m => (hp v m).1) fun h' d out h1 h2 kp hd hn => ?_
  have ho : ∀ v ∈ out, ∃ t, v = Value.ref t := fun v m => by
    obtain ⟨t, e, _⟩ := (hp v (h2.perm.mem_iff.mp m)).2
    exact ⟨t, e⟩
  have hd2 : ∀ v ∈ out, Dp X.K G (backV v) (dP (keyP s.heap v)) := fun v m => by
    obtain ⟨t, e, z⟩ := (hp v (h2.perm.mem_iff.mp m)).2
    subst e
    exact z
  obtain ⟨n, hn⟩ := hn
  have hj : (out.map (keyP s.heap)).Perm js := by
    rw [← ek]
    exact h2.perm.map _
  have hsz : (out.map backV).length ≤ sizeLine := by
    rw [List.length_map, h2.perm.length_eq, ← hlen]
    exact hz
  refine ⟨.ref d, upd H d (.lst (out.map backV)), I.laid (t' := s.toks) kp hd ⟨hsz, out, n, vals_back ho, hn⟩, rfl, q _ _ d (dpa_map hd2) hj ?_ (I.hok.fresh hd)⟩
  refine List.pairwise_map.mpr (List.Pairwise.imp (fun {x y} hxy => ?_) h1)
  have z := SrtO.lexB_no.mp hxy
  unfold lexLe
  omega
end
section
variable {K : PySem.W.Frag} {σ : L2.St} {G H : Hp} {ta tb te tc td : TE} {P : VP}
theorem ef_sortPD {a : Addr} {xs : List V} {js : List (Int × Int)} (ha : EF ta σ G (XV (.ref a))) (hs : SqL K G a xs) (hx : DpAll K G xs (js.map dP)) : EF (tCB (rSortPD K) (tCons ta tNil)) σ G fun v G' => ∃ l : List (Int × Int), l.Perm js ∧ l.Pairwise lexLe ∧ Dp K G' v (dPs l) := fun H e Q q => ha H e _ fun x G1 H1 g1 p => by
  cases (show x = .ref a from p)
  refine ⟨G1, a, xs, js, g1.ok, rfl, Evl.ex_l (g1.up.trans g1.ok) hs, dpax hx g1.up, fun ys js' p2 h1 h2 h3 h4 => ?_⟩
  exact q _ _ _ (g1.trans (.new g1.ok h4)) ⟨js', h2, h3, dp_mkL upd_same (dpax h1 (ex_in (none_back g1.ok h4)))⟩
theorem Gr.low {G G' H H2 H' : Hp} (g : Gr G G' H2 H') (e : Ex H H2) : Gr G G' H H' := ⟨g.up, g.ok, e.trans g.hp, fun a h ga => g.2.2.2 a (exNe e h) ga⟩
theorem sa_jd' {C : Addr} {p : Addr} {n : Nat} {parks : List Int} {js : List (Int × Int)} {w e : Int} (f : Bool) (h : LayAt K C G p n parks js) (h0 : 0 ≤ w) (h1 : w < e) (h2 : e < (n : Int)) : SA (spJd K C) [.ref p, .int (if f = true then w else e), .int (if f = true then e else w)] G (FL K G (wantD parks js w e)) :=
  fun H ex Q E q => sa_jd f h h0 h1 h2 H ex Q E fun v G' H' g ⟨r, xs, ev, hr, hg, hd⟩ => q v G' H' g ⟨r, xs, ev, none_back ex hr, hg, hd⟩
theorem sa_wanted {x : V} {t : Trk} {w e : Int} (hx : Dp K G x (dT t)) (ht : t.joints.length ≤ 900) : SA (spWanted K) [x, .int w, .int e] G (DV K (.list (wantD t.parks t.joints w e))) := fun H ex Q _ q => ⟨G, x, t, w, e, ex, rfl, hx, ht, q⟩
theorem sa_meet1 {C : Addr} {p : Addr} {n : Nat} {parks : List Int} {js : List (Int × Int)} {w e : Int} {x : V} (h : LayAt K C G p n parks js) (h0 : 0 ≤ w) (h1 : w < e) (h2 : e < (n : Int)) (hx : Dp K G x (.list (wantD parks js w e))) : SA (spMeet K C) [.ref p, x, .int w, .int e] G (XV (.bl true)) := fun H ex Q _ q => ⟨G, p, n, parks, js, w, e, true, x, ex, rfl, h, h0, h1, h2, hx, q⟩
theorem sa_meet2 {C : Addr} {p : Addr} {n : Nat} {parks : List Int} {js : List (Int × Int)} {w e : Int} {x : V} (h : LayAt K C G p n parks js) (h0 : 0 ≤ w) (h1 : w < e) (h2 : e < (n : Int)) (hx : Dp K G x (.list (wantD parks js w e))) : SA (spMeet K C) [.ref p, x, .int e, .int w] G (XV (.bl true)) := fun H ex Q _ q => ⟨G, p, n, parks, js, w, e, false, x, ex, rfl, h, h0, h1, h2, hx, q⟩
theorem ef_callK0 {sp : Sp} {gV : List V → List V → List V} {E : XK} {tk : TA} {R : List V → Hp → Prop} (h : EA tk σ G R) (hr : ∀ zs G', Ex G G' → R zs G' → SA sp (gV [] zs) G' P) : EF (tCallK sp gV E tNil tk) σ G P := fun H e Q q =>
  h H e _ fun zs G1 H1 g1 p1 => hr zs G1 g1.up p1 H1 g1.ok Q E fun v G2 H2 g2 p2 => q v G2 H2 (g1.trans g2) p2
theorem ef_make {C : Addr} {E : XK} {t tk : TA} {lens : List Int} {js : List (Int × Int)} {parks : List Int} (h : EA t σ G fun vs G' => ∃ a1 a2, vs = [.ref a1, .ref a2] ∧ Dp K G' (.ref a1) (dI lens) ∧ Dp K G' (.ref a2) (dPs js)) (hk : EA tk σ G fun zs G' => ∃ a3, zs = [.ref a3] ∧ Dp K G' (.ref a3) (dI parks))
    (n1 : 1 ≤ lens.length) (n2 : lens.length ≤ 200) (hl : ∀ z ∈ lens, 1 ≤ z) (hp : ∀ b ∈ parks, 0 ≤ b ∧ b < (lens.length : Int)) (hJ : JOk (lens.length : Int) parks js) (hj : js.length ≤ 900) :
    EF (tMakeK C 2 1 (spInit K C) (fun vs zs => vs ++ zs) E t tk) σ G fun v G' => ∃ x, v = .ref x ∧ LayAt K C G' x lens.length parks js := fun H e Q q =>
  h H e _ fun vs G1 H1 g1 ⟨a1, a2, ev, d1, d2⟩ => hk H1 (g1.up.trans g1.ok) _ fun zs G2 H2 g2 ⟨a3, ez, d3⟩ => by
    obtain ⟨G3, f1, f2, g3⟩ := g1.join g2
    subst ev ez
    refine ⟨rfl, rfl, fun x dx hx hdx hne => ?_⟩
    have ex2 : Ex H2 (outH (upd (upd H2 dx (.own x)) x (.ins C dx [])) x) := fun a o ha => by
      rw [out_ne (ne_of_none ha hx), upd_ne (ne_of_none ha hx), upd_ne (ne_of_none ha hdx)]
      exact ha
    refine ⟨G3, x, dx, lens, js, parks, a1, a2, a3, rfl, g3.ok.trans (ex2.trans out_ex), none_back g3.ok hx, upd_same, dpx d1 f1, dpx d2 f1, dpx d3 f2, n1, n2, hl, hp, hJ, hj, fun G' H' g hL => ⟨rfl, ?_⟩⟩
    exact q _ G' H' (g3.trans (g.low ex2)) ⟨x, rfl, hL⟩
theorem mo_lay {C : Addr} {n : Nat} {parks : List Int} {js : List (Int × Int)} : Mo (fun v G => ∃ x, v = .ref x ∧ LayAt K C G x n parks js) := fun v G G' e ⟨x, ev, h⟩ => ⟨x, ev, h.ex e⟩
theorem mo_srt {js : List (Int × Int)} : Mo (fun v G => ∃ l : List (Int × Int), l.Perm js ∧ l.Pairwise lexLe ∧ Dp K G v (dPs l)) := fun v G G' e ⟨l, h1, h2, h3⟩ => ⟨l, h1, h2, dpx h3 e⟩
theorem st_clear {l : Addr} {xs : List V} {D : Ends} (hG : Ex G H) (hl : H l = some (.lst xs)) (ho : EF ta σ G (XV (.ref l))) (k : ∀ H', Ex H H' → D.nx σ (upd H' l (.lst []))) : tDrop (tBM0 K "list" rClear ta) D σ H := ho H hG _ fun v1 G1 H1 g1 p1 => by
  cases (show v1 = .ref l from p1)
  exact ⟨.inl ⟨rfl, xs, Evl.sq_of (g1.hp _ _ hl)⟩, l, xs, rfl, rfl, g1.hp _ _ hl, k H1 g1.hp⟩
end
end Lw

set_option Elab.async false
set_option linter.all false
set_option maxRecDepth 100000
set_option maxHeartbeats 4000000
/-! ends as lists, the other branch, triples -/
namespace Lw
open PySem L2
open Evl (Ex)
section
variable {K : PySem.W.Frag} {C : Addr}
def ends (js : List (Int × Int)) (b : Int) (c : Bool) : List Int := if c = true then eo js b else wo js b
theorem ends_len (js : List (Int × Int)) (b : Int) (c : Bool) : (ends js b c).length = endN js b c := by cases c <;> rfl
/-- a new list of these ints, in some order -/
def PL (K : PySem.W.Frag) (l0 : List Int) : VP := fun v G => ∃ l : List Int, l.Perm l0 ∧ Dp K G v (dI l)
def qEast (K : PySem.W.Frag) : Nat → List Int → List (Int × Int) → Int → VP := fun _ _ js b => PL K (eo js b)
def qWest (K : PySem.W.Frag) : Nat → List Int → List (Int × Int) → Int → VP := fun _ _ js b => PL K (wo js b)
def qBranch (K : PySem.W.Frag) : List Int → List (Int × Int) → Int → Bool → VP := fun _ js b c => PL K (ends js b c)
theorem pl_nl {js : List (Int × Int)} {b : Int} {c : Bool} {v : V} {G : Hp} (h : PL K (ends js b c) v G) : NL K (endN js b c) v G := by
  obtain ⟨l, h1, h2⟩ := h
  exact ⟨l, by rw [h1.length_eq, ends_len], h2⟩
end
end Lw

set_option Elab.async false
set_option linter.all false
set_option maxRecDepth 100000
set_option maxHeartbeats 4000000
/-! list(reversed(a list)) -/
namespace Lw
open PySem PySem.Spec PyProof.Rows L2
open Evl (Ex)
section
variable {prog : Program} {w : World} {A : Around} {E : Value → Shared → Prop} {s : Shared}
theorem rev_extend {R : Result → Shared → Prop} {it l S : Addr} {items : Array Value} (hh : A.handled = none) (hit : s.heap.IsRevIter it l ((items.size : Int) - 1)) (hl : s.heap.IsList l items) (hne : l ≠ it) (hn : items.size ≤ sizeLine) (hSi : S ≠ it) (hSl : S ≠ l) (res : Value) (c₀ : Nat)
    (hS : s.heap.get? S = some { cls := .type "list", data := .seq #[] c₀ })
    (hR : ∀ h' tk acc' c', (∀ b o, b ≠ S → b ≠ it → s.heap.get? b = some o → h'.get? b = some o) → h'.get? S = some { cls := .type "list", dict := none, data := .seq acc' c', slots := #[] } → ItemsOf (fun i v => items[items.size - 1 - i]? = some v) acc' items.size → R (.ok (.ret res)) { s with heap := h', toks := tk }) :
    wpAny (model prog w) A.in1 (Builtin.List.listExtendWith (.ref S) (.ref it) res)
      (fun fin s' => match fin with | .done f => R (.ok f) s' | .again c' => c'.quiet = true ∧ codeAny (model prog w) A c' R s') (fun e s' => R (.error e) s') s := by
  have W := (Walks.listRev (prog := prog) (w := w) (A := A.in1) hh it l hne items).toS
  have hSf : S ∉ [it, l] := by simp only [List.mem_cons, List.not_mem_nil, or_false, not_or]; exact ⟨hSi, hSl⟩
  have hT : s.TypeIs (.ref it) "list_reverseiterator" := Heap.IsRevIter.typeIs hit
  have h1 : Builtin.List.listSameRef (.ref S) (.ref it) = false := by simp [Builtin.List.listSameRef, hSi]
  unfold Builtin.List.listExtendWith
  refine wpAny_bind (wpAny_typeOf hT ?_)
  rw [if_neg (by rw [h1]; decide)]
  refine wpAny_bind (wpAny_pyIter_revIter hit ?_)
  refine wpAny_bind (wpAny_holding ?_)
  unfold Builtin.List.listLengthHint
  refine wpAny_bind (wpAny_specialOf hT RT.nolen_lri ?_)
  show wpAny _ A.in1 (specialOf (Value.ref it) (Str.ofString "__length_hint__") >>= _) _ _ _
  refine wpAny_bind (wpAny_specialOf hT RT.hint_lri ?_)
  generalize hid : ("list_reverseiterator.__length_hint__" : String) = id0
  wp_delta
  rw [show splitId id0 = some ("list_reverseiterator", "__length_hint__") from by subst hid; decide +kernel]
  subst hid
  refine wpAny_bind (wpAny_isInstance (b := true) hT (by rw [isSubtype_type]; kernel_rfl) ?_)
  refine wpAny_pure ?_
  rw [if_neg (by decide)]
  have e0 : ((items.size : Nat) : Int) - 1 - ((0 : Nat) : Int) = (items.size : Int) - 1 := by omega
  refine wpAny_pure ⟨plainId_quiet F.plain_extend_loop _, codeAny_extend_loopS W hn _ hSf _ items.size 0 _ _ _ rfl (Nat.zero_le _) ⟨Nat.zero_le _, by rw [e0]; exact hit, hl⟩ hS (ItemsOf.nil _) fun s' acc' c' hm hS' hacc => ?_⟩
  rw [Moved.eq_with hm]
  refine hR s'.heap s'.toks acc' c' (fun b o hb hb2 e => hm.heap b o (fun hmem => ?_) e) hS' hacc
  rcases List.mem_cons.mp hmem with e' | hmem
  · exact hb e'
  · exact hb2 (List.mem_singleton.mp hmem)
theorem rev_init {R : Result → Shared → Prop} {it l S : Addr} {items : Array Value} (hh : A.handled = none) (hit : s.heap.IsRevIter it l ((items.size : Int) - 1)) (hl : s.heap.IsList l items) (hne : l ≠ it) (hn : items.size ≤ sizeLine) (hSi : S ≠ it) (hSl : S ≠ l)
    (hS : s.heap.get? S = some { cls := .type "list", data := .seq #[] })
    (hR : ∀ h' tk acc' c', (∀ b o, b ≠ S → b ≠ it → s.heap.get? b = some o → h'.get? b = some o) → h'.get? S = some { cls := .type "list", dict := none, data := .seq acc' c', slots := #[] } → ItemsOf (fun i v => items[items.size - 1 - i]? = some v) acc' items.size → R (.ok (.ret .none)) { s with heap := h', toks := tk }) :
    wpAny (model prog w) A.in1 (Builtin.«list.__init__» ⟨[.ref S, .ref it], []⟩)
      (fun fin s' => match fin with | .done f => R (.ok f) s' | .again c' => c'.quiet = true ∧ codeAny (model prog w) A c' R s') (fun e s' => R (.error e) s') s := by
  show wpAny _ _ (do let old ← Builtin.List.listItems (.ref S); Builtin.List.listUpdate (.ref S) (fun _ => #[]); letGo old.toList.reverse; Builtin.List.listExtendWith (.ref S) (.ref it) .none) _ _ s
  refine wpAny_bind ?_
  unfold Builtin.List.listItems
  refine wpAny_bind (wpAny_seqItems hS rfl (wpAny_pure ?_))
  show wpAny _ _ (updateSeq S (fun _ => #[]) >>= fun _ => letGo (#[] : Array Value).toList.reverse >>= fun _ => Builtin.List.listExtendWith (.ref S) (.ref it) .none) _ _ s
  refine wpAny_bind (wpAny_updateSeq hS rfl ?_)
  have hS₂ := Heap.get?_update_self (Obj.mapSeq (fun _ => (#[] : Array Value))) hS rfl
  have oth : ∀ b o, b ≠ S → s.heap.get? b = some o → (s.heap.update S (Obj.mapSeq (fun _ => (#[] : Array Value)))).get? b = some o :=
    fun b o hb e => (Heap.get?_update_other _ _ (Ne.symm hb)).trans e
  refine wpAny_bind (wpAny_letGo ?_)
  obtain ⟨ol, hol, c1, c2⟩ := id hl
  refine rev_extend hh (hit.at fun o e => oth it o (Ne.symm hSi) e) ⟨ol, oth l ol (Ne.symm hSl) hol, c1, c2⟩ hne hn hSi hSl .none _ hS₂ (fun h' tk acc' c' hk hS' hacc => ?_)
  exact hR h' tk acc' c' (fun b o hb hb2 e => hk b o hb hb2 (oth b o hb e)) hS' hacc
theorem call_list_rev {it l : Addr} {items : Array Value} {Q : Value → Shared → Prop} (hh : A.handled = none) (hit : s.heap.IsRevIter it l ((items.size : Int) - 1)) (hl : s.heap.IsList l items) (hne : l ≠ it) (hn : items.size ≤ sizeLine)
    (hQ : ∀ (h' : Heap) (tk : Nat) (acc : Array Value) c', (∀ b o, b ≠ it → s.heap.get? b = some o → h'.get? b = some o) → h'.get? s.heap.objs.size = some { cls := .type "list", dict := none, data := .seq acc c', slots := #[] } → ItemsOf (fun i v => items[items.size - 1 - i]? = some v) acc items.size →
      Q (.ref s.heap.objs.size) { s with heap := h', toks := tk }) :
    wpAny (model prog w) A (call (.type "list") [.ref it]) Q E s := by
  refine callType_codes (Q₁ := fun obj s₁ => obj = .ref s.heap.objs.size ∧ s₁ = { s with heap := s.heap.push { cls := .type "list", data := .seq #[] } }) PySem.F.called_list (PySem.F.typeCall_list_1 _) PySem.F.entry_list_init
    (code_list_new _ ⟨rfl, rfl⟩) fun obj s₁ h₁ => ?_
  obtain ⟨rfl, rfl⟩ := h₁
  have hS : (s.heap.push { cls := .type "list", data := .seq #[] }).get? s.heap.objs.size = some { cls := .type "list", data := .seq #[] } := Heap.get?_push_size _ rfl
  obtain ⟨oi, hoi, _⟩ := id hit
  obtain ⟨ol, hol, _⟩ := id hl
  refine ⟨⟨_, hS, rfl⟩, PySem.F.args_list_init_2 _ _, rev_init (A := A.in1) hh (hit.at fun o e => Heap.get?_push_of_some _ e) (hl.push _) hne hn (Nat.ne_of_gt (Heap.lt_size hoi)) (Nat.ne_of_gt (Heap.lt_size hol)) hS (fun h' tk acc' c' hk hS' hacc => ?_)⟩
  exact ⟨rfl, hQ h' tk acc' c' (fun b o hb e => hk b o (Nat.ne_of_lt (Heap.lt_size e)) hb (Heap.get?_push_of_some _ e)) hS' hacc⟩
end
/-- list(reversed(x)), x a list: a new list -/
def tLstRev (K : PySem.W.Frag) (te : TE) : TE := fun σ H Q => te σ H fun v H1 => ∃ (a : Addr) (xs : List V), v = .ref a ∧ SqL K H1 a xs ∧ ∀ q, H1 q = none → Q (.ref q) (upd H1 q (.lst xs.reverse))
section
variable {X : Cx}
theorem pe_lstRev {e : Expr} {te : TE} {p p2 pos pos2 : Pos} (hc : X.calm = true) (hg : Gl X "list") (hm : X.mg "list" = none) (hg2 : Gl X "reversed") (hm2 : X.mg "reversed" = none) (he : PE X e te)
    (hs : starEach [e] X.env = (false, eval e X.env) :: starEach [] X.env := by rfl)
    (hs2 : starEach [.Call (.Name "reversed" p2) [e] [] pos2] X.env = (false, eval (.Call (.Name "reversed" p2) [e] [] pos2) X.env) :: starEach [] X.env := by rfl) :
    PE X (.Call (.Name "list" p) [.Call (.Name "reversed" p2) [e] [] pos2] [] pos) (tLstRev X.K te) := by
  refine ⟨fun pins s σ H Q I h => ?_⟩
  refine Call_ (ld_blt I hg hm boot_list (PyProof.Rows.callWith_type1 (args_cons (Call_ (ld_blt I hg2 hm2 PyProof.Rows.boot_reversed (PyProof.Rows.callWith_type1 (args_cons (thn (he.run pins s σ H _ I h) fun u s1 ⟨v, H1, I1, r1, q1⟩ => args_nil ?_) hs) hs rfl))) hs2) hs2 rfl))
  obtain ⟨a, xs, ev, hq, q⟩ := q1
  subst ev
  obtain rfl : u = Value.ref a := r1
  obtain ⟨its, rv, p', hz⟩ := I1.list hq
  refine call_reversed_list p'.isList (args_nil ?_)
  have k0 : ∀ b o, s1.heap.get? b = some o → (s1.heap.push (revObj a ((its.toArray.size : Int) - 1))).get? b = some o := fun b o e => Heap.get?_push_of_some _ e
  have hl := p'.isList
  obtain ⟨ol, hol, _⟩ := id hl
  have hne : a ≠ s1.heap.objs.size := Nat.ne_of_lt (Heap.lt_size hol)
  have hn : its.toArray.size ≤ sizeLine := by rw [List.size_toArray, ← rv.length]; exact hz
  refine call_list_rev (s := { s1 with heap := s1.heap.push (revObj a ((its.toArray.size : Int) - 1)) }) (I1.ok.hd hc) ⟨_, Heap.get?_push_size _ rfl, rfl, rfl⟩ (hl.push _) hne hn fun h' tk acc c' hk hS hi => ?_
  have hs1 : ∀ b o, s1.heap.get? b = some o → h'.get? b = some o := fun b o e => hk b o (Nat.ne_of_lt (Heap.lt_size e)) (Heap.get?_push_of_some _ e)
  have hle : s1.heap.objs.size ≤ (s1.heap.push (revObj a ((its.toArray.size : Int) - 1))).objs.size := by rw [Heap.size_push]; omega
  refine ⟨.ref (s1.heap.push (revObj a ((its.toArray.size : Int) - 1))).objs.size, upd H1 (s1.heap.push (revObj a ((its.toArray.size : Int) - 1))).objs.size (.lst xs.reverse), I1.laid (t' := tk) hs1 hle ⟨by rw [List.length_reverse]; exact hz, acc.toList, c', RT.vals_rev rv hi, ?_⟩, rfl, q _ (I1.hok.fresh hle)⟩
  rw [Array.toArray_toList]
  exact hS
end
end Lw

set_option Elab.async false
set_option linter.all false
set_option maxRecDepth 100000
set_option maxHeartbeats 4000000
/-! sorted of triples (int, "east" or "west", int) -/
namespace Lw
open PySem L2
open Evl (Ex)
open PyProof.Rows
abbrev T3 := Int × Bool × Int
def dT3 (t : T3) : PyData := dTr t.1 (sd t.2.1) t.2.2
def k3 (t : T3) : Int := 2 * t.1 + (if t.2.1 = true then 0 else 1)
theorem k3_eq {s t : T3} (h : k3 s = k3 t) : s.1 = t.1 ∧ s.2.1 = t.2.1 := by
  obtain ⟨a, f, b⟩ := s
  obtain ⟨c, g, d⟩ := t
  unfold k3 at h
  cases f <;> cases g <;> simp at h ⊢ <;> omega
theorem sd_inj {f g : Bool} : sd f = sd g ↔ f = g := by
  constructor
  · intro h
    cases f <;> cases g
    · rfl
    · exact absurd h east_ne
    · exact absurd h.symm east_ne
    · rfl
  · intro h
    rw [h]
theorem sd_lt (f g : Bool) (h : f ≠ g) : decide ((sd f).cps.toList < (sd g).cps.toList) = f := by
  cases f <;> cases g
  · exact absurd rfl h
  · unfold sd eastS westS; decide +kernel
  · unfold sd eastS westS; decide +kernel
  · exact absurd rfl h
section
variable {prog : Program} {w : World} {A : Around} {E : Value → Shared → Prop} {s : Shared}
def IsT3 (h : Heap) (v : Value) (x : T3) : Prop := ∃ a o t u z m, v = .ref a ∧ h.get? a = some o ∧ o.cls = .type "tuple" ∧ o.data = .seq #[.int x.1 t, .str (sd x.2.1) u, .int x.2.2 z] m
theorem IsT3.keeps {h h' : Heap} {v : Value} {x : T3} (p : IsT3 h v x) (k : ∀ b o, h.get? b = some o → o.cls = .type "tuple" → h'.get? b = some o) : IsT3 h' v x := by
  obtain ⟨a, o, t, y, z, m, e, ho, hc, hd⟩ := p
  exact ⟨a, o, t, y, z, m, e, k a o ho hc, hc, hd⟩
theorem t3_firsts {h : Heap} {k : Value → T3} : ∀ {vs : List Value}, (∀ v ∈ vs, IsT3 h v (k v)) → ∃ fs : List Value, PySem.W.KatTups h vs fs ∧ fs.length = vs.length ∧ ∀ f ∈ fs, ∃ x t, f = Value.int x t
  | [], _ => ⟨[], PySem.W.KatTups.nil, rfl, fun _ hm => by simp at hm⟩
  | v :: vs, hp => by
    obtain ⟨fs, h1, h2, h3⟩ := t3_firsts (k := k) (vs := vs) fun v' hm => hp v' (List.mem_cons_of_mem _ hm)
    have hv := hp v (List.mem_cons_self ..)
    generalize k v = x at hv
    obtain ⟨a, o, t, y, z, m, e, ho, hc, hd⟩ := hv
    subst e
    refine ⟨.int x.1 t :: fs, PySem.W.KatTups.cons ho hc hd rfl h1, by rw [List.length_cons, List.length_cons, h2], fun f hm => ?_⟩
    rcases List.mem_cons.mp hm with rfl | hm
    · exact ⟨x.1, t, rfl⟩
    · exact h3 f hm
theorem t3_cmp {vs : List Value} {k : Value → T3} (hp : ∀ v ∈ vs, IsT3 s.heap v (k v)) (hi : ∀ v ∈ vs, ∀ u ∈ vs, k3 (k v) = k3 (k u) → k v = k u) : SrtO.Cmp prog w A s (tuples' true) (fun p => p.1 ∈ vs) (SrtO.lt2 (ltK fun v => k3 (k v))) := by
  intro p q hm hm'
  have h1 := hp _ hm
  have h2 := hp _ hm'
  have hin := hi _ hm _ hm'
  show wpAny (model prog w) A (keyLt' (tuples' true) p.1 q.1) (fun r s' => s' = s ∧ r = decide (k3 (k p.1) < k3 (k q.1))) (fun _ _ => False) s
  generalize k p.1 = x at h1 hin ⊢
  generalize k q.1 = x' at h2 hin ⊢
  obtain ⟨a, o, t, u, z, m, e, ho, hc, hd⟩ := h1
  obtain ⟨a', o', t', u', z', m', e', ho', hc', hd'⟩ := h2
  rw [e, e']
  refine PySem.W.kat_lt ho hd ho' hd' ?_
  show PySem.W.KatLex prog w A true (decide (3 < 3)) _ [(.int x.1 t, .int x'.1 t'), (.str (sd x.2.1) u, .str (sd x'.2.1) u'), (.int x.2.2 z, .int x'.2.2 z')] 0 s
  refine PySem.W.kat_cons (SeqAt.EqAt.int_int x.1 t x'.1 t' prog w _ _ ?_)
  refine PySem.W.kat_go (fun e1 => ?_) (fun e1 => ?_)
  · have e1' : x.1 = x'.1 := by simpa using e1
    refine PySem.W.kat_yes (PySem.W.kat_cons (SeqAt.EqAt.str_str (sd x.2.1) u (sd x'.2.1) u' prog w _ _ ?_))
    refine PySem.W.kat_go (fun e2 => ?_) (fun e2 => ?_)
    · have e2' : x.2.1 = x'.2.1 := sd_inj.mp (by simpa using e2)
      have ee : x = x' := hin (by unfold k3; rw [e1', e2'])
      subst ee
      refine PySem.W.kat_yes (PySem.W.kat_cons (SeqAt.EqAt.int_int x.2.2 z x.2.2 z' prog w _ _ ?_))
      refine PySem.W.kat_go (fun _ => ?_) (fun e1 => absurd e1 (by simp))
      exact PySem.W.kat_yes (PySem.W.kat_nil ⟨rfl, (decide_eq_false (Int.lt_irrefl _)).symm⟩)
    · have e2' : x.2.1 ≠ x'.2.1 := fun c => absurd e2 (by rw [c]; simp)
      refine PySem.W.kat_no (oneLt_any_str ⟨rfl, ?_⟩)
      rw [sd_lt _ _ e2']
      unfold k3
      rw [e1']
      cases hx : x.2.1 <;> cases hx' : x'.2.1
      · rw [hx, hx'] at e2'; exact absurd rfl e2'
      · exact (decide_eq_false (by simp; omega)).symm
      · exact (decide_eq_true (by simp; omega)).symm
      · rw [hx, hx'] at e2'; exact absurd rfl e2'
  · have e1' : x.1 ≠ x'.1 := fun c => absurd e1 (by rw [c]; simp)
    refine PySem.W.kat_no (PyProof.Rows.oneLt_int ⟨rfl, ?_⟩)
    unfold k3
    by_cases c : x.1 < x'.1
    · rw [decide_eq_true c, decide_eq_true (by split <;> split <;> omega)]
    · rw [decide_eq_false c, decide_eq_false (by split <;> split <;> omega)]
theorem t3_sortable {a : Addr} {vs : List Value} {k : Value → T3} (h0 : 0 < vs.length) (hp : ∀ v ∈ vs, IsT3 s.heap v (k v)) (hi : ∀ v ∈ vs, ∀ u ∈ vs, k3 (k v) = k3 (k u) → k v = k u) (ha : ∀ o, s.heap.get? a = some o → o.cls ≠ .type "tuple") : SrtO.SortableO prog w A s a vs (ltK fun v => k3 (k v)) := by
  intro h' keep
  have hp' : ∀ v ∈ vs, IsT3 h' v (k v) := fun v hm => (hp v hm).keeps fun b o e c => keep b o (fun z => by subst z; exact ha o e c) e
  obtain ⟨fs, h1, h2, h3⟩ := t3_firsts hp'
  refine ⟨tuples' true, fun Q E hq => ?_, t3_cmp hp' hi⟩
  refine PySem.W.kat_kind (T := .type "int") h1 (by omega) (fun f hm => ?_) (by rfl) ?_
  · obtain ⟨x, t, rfl⟩ := h3 f hm
    exact PySem.W.Looks.now
  · have e : (Value.type "int" != Value.type "tuple") = true := by first | decide +kernel | rfl | decide
    rw [e]
    exact hq
theorem sorted_t3 {l : Addr} {vs : List Value} {k : Value → T3} {Q : Value → Shared → Prop} (hl : s.heap.IsList l vs.toArray) (hz : vs.length ≤ sizeLine) (hp : ∀ v ∈ vs, IsT3 s.heap v (k v)) (hi : ∀ v ∈ vs, ∀ u ∈ vs, k3 (k v) = k3 (k u) → k v = k u)
    (h : ∀ (h' : Heap) (d : Addr) (out : List Value), SrtO.Srtd (ltK fun v => k3 (k v)) out → SrtO.Stb (ltK fun v => k3 (k v)) out vs → (∀ b o, s.heap.get? b = some o → h'.get? b = some o) → s.heap.objs.size ≤ d → (∃ n, h'.get? d = some (seqObj "list" out.toArray n)) → Q (.ref d) { s with heap := h' }) :
    wpAny (model prog w) A (call (.builtin "sorted") [.ref l]) Q E s := by
  refine SrtO.sorted_ord (ltK_swo fun v => k3 (k v)) hl hz (fun h2 h₁ a ha kk => ?_) fun out hs hb => ?_
  · refine t3_sortable (s := { s with heap := h₁ }) (by omega) (fun v hm => (hp v hm).keeps fun b o e _ => (kk b o e).2) hi fun o e => ?_
    have e' : some o = some (seqObj "list" vs.toArray 0) := e.symm.trans ha
    cases e'
    intro c
    exact absurd (Value.type.inj c) (by decide)
  · exact h _ _ out hs hb (fun b o e => sortedAll_old e) (Nat.le_succ _) (sortedAll_at s.heap vs out.toArray)
end
/-- the triple that a value is -/
def keyT3 (h : Heap) (v : Value) : T3 := match v with
  | .ref t => (match h.get? t with
    | some o => (match o.data with
      | .seq arr _ => (match arr.toList with | [.int x _, .str y _, .int z _] => (x, decide (y = eastS), z) | _ => (0, true, 0))
      | _ => (0, true, 0))
    | none => (0, true, 0))
  | _ => (0, true, 0)
theorem keyT3_of {h : Heap} {t : Addr} {o : Obj} {x : T3} {t1 t2 t3 : Tok} {n : Nat} (ho : h.get? t = some o) (hd : o.data = .seq #[.int x.1 t1, .str (sd x.2.1) t2, .int x.2.2 t3] n) : keyT3 h (.ref t) = x := by
  unfold keyT3
  simp only [ho, hd]
  obtain ⟨a, f, b⟩ := x
  have e : decide (sd f = eastS) = f := by
    cases f
    · exact decide_eq_false east_ne
    · exact decide_eq_true rfl
  rw [e]
def rSort3 (K : PySem.W.Frag) : List V → Hp → VK → Prop := fun vs H Q => ∃ (G : Hp) (a : Addr) (xs : List V) (l : List T3), Ex G H ∧ vs = [V.ref a] ∧ SqL K H a xs ∧ DpAll K G xs (l.map dT3) ∧ (∀ s ∈ l, ∀ t ∈ l, k3 s = k3 t → s = t) ∧
  ∀ (ys : List V) (l' : List T3) (p : Addr), DpAll K G ys (l'.map dT3) → l'.Perm l → l'.Pairwise (fun s t => k3 s ≤ k3 t) → H p = none → Q (.ref p) (upd H p (.lst ys))
section
variable {X : Cx}
theorem t3_facts {pins : List (Addr × Obj)} {σ : L2.St} {G H : Hp} {s : Shared} (I : Inv X pins σ H s) (e : Ex G H) : ∀ {xs : List V} {js : List T3} {its : List Value}, DpAll X.K G xs (js.map dT3) → Vals xs its →
    its.map (keyT3 s.heap) = js ∧ ∀ v ∈ its, IsT3 s.heap v (keyT3 s.heap v) ∧ ∃ t, v = .ref t ∧ Dp X.K G (.ref t) (dT3 (keyT3 s.heap v))
  | [], [], _, _, .nil => ⟨rfl, fun v m => nomatch m⟩
  | x :: xs, q :: js, _, h, .cons rx rt => by
    rename_i v its
    cases h with
    | cons h1 h2 =>
      obtain ⟨e1, e2⟩ := t3_facts I e (js := js) h2 rt
      obtain ⟨t, ys, rfl, hs, hd⟩ := dp_tup h1
      have eys : ys = [.int q.1, .str (sd q.2.1), .int q.2.2] := by
        cases hd with
        | cons a1 r1 => cases r1 with
          | cons a2 r2 => cases r2 with
            | cons a3 r3 =>
              cases r3
              cases a1
              cases a2
              cases a3
              rfl
      have hs' := hs
      rw [eys] at hs'
      cases (show v = Value.ref t from rx)
      obtain ⟨its2, r2, ⟨o, ho, hc, n, hdt⟩, _⟩ := I.tuple (Evl.ex_t e hs')
      obtain ⟨u1, us2, rfl, ri, r3⟩ : ∃ u1 us2, its2 = u1 :: us2 ∧ RelV (.int q.1) u1 ∧ Vals [.str (sd q.2.1), .int q.2.2] us2 := by
        cases r2 with
        | cons p q => exact ⟨_, _, rfl, p, q⟩
      obtain ⟨u2, u3, rfl, rj, rz⟩ := vals2 r3
      obtain ⟨t1, rfl⟩ := ri
      obtain ⟨t2, rfl⟩ := rj
      obtain ⟨t3, rfl⟩ := rz
      have kq : keyT3 s.heap (.ref t) = q := keyT3_of ho hdt
      refine ⟨by rw [List.map_cons, e1, kq], fun v m => ?_⟩
      rcases List.mem_cons.mp m with e3 | m
      · subst e3
        rw [kq]
        exact ⟨⟨t, o, t1, t2, t3, n, rfl, ho, hc, hdt⟩, t, rfl, h1⟩
      · exact e2 v m
  | [], _ :: _, _, h, _ => nomatch h
  | _ :: _, [], _, h, _ => nomatch h
theorem dpa_map3 {K : PySem.W.Frag} {H : Hp} {f : Value → V} {k : Value → T3} : ∀ {out : List Value}, (∀ v ∈ out, Dp K H (f v) (dT3 (k v))) → DpAll K H (out.map f) ((out.map k).map dT3)
  | [], _ => .nil
  | v :: out, h => .cons (h v (List.mem_cons_self ..)) (dpa_map3 fun u m => h u (List.mem_cons_of_mem _ m))
theorem cr_sort3 : CallR X (.builtin "sorted") (rSort3 X.K) := by
  intro pins s σ H vs us Q I r h
  obtain ⟨G, a, xs, js, eG, rfl, hs, hx, hi, q⟩ := h
  obtain ⟨its, rv, hl, hz⟩ := I.list hs
  obtain ⟨u, eu, ru⟩ := vals1 r
  subst eu
  cases (show u = Value.ref a from ru)
  obtain ⟨ek, hp⟩ := t3_facts I eG hx rv
  have hlen := rv.length
  have hmem : ∀ v ∈ its, keyT3 s.heap v ∈ js := fun v m => by
    rw [← ek]
    exact List.mem_map.mpr ⟨v, m, rfl⟩
  refine sorted_t3 (k := keyT3 s.heap) hl.isList (by omega) (fun v m => (hp v m).1) (fun v m u m' e => hi _ (hmem v m) _ (hmem u m') e) fun h' d out h1 h2 kp hd hn => ?_
  have ho : ∀ v ∈ out, ∃ t, v = Value.ref t := fun v m => by
    obtain ⟨t, e, _⟩ := (hp v (h2.perm.mem_iff.mp m)).2
    exact ⟨t, e⟩
  have hd2 : ∀ v ∈ out, Dp X.K G (backV v) (dT3 (keyT3 s.heap v)) := fun v m => by
    obtain ⟨t, e, z⟩ := (hp v (h2.perm.mem_iff.mp m)).2
    subst e
    exact z
  obtain ⟨n, hn⟩ := hn
  have hj : (out.map (keyT3 s.heap)).Perm js := by
    rw [← ek]
    exact h2.perm.map _
  have hsz : (out.map backV).length ≤ sizeLine := by
    rw [List.length_map, h2.perm.length_eq, ← hlen]
    exact hz
  refine ⟨.ref d, upd H d (.lst (out.map backV)), I.laid (t' := s.toks) kp hd ⟨hsz, out, n, vals_back ho, hn⟩, rfl, q _ _ d (dpa_map3 hd2) hj ?_ (I.hok.fresh hd)⟩
  refine List.pairwise_map.mpr (List.Pairwise.imp (fun {x y} hxy => ?_) h1)
  have z := of_decide_eq_false hxy
  exact Int.not_lt.mp z
end
section
variable {K : PySem.W.Frag} {σ : L2.St} {G H : Hp} {ta tb te tc td : TE} {P : VP}
def STn (K : PySem.W.Frag) (G0 : Hp) (l0 : List T3) : VP := fun v G => ∃ (a : Addr) (xs : List V) (l : List T3), v = .ref a ∧ G0 a = none ∧ G a = some (.lst xs) ∧ l.Perm l0 ∧ l.Pairwise (fun s t => k3 s ≤ k3 t) ∧ DpAll K G xs (l.map dT3)
theorem ef_sort3 {a : Addr} {xs : List V} {js : List T3} (ha : EF ta σ G (XV (.ref a))) (hs : SqL K G a xs) (hx : DpAll K G xs (js.map dT3)) (hi : ∀ s ∈ js, ∀ t ∈ js, k3 s = k3 t → s = t) : EF (tCB (rSort3 K) (tCons ta tNil)) σ G (STn K G js) := fun H e Q q => ha H e _ fun x G1 H1 g1 p => by
  cases (show x = .ref a from p)
  refine ⟨G1, a, xs, js, g1.ok, rfl, Evl.ex_l (g1.up.trans g1.ok) hs, dpax hx g1.up, hi, fun ys js' p2 h1 h2 h3 h4 => ?_⟩
  exact q _ _ _ (g1.trans (.new g1.ok h4)) ⟨p2, ys, js', rfl, none_back (g1.up.trans g1.ok) h4, upd_same, h2, h3, dpax h1 (ex_in (none_back g1.ok h4))⟩
end
theorem sort3_uniq : ∀ {l m : List T3}, (∀ s ∈ l, ∀ t ∈ l, k3 s = k3 t → s = t) → l.Perm m → l.Pairwise (fun s t => k3 s ≤ k3 t) → m.Pairwise (fun s t => k3 s ≤ k3 t) → l = m
  | [], m, _, h, _, _ => (List.Perm.nil_eq h)
  | x :: l, [], _, h, _, _ => absurd h.length_eq (by simp)
  | x :: l, y :: m, hi, h, hl, hm => by
    have e : x = y := by
      have my : y ∈ x :: l := h.mem_iff.mpr (List.mem_cons_self (a := y) (l := m))
      have h1 : x = y ∨ k3 y ≤ k3 x := by
        rcases List.mem_cons.mp (h.mem_iff.mp (List.mem_cons_self (a := x) (l := l))) with e | hx
        · exact .inl e
        · exact .inr ((List.pairwise_cons.mp hm).1 x hx)
      have h2 : y = x ∨ k3 x ≤ k3 y := by
        rcases List.mem_cons.mp my with e | hx
        · exact .inl e
        · exact .inr ((List.pairwise_cons.mp hl).1 y hx)
      rcases h1 with e | h1
      · exact e
      · rcases h2 with e | h2
        · exact e.symm
        · exact hi x (List.mem_cons_self ..) y my (by omega)
    subst e
    rw [sort3_uniq (fun s hs t ht => hi s (List.mem_cons_of_mem _ hs) t (List.mem_cons_of_mem _ ht)) h.cons_inv (List.pairwise_cons.mp hl).2 (List.pairwise_cons.mp hm).2]
end Lw

set_option Elab.async false
set_option linter.all false
set_option maxRecDepth 100000
set_option maxHeartbeats 4000000
/-! what the flanks demand -/
namespace Lw
open PySem L2
open Evl (Ex)
/-- the other of two -/
def oth (l : List Int) (b : Int) : Int := (l.filter fun z => decide (z ≠ b)).headD 0
theorem two_of {l : List Int} {b : Int} (hn : l.Nodup) (h2 : l.length = 2) (hb : b ∈ l) : l.Perm [b, oth l b] ∧ oth l b ≠ b ∧ oth l b ∈ l := by
  match l, h2 with
  | [x, y], _ =>
    have hxy : x ≠ y := by simpa using hn
    rcases List.mem_cons.mp hb with e | hb
    · subst e
      have e1 : oth [b, y] b = y := by
        have : y ≠ b := fun z => hxy z.symm
        simp [oth, this]
      rw [e1]
      exact ⟨.refl _, fun z => hxy z.symm, by simp⟩
    · have e : b = y := by simpa using hb
      subst e
      have e1 : oth [x, b] b = x := by simp [oth, hxy]
      rw [e1]
      exact ⟨.swap _ _ _, hxy, by simp⟩
theorem jok_nd {n : Int} {parks : List Int} {js : List (Int × Int)} (h : JOk n parks js) : ∀ b, (eo js b).Nodup ∧ (wo js b).Nodup ∧ (b ∉ parks → (eo js b).length ≤ 2 ∧ (wo js b).length ≤ 2) := by
  induction h with
  | nil => intro b; exact ⟨.nil, .nil, fun _ => ⟨Nat.zero_le _, Nat.zero_le _⟩⟩
  | snoc hj hn ih =>
    rename_i js w e
    intro b
    obtain ⟨i1, i2, i3⟩ := ih b
    have nd : ∀ {l : List Int} {z : Int}, l.Nodup → z ∉ l → (l ++ [z]).Nodup := fun {l z} h1 h2 => List.nodup_append.mpr ⟨h1, by simp, fun x hx y hy => by
      have e : y = z := by simpa using hy
      rw [e]
      exact fun c => h2 (c ▸ hx)⟩
    have we : w ≠ e := by have := hn.lt; omega
    by_cases c1 : w = b
    · subst c1
      rw [eo_snoc_same, wo_snoc_ne js (fun z => we z.symm)]
      refine ⟨nd i1 (fun m => hn.new (mem_eo.mp m)), i2, fun hp => ⟨?_, (i3 hp).2⟩⟩
      have := hn.ew hp
      have := (i3 hp).1
      rw [List.length_append, List.length_singleton]
      omega
    · rw [eo_snoc_ne js c1]
      by_cases c2 : e = b
      · subst c2
        rw [wo_snoc_same]
        refine ⟨i1, nd i2 (fun m => hn.new ?_), fun hp => ⟨(i3 hp).1, ?_⟩⟩
        · unfold wo at m
          obtain ⟨⟨x, y⟩, hm, ex⟩ := List.mem_map.mp m
          obtain ⟨h1, h2⟩ := List.mem_filter.mp hm
          have h2 := of_decide_eq_true h2
          simp only at ex h2
          subst ex h2
          exact h1
        · have := hn.we hp
          have := (i3 hp).2
          rw [List.length_append, List.length_singleton]
          omega
      · rw [wo_snoc_ne js c2]
        exact ⟨i1, i2, i3⟩
theorem mem_wo {js : List (Int × Int)} {w e : Int} : w ∈ wo js e ↔ (w, e) ∈ js := by
  unfold wo
  rw [List.mem_map]
  constructor
  · rintro ⟨⟨a, b⟩, h, rfl⟩
    obtain ⟨h1, h2⟩ := List.mem_filter.mp h
    have h2 := of_decide_eq_true h2
    subst h2
    exact h1
  · intro h
    exact ⟨(w, e), List.mem_filter.mpr ⟨h, decide_eq_true rfl⟩, rfl⟩
/-- a joint from b to o on the side c -/
def jt (js : List (Int × Int)) (b : Int) (c : Bool) (o : Int) : Prop := if c = true then (b, o) ∈ js else (o, b) ∈ js
theorem mem_ends {js : List (Int × Int)} {b o : Int} {c : Bool} : o ∈ ends js b c ↔ jt js b c o := by
  cases c
  · exact mem_wo
  · exact mem_eo
theorem jt_back {js : List (Int × Int)} {b o : Int} {c : Bool} (h : jt js b c o) : jt js o (!c) b := by
  cases c <;> exact h
theorem ends_nd {n : Int} {parks : List Int} {js : List (Int × Int)} (h : JOk n parks js) (b : Int) (c : Bool) : (ends js b c).Nodup ∧ (b ∉ parks → (ends js b c).length ≤ 2) := by
  obtain ⟨h1, h2, h3⟩ := jok_nd h b
  cases c
  · exact ⟨h2, fun z => (h3 z).2⟩
  · exact ⟨h1, fun z => (h3 z).1⟩
theorem jt_in {n : Int} {parks : List Int} {js : List (Int × Int)} (h : JOk n parks js) {b o : Int} {c : Bool} (hj : jt js b c o) : 0 ≤ o ∧ o < n ∧ 0 ≤ b ∧ b < n := by
  cases c
  · have := h.mem (p := (o, b)) hj
    simp only at this
    omega
  · have := h.mem (p := (b, o)) hj
    simp only at this
    omega
/-- what one demand at a joint asks of a flank -/
def fl1 (parks : List Int) (js : List (Int × Int)) (way : List Int) (t : T3) : List T3 :=
  let o := oth (ends js t.1 t.2.1) t.2.2
  if isPt parks js o (!t.2.1) = true then
    (let a := oth (ends js o (!t.2.1)) t.1
    if o ∉ way ∧ a ∉ way then [(o, !t.2.1, a)] else [])
  else []
def jd3 (parks : List Int) (js : List (Int × Int)) (w e : Int) : List T3 := (if isPt parks js w true = true then [(w, true, e)] else []) ++ (if isPt parks js e false = true then [(e, false, w)] else [])
theorem jd3_want (parks : List Int) (js : List (Int × Int)) (w e : Int) : (jd3 parks js w e).map dT3 = wantD parks js w e := by
  have k1 : (isPt parks js w true = true ↔ (w ∉ parks ∧ (eo js w).length = 2)) := by unfold isPt endN; simp
  have k2 : (isPt parks js e false = true ↔ (e ∉ parks ∧ (wo js e).length = 2)) := by unfold isPt endN; simp
  unfold jd3 wantD
  rw [List.map_append]
  congr 1
  · by_cases c : isPt parks js w true = true
    · rw [if_pos c, if_pos (k1.mp c)]; rfl
    · rw [if_neg c, if_neg fun z => c (k1.mpr z)]; rfl
  · by_cases c : isPt parks js e false = true
    · rw [if_pos c, if_pos (k2.mp c)]; rfl
    · rw [if_neg c, if_neg fun z => c (k2.mpr z)]; rfl
def flD (parks : List Int) (js : List (Int × Int)) (way : List Int) (w e : Int) : List T3 := (jd3 parks js w e).flatMap (fl1 parks js way)
theorem isPt_spec {parks : List Int} {js : List (Int × Int)} {b : Int} {c : Bool} : isPt parks js b c = true ↔ b ∉ parks ∧ (ends js b c).length = 2 := by
  unfold isPt
  rw [← ends_len]
  simp
/-- the demands of a joint: points, and joints there -/
theorem jd3_mem {parks : List Int} {js : List (Int × Int)} {w e : Int} (h : (w, e) ∈ js) {t : T3} (m : t ∈ jd3 parks js w e) : isPt parks js t.1 t.2.1 = true ∧ jt js t.1 t.2.1 t.2.2 := by
  unfold jd3 at m
  rcases List.mem_append.mp m with m | m
  · split at m
    · rename_i c
      have e1 : t = (w, true, e) := by simpa using m
      subst e1
      exact ⟨c, h⟩
    · simp at m
  · split at m
    · rename_i c
      have e1 : t = (e, false, w) := by simpa using m
      subst e1
      exact ⟨c, h⟩
    · simp at m
theorem fl1_len (parks : List Int) (js : List (Int × Int)) (way : List Int) (t : T3) : (fl1 parks js way t).length ≤ 1 ∧ ∀ u ∈ fl1 parks js way t, u.2.1 = !t.2.1 := by
  unfold fl1
  simp only
  split
  · split
    · exact ⟨by simp, fun u hu => by rw [List.mem_singleton.mp hu]⟩
    · exact ⟨by simp, fun u hu => by simp at hu⟩
  · exact ⟨by simp, fun u hu => by simp at hu⟩
theorem flD_two (parks : List Int) (js : List (Int × Int)) (way : List Int) (w e : Int) : ∃ l1 l2 : List T3, flD parks js way w e = l1 ++ l2 ∧ l1.length ≤ 1 ∧ l2.length ≤ 1 ∧ (∀ u ∈ l1, u.2.1 = false) ∧ ∀ u ∈ l2, u.2.1 = true := by
  refine ⟨if isPt parks js w true = true then fl1 parks js way (w, true, e) else [], if isPt parks js e false = true then fl1 parks js way (e, false, w) else [], ?_, ?_, ?_, ?_, ?_⟩
  · unfold flD jd3
    rw [List.flatMap_append]
    congr 1 <;> split <;> simp
  · split
    · exact (fl1_len _ _ _ _).1
    · simp
  · split
    · exact (fl1_len _ _ _ _).1
    · simp
  · split
    · exact (fl1_len _ _ _ _).2
    · simp
  · split
    · exact (fl1_len _ _ _ _).2
    · simp
theorem one_mem {l : List T3} (h : l.length ≤ 1) {s t : T3} (hs : s ∈ l) (ht : t ∈ l) : s = t := by
  match l, h with
  | [], _ => simp at hs
  | [x], _ =>
    have e1 : s = x := by simpa using hs
    have e2 : t = x := by simpa using ht
    rw [e1, e2]
theorem flD_inj (parks : List Int) (js : List (Int × Int)) (way : List Int) (w e : Int) : ∀ s ∈ flD parks js way w e, ∀ t ∈ flD parks js way w e, k3 s = k3 t → s = t := by
  obtain ⟨l1, l2, e1, h1, h2, f1, f2⟩ := flD_two parks js way w e
  rw [e1]
  intro s hs t ht h
  have hk := (k3_eq h).2
  rcases List.mem_append.mp hs with hs | hs <;> rcases List.mem_append.mp ht with ht | ht
  · exact one_mem h1 hs ht
  · rw [f1 s hs, f2 t ht] at hk; cases hk
  · rw [f2 s hs, f1 t ht] at hk; cases hk
  · exact one_mem h2 hs ht
theorem flD_len (parks : List Int) (js : List (Int × Int)) (way : List Int) (w e : Int) : (flD parks js way w e).length ≤ 2 := by
  obtain ⟨l1, l2, e1, h1, h2, _, _⟩ := flD_two parks js way w e
  rw [e1, List.length_append]
  omega

/-! what the law's own rows are -/
def rowW (parks : List Int) (js : List (Int × Int)) (way : List Int) (w e : Int) (p : Int × Int) : List T3 :=
  if p.1 = w ∧ p.2 ≠ e ∧ w ∉ parks ∧ p.2 ∉ parks then js.flatMap (fun q => if q.2 = p.2 ∧ q.1 ≠ w ∧ p.2 ∉ way ∧ q.1 ∉ way then [(p.2, false, q.1)] else []) else []
def rowE (parks : List Int) (js : List (Int × Int)) (way : List Int) (w e : Int) (p : Int × Int) : List T3 :=
  if p.2 = e ∧ p.1 ≠ w ∧ e ∉ parks ∧ p.1 ∉ parks then js.flatMap (fun q => if q.1 = p.1 ∧ q.2 ≠ e ∧ p.1 ∉ way ∧ q.2 ∉ way then [(p.1, true, q.2)] else []) else []
def rows (parks : List Int) (js : List (Int × Int)) (way : List Int) (w e : Int) : List T3 := js.flatMap fun p => rowW parks js way w e p ++ rowE parks js way w e p
theorem fm_eo {js : List (Int × Int)} {w : Int} {F : Int → List T3} : js.flatMap (fun p => if p.1 = w then F p.2 else []) = (eo js w).flatMap F := by
  induction js with
  | nil => rfl
  | cons p js ih =>
    rw [List.flatMap_cons, ih]
    unfold eo
    rw [List.filter_cons]
    by_cases h : p.1 = w
    · rw [if_pos h, if_pos (decide_eq_true h), List.map_cons, List.flatMap_cons]
    · rw [if_neg h, if_neg (by rw [decide_eq_false h]; exact Bool.false_ne_true)]
      rfl
theorem fm_wo {js : List (Int × Int)} {w : Int} {F : Int → List T3} : js.flatMap (fun p => if p.2 = w then F p.1 else []) = (wo js w).flatMap F := by
  induction js with
  | nil => rfl
  | cons p js ih =>
    rw [List.flatMap_cons, ih]
    unfold wo
    rw [List.filter_cons]
    by_cases h : p.2 = w
    · rw [if_pos h, if_pos (decide_eq_true h), List.map_cons, List.flatMap_cons]
    · rw [if_neg h, if_neg (by rw [decide_eq_false h]; exact Bool.false_ne_true)]
      rfl
theorem fm_ite {α : Type} {p q : α → Prop} [DecidablePred p] [DecidablePred q] {F : α → List T3} {l : List α} : l.flatMap (fun x => if p x ∧ q x then F x else []) = l.flatMap (fun x => if p x then (if q x then F x else []) else []) := by
  congr 1
  funext x
  by_cases h : p x
  · by_cases h2 : q x
    · rw [if_pos ⟨h, h2⟩, if_pos h, if_pos h2]
    · rw [if_neg (fun z => h2 z.2), if_pos h, if_neg h2]
  · rw [if_neg (fun z => h z.1), if_neg h]
/-- over the ends: all but b -/
theorem fm_two {l : List Int} {b : Int} {F : Int → List T3} (hn : l.Nodup) (h2 : l.length ≤ 2) (hb : b ∈ l) : l.flatMap (fun z => if z ≠ b then F z else []) = if l.length = 2 then F (oth l b) else [] := by
  match l, h2 with
  | [], _ => simp at hb
  | [x], _ =>
    have e : b = x := by simpa using hb
    subst e
    simp
  | [x, y], _ =>
    have hxy : x ≠ y := by simpa using hn
    rcases List.mem_cons.mp hb with e | hb
    · subst e
      have : y ≠ b := fun z => hxy z.symm
      simp [oth, this]
    · have e : b = y := by simpa using hb
      subst e
      simp [oth, hxy]
theorem fm_perm {α : Type} {F G : α → List T3} : ∀ (l : List α), (l.flatMap fun x => F x ++ G x).Perm (l.flatMap F ++ l.flatMap G)
  | [] => .refl _
  | x :: l => by
    rw [List.flatMap_cons, List.flatMap_cons, List.flatMap_cons]
    have h := fm_perm (F := F) (G := G) l
    have h1 : (F x ++ G x ++ l.flatMap fun x => F x ++ G x).Perm (F x ++ G x ++ (l.flatMap F ++ l.flatMap G)) := h.append_left _
    refine h1.trans ?_
    have e1 : F x ++ G x ++ (l.flatMap F ++ l.flatMap G) = F x ++ (G x ++ l.flatMap F ++ l.flatMap G) := by simp
    have e2 : F x ++ l.flatMap F ++ (G x ++ l.flatMap G) = F x ++ (l.flatMap F ++ G x ++ l.flatMap G) := by simp
    rw [e1, e2]
    exact ((List.perm_append_comm).append_right _).append_left _
theorem fl1_none {parks : List Int} {js : List (Int × Int)} {way : List Int} {b br : Int} {f : Bool} (h : oth (ends js b f) br ∈ parks) : fl1 parks js way (b, f, br) = [] := by
  unfold fl1
  simp only
  rw [if_neg fun z => (isPt_spec.mp z).1 h]
theorem rowsW {n : Int} {parks : List Int} {js : List (Int × Int)} {way : List Int} {w e : Int} (hJ : JOk n parks js) (hj : (w, e) ∈ js) : js.flatMap (rowW parks js way w e) = if isPt parks js w true = true then fl1 parks js way (w, true, e) else [] := by
  by_cases hw : w ∈ parks
  · have e0 : js.flatMap (rowW parks js way w e) = [] := by
      have : rowW parks js way w e = fun _ => [] := by
        funext p
        unfold rowW
        rw [if_neg fun z => z.2.2.1 hw]
      rw [this]
      simp
    rw [e0, if_neg fun z => (isPt_spec.mp z).1 hw]
  · have s1 : js.flatMap (rowW parks js way w e) = (eo js w).flatMap (fun o => if o ≠ e then (if o ∉ parks then (wo js o).flatMap (fun a => if a ≠ w then (if o ∉ way ∧ a ∉ way then [(o, false, a)] else []) else []) else []) else []) := by
      rw [← fm_eo]
      congr 1
      funext p
      unfold rowW
      by_cases c1 : p.1 = w
      · rw [if_pos c1]
        by_cases c2 : p.2 ≠ e
        · rw [if_pos c2]
          by_cases c3 : p.2 ∉ parks
          · rw [if_pos c3, if_pos ⟨c1, c2, hw, c3⟩, ← fm_wo]
            congr 1
            funext q
            by_cases d1 : q.2 = p.2
            · rw [if_pos d1]
              by_cases d2 : q.1 ≠ w
              · rw [if_pos d2]
                by_cases d3 : p.2 ∉ way ∧ q.1 ∉ way
                · rw [if_pos d3, if_pos ⟨d1, d2, d3⟩]
                · rw [if_neg d3, if_neg fun z => d3 z.2.2]
              · rw [if_neg d2, if_neg fun z => d2 z.2.1]
            · rw [if_neg d1, if_neg fun z => d1 z.1]
          · rw [if_neg c3, if_neg fun z => c3 z.2.2.2]
        · rw [if_neg c2, if_neg fun z => c2 z.2.1]
      · rw [if_neg c1, if_neg fun z => c1 z.1]
    have nd := ends_nd hJ w true
    have hb : e ∈ ends js w true := mem_ends.mpr hj
    rw [s1]
    have s2 := fm_two (F := fun o => if o ∉ parks then (wo js o).flatMap (fun a => if a ≠ w then (if o ∉ way ∧ a ∉ way then [((o, false, a) : T3)] else []) else []) else []) nd.1 (nd.2 hw) hb
    refine s2.trans ?_
    by_cases c : (ends js w true).length = 2
    · rw [if_pos c, if_pos (isPt_spec.mpr ⟨hw, c⟩)]
      obtain ⟨_, _, ho⟩ := two_of nd.1 c hb
      unfold fl1
      simp only [Bool.not_true, Bool.not_false]
      generalize oth (ends js w true) e = o at ho
      by_cases c3 : o ∈ parks
      · rw [if_neg (fun z => z c3), if_neg fun z => (isPt_spec.mp z).1 c3]
      · rw [if_pos c3]
        have nd2 := ends_nd hJ o false
        have hb2 : w ∈ ends js o false := mem_ends.mpr (jt_back (mem_ends.mp ho))
        refine (fm_two (F := fun a => if o ∉ way ∧ a ∉ way then [((o, false, a) : T3)] else []) nd2.1 (nd2.2 c3) hb2).trans ?_
        by_cases c4 : (ends js o false).length = 2
        · rw [if_pos c4, if_pos (isPt_spec.mpr ⟨c3, c4⟩)]
        · rw [if_neg c4, if_neg fun z => c4 (isPt_spec.mp z).2]
    · rw [if_neg c, if_neg fun z => c (isPt_spec.mp z).2]
theorem rowsE {n : Int} {parks : List Int} {js : List (Int × Int)} {way : List Int} {w e : Int} (hJ : JOk n parks js) (hj : (w, e) ∈ js) : js.flatMap (rowE parks js way w e) = if isPt parks js e false = true then fl1 parks js way (e, false, w) else [] := by
  by_cases hw : e ∈ parks
  · have e0 : js.flatMap (rowE parks js way w e) = [] := by
      have : rowE parks js way w e = fun _ => [] := by
        funext p
        unfold rowE
        rw [if_neg fun z => z.2.2.1 hw]
      rw [this]
      simp
    rw [e0, if_neg fun z => (isPt_spec.mp z).1 hw]
  · have s1 : js.flatMap (rowE parks js way w e) = (wo js e).flatMap (fun o => if o ≠ w then (if o ∉ parks then (eo js o).flatMap (fun a => if a ≠ e then (if o ∉ way ∧ a ∉ way then [(o, true, a)] else []) else []) else []) else []) := by
      rw [← fm_wo]
      congr 1
      funext p
      unfold rowE
      by_cases c1 : p.2 = e
      · rw [if_pos c1]
        by_cases c2 : p.1 ≠ w
        · rw [if_pos c2]
          by_cases c3 : p.1 ∉ parks
          · rw [if_pos c3, if_pos ⟨c1, c2, hw, c3⟩, ← fm_eo]
            congr 1
            funext q
            by_cases d1 : q.1 = p.1
            · rw [if_pos d1]
              by_cases d2 : q.2 ≠ e
              · rw [if_pos d2]
                by_cases d3 : p.1 ∉ way ∧ q.2 ∉ way
                · rw [if_pos d3, if_pos ⟨d1, d2, d3⟩]
                · rw [if_neg d3, if_neg fun z => d3 z.2.2]
              · rw [if_neg d2, if_neg fun z => d2 z.2.1]
            · rw [if_neg d1, if_neg fun z => d1 z.1]
          · rw [if_neg c3, if_neg fun z => c3 z.2.2.2]
        · rw [if_neg c2, if_neg fun z => c2 z.2.1]
      · rw [if_neg c1, if_neg fun z => c1 z.1]
    have nd := ends_nd hJ e false
    have hb : w ∈ ends js e false := mem_ends.mpr hj
    rw [s1]
    have s2 := fm_two (F := fun o => if o ∉ parks then (eo js o).flatMap (fun a => if a ≠ e then (if o ∉ way ∧ a ∉ way then [((o, true, a) : T3)] else []) else []) else []) nd.1 (nd.2 hw) hb
    refine s2.trans ?_
    by_cases c : (ends js e false).length = 2
    · rw [if_pos c, if_pos (isPt_spec.mpr ⟨hw, c⟩)]
      obtain ⟨_, _, ho⟩ := two_of nd.1 c hb
      unfold fl1
      simp only [Bool.not_true, Bool.not_false]
      generalize oth (ends js e false) w = o at ho
      by_cases c3 : o ∈ parks
      · rw [if_neg (fun z => z c3), if_neg fun z => (isPt_spec.mp z).1 c3]
      · rw [if_pos c3]
        have nd2 := ends_nd hJ o true
        have hb2 : e ∈ ends js o true := mem_ends.mpr (jt_back (mem_ends.mp ho))
        refine (fm_two (F := fun a => if o ∉ way ∧ a ∉ way then [((o, true, a) : T3)] else []) nd2.1 (nd2.2 c3) hb2).trans ?_
        by_cases c4 : (ends js o true).length = 2
        · rw [if_pos c4, if_pos (isPt_spec.mpr ⟨c3, c4⟩)]
        · rw [if_neg c4, if_neg fun z => c4 (isPt_spec.mp z).2]
    · rw [if_neg c, if_neg fun z => c (isPt_spec.mp z).2]
theorem rows_perm {n : Int} {parks : List Int} {js : List (Int × Int)} {way : List Int} {w e : Int} (hJ : JOk n parks js) (hj : (w, e) ∈ js) : (rows parks js way w e).Perm (flD parks js way w e) := by
  unfold rows
  refine (fm_perm js).trans ?_
  have e1 : js.flatMap (fun x => rowW parks js way w e x) = js.flatMap (rowW parks js way w e) := rfl
  have e2 : js.flatMap (fun x => rowE parks js way w e x) = js.flatMap (rowE parks js way w e) := rfl
  rw [e1, e2, rowsW hJ hj, rowsE hJ hj]
  have e3 : flD parks js way w e = (if isPt parks js w true = true then fl1 parks js way (w, true, e) else []) ++ (if isPt parks js e false = true then fl1 parks js way (e, false, w) else []) := by
    unfold flD jd3
    rw [List.flatMap_append]
    congr 1 <;> split <;> simp
  rw [e3]
end Lw

set_option Elab.async false
set_option linter.all false
set_option maxRecDepth 100000
set_option maxHeartbeats 4000000
/-! promises of the flanks -/
namespace Lw
open PySem L2
open Evl (Ex)
section
variable {K : PySem.W.Frag} {C : Addr}
def spOth (K : PySem.W.Frag) (C : Addr) : Sp := fun vs H Q _ => ∃ (G : Hp) (p : Addr) (n : Nat) (parks : List Int) (js : List (Int × Int)) (b : Int) (c : Bool) (br o : Int), Ex G H ∧ vs = [.ref p, .int b, .str (sd c), .int br] ∧ LayAt K C G p n parks js ∧ 0 ≤ b ∧ b < (n : Int) ∧ (ends js b c).Perm [br, o] ∧ o ≠ br ∧ Ret G H (XV (.int o)) Q
theorem sa_oth {G : Hp} {p : Addr} {n : Nat} {parks : List Int} {js : List (Int × Int)} {b : Int} {c : Bool} {br o : Int} (h : LayAt K C G p n parks js) (h0 : 0 ≤ b) (h1 : b < (n : Int)) (hp : (ends js b c).Perm [br, o]) (hn : o ≠ br) : SA (spOth K C) [.ref p, .int b, .str (sd c), .int br] G (XV (.int o)) := fun H e Q _ q => ⟨G, p, n, parks, js, b, c, br, o, e, rfl, h, h0, h1, hp, hn, q⟩
def spFl (K : PySem.W.Frag) (C : Addr) : Sp := fun vs H Q _ => ∃ (G : Hp) (p : Addr) (n : Nat) (parks : List Int) (js : List (Int × Int)) (w e : Int) (f : Bool) (wy : Addr) (way : List Int), Ex G H ∧ vs = [.ref p, .int (if f = true then w else e), .int (if f = true then e else w), .ref wy] ∧ LayAt K C G p n parks js ∧ JOk (n : Int) parks js ∧ (w, e) ∈ js ∧ Dp K G (.ref wy) (dI way) ∧ Ret G H (STn K G (flD parks js way w e)) Q
theorem sa_fl {G : Hp} {p : Addr} {n : Nat} {parks : List Int} {js : List (Int × Int)} {w e : Int} {wy : Addr} {way : List Int} (f : Bool) (h : LayAt K C G p n parks js) (hJ : JOk (n : Int) parks js) (hj : (w, e) ∈ js) (hy : Dp K G (.ref wy) (dI way)) : SA (spFl K C) [.ref p, .int (if f = true then w else e), .int (if f = true then e else w), .ref wy] G (STn K G (flD parks js way w e)) := fun H ex Q _ q => ⟨G, p, n, parks, js, w, e, f, wy, way, ex, rfl, h, hJ, hj, hy, q⟩
/-- a list of these triples, sorted -/
def SW (K : PySem.W.Frag) (l0 : List T3) : VP := fun v G => ∃ l : List T3, l.Perm l0 ∧ l.Pairwise (fun s t => k3 s ≤ k3 t) ∧ Dp K G v (.list (l.map dT3))
theorem mo_SW {l0 : List T3} : Mo (SW K l0) := fun v G G' e ⟨l, h1, h2, h3⟩ => ⟨l, h1, h2, dpx h3 e⟩
def spWant8 (K : PySem.W.Frag) : Sp := fun vs H Q _ => ∃ (G : Hp) (x : V) (t : Trk) (w : Int) (e : Int) (y : V) (way : List Int), Ex G H ∧ vs = [x, .int w, .int e, y] ∧ Dp K G x (dT t) ∧ TrkOk t ∧ (w, e) ∈ t.joints ∧ Dp K G y (dI way) ∧ Ret G H (SW K (flD t.parks t.joints way w e)) Q
theorem sa_want8 {G : Hp} {x y : V} {t : Trk} {w e : Int} {way : List Int} (hx : Dp K G x (dT t)) (ht : TrkOk t) (hj : (w, e) ∈ t.joints) (hy : Dp K G y (dI way)) : SA (spWant8 K) [x, .int w, .int e, y] G (SW K (flD t.parks t.joints way w e)) := fun H ex Q _ q => ⟨G, x, t, w, e, y, way, ex, rfl, hx, ht, hj, hy, q⟩
/-- neighbours of a way are joined -/
def WayOk (js : List (Int × Int)) (way : List Int) : Prop := ∀ (i : Nat) (a b : Int), way[i]? = some a → way[i + 1]? = some b → (a, b) ∈ js ∨ (b, a) ∈ js
def WY (K : PySem.W.Frag) (js : List (Int × Int)) : VP := fun v G => ∃ (a : Addr) (way : List Int), v = .ref a ∧ WayOk js way ∧ way.length ≤ 60 ∧ Dp K G v (dI way)
theorem mo_WY {js : List (Int × Int)} : Mo (WY K js) := fun v G G' e ⟨a, way, h0, h1, h2, h3⟩ => ⟨a, way, h0, h1, h2, dpx h3 e⟩
def spRoute (K : PySem.W.Frag) : Sp := fun vs H Q _ => ∃ (G : Hp) (x : V) (t : Trk) (c : Int), Ex G H ∧ vs = [x, .int c] ∧ Dp K G x (dT t) ∧ TrkOk t ∧ 1 ≤ t.joints.length ∧ Ret G H (WY K t.joints) Q
theorem sa_route {G : Hp} {x : V} {t : Trk} {c : Int} (hx : Dp K G x (dT t)) (ht : TrkOk t) (h1 : 1 ≤ t.joints.length) : SA (spRoute K) [x, .int c] G (WY K t.joints) := fun H ex Q _ q => ⟨G, x, t, c, ex, rfl, hx, ht, h1, q⟩
def spClear (K : PySem.W.Frag) (C : Addr) : Sp := fun vs H Q _ => ∃ (G : Hp) (x : V) (t : Trk) (p y : Addr) (way : List Int), Ex G H ∧ vs = [x, .ref p, .ref y] ∧ Dp K G x (dT t) ∧ TrkOk t ∧ LayAt K C G p t.lens.length t.parks t.joints ∧ WayOk t.joints way ∧ way.length ≤ 60 ∧ Dp K G (.ref y) (dI way) ∧ Ret G H (XV (.bl true)) Q
theorem sa_clear {G : Hp} {x : V} {t : Trk} {p y : Addr} {way : List Int} (hx : Dp K G x (dT t)) (ht : TrkOk t) (hL : LayAt K C G p t.lens.length t.parks t.joints) (hw : WayOk t.joints way) (hl : way.length ≤ 60) (hy : Dp K G (.ref y) (dI way)) : SA (spClear K C) [x, .ref p, .ref y] G (XV (.bl true)) := fun H ex Q _ q => ⟨G, x, t, p, y, way, ex, rfl, hx, ht, hL, hw, hl, hy, q⟩
theorem way_rev {js : List (Int × Int)} {way : List Int} (h : WayOk js way) : WayOk js way.reverse := fun i a b ha hb => by
  have hi := (List.getElem?_eq_some_iff.mp hb).1
  rw [List.length_reverse] at hi
  rw [List.getElem?_reverse (by omega)] at ha hb
  have e : way.length - 1 - i = way.length - 1 - (i + 1) + 1 := by omega
  rw [e] at ha
  exact (h _ _ _ hb ha).symm
end
section
variable {K : PySem.W.Frag} {σ : L2.St} {G G' H H' : Hp} {ta tb te tc td : TE} {P : VP} {D : Ends} {u : TT}
theorem st_asgG {g : TG} (hG : Ex G H) (h : EF te σ G P) (k : ∀ v G' H', Gr G G' H H' → P v G' → g v σ H' D.nx) : tAsg te g D σ H := h H hG _ k
theorem st_forE {ds : List PyData} {tl : TE} {g : TG} {tu : TS} (hG : Ex G H) (h : EF tl σ G (DV K (.list ds)))
    (k : ∀ G1 H1 a xs, Gr G G1 H H1 → SqL K G1 a xs → DpAll K G1 xs ds → ∃ W : Nat → L2.St → Hp → Prop, W 0 σ H1 ∧ (∀ i σ' H', W i σ' H' → Ex G1 H') ∧ (∀ i x σ' H', xs[i]? = some x → W i σ' H' → g x σ' H' fun σ2 H2 => tu { D with nx := W (i + 1), ct := W (i + 1), bk := D.nx } σ2 H2) ∧ ∀ σ' H', W xs.length σ' H' → D.nx σ' H') : tFor (iList K tl) g tu D σ H :=
  h H hG _ fun v G1 H1 g1 hv => by
    obtain ⟨a, xs, rfl, hs, hd⟩ := dp_lst hv
    obtain ⟨W, h0, hl, hs', hd'⟩ := k G1 H1 a xs g1 hs hd
    exact ⟨a, rfl, ⟨xs, Evl.ex_l g1.ok hs⟩, for_list W h0 (fun i σ' H' _ w => Evl.ex_l (hl i σ' H' w) hs) hs' hd'⟩
theorem ex_call4 {sp : Sp} {E : XK} {x y z w : V} {P : VP} (ha : EF ta σ G (XV x)) (hb : EF tb σ G (XV y)) (hc : EF tc σ G (XV z)) (hd : EF td σ G (XV w)) (h : ∀ G', Ex G G' → SA sp [x, y, z, w] G' P) : EF (tCall sp [] E (tCons ta (tCons tb (tCons tc (tCons td tNil))))) σ G P := ef_call (ea_four mo_XV mo_XV mo_XV mo_XV ha hb hc hd) fun vs G' e hv => by
  obtain ⟨a, b, c, d, rfl, pa, pb, pc, pd⟩ := hv
  cases (show a = x from pa)
  cases (show b = y from pb)
  cases (show c = z from pc)
  cases (show d = w from pd)
  exact h G' e
theorem ed_niI {o : Int} {way : List Int} (ha : EF ta σ G (XV (.int o))) (hb : EF tb σ G (DV K (dI way))) : EF (tOp (rNotInD K) ta tb) σ G (BV (· = !decide (o ∈ way))) := (ed_niD (d := .int o) (ds := way.map PyData.int) (EF.dv ha (.int o)) hb (sh_int _) (sh_ints _)).imp fun v _ _ ⟨b, e, hb⟩ => ⟨b, e, by rw [hb, any_int]⟩
theorem sa_askS' {P : List Int → List (Int × Int) → Int → Bool → VP} {C : Addr} {p : Addr} {n : Nat} {parks : List Int} {js : List (Int × Int)} {b : Int} (c : Bool) (h : LayAt K C G p n parks js) (h0 : 0 ≤ b) (h1 : b < (n : Int)) : SA (spAskS K C P) [.ref p, .int b, .str (sd c)] G (P parks js b c) := sa_askS c h h0 h1
theorem dp_t3 {x : V} {t : T3} (h : Dp K G x (dT3 t)) : ∃ a, x = .ref a ∧ SqT K G a [.int t.1, .str (sd t.2.1), .int t.2.2] := by
  obtain ⟨a, ys, rfl, hs, hd⟩ := dp_tup h
  refine ⟨a, rfl, ?_⟩
  cases hd with
  | cons a1 r1 => cases r1 with
    | cons a2 r2 => cases r2 with
      | cons a3 r3 =>
        cases r3
        cases a1
        cases a2
        cases a3
        exact hs
theorem fl1_eq {parks : List Int} {js : List (Int × Int)} {way : List Int} {t : T3} : fl1 parks js way t = (if isPt parks js (oth (ends js t.1 t.2.1) t.2.2) (!t.2.1) = true then (if oth (ends js t.1 t.2.1) t.2.2 ∉ way ∧ oth (ends js (oth (ends js t.1 t.2.1) t.2.2) (!t.2.1)) t.1 ∉ way then [(oth (ends js t.1 t.2.1) t.2.2, !t.2.1, oth (ends js (oth (ends js t.1 t.2.1) t.2.2) (!t.2.1)) t.1)] else []) else []) := rfl
end
end Lw

set_option Elab.async false
set_option linter.all false
set_option maxRecDepth 100000
set_option maxHeartbeats 4000000
/-! rows that a loop over joints makes -/
namespace Lw
open PySem L2
open Evl (Ex)
section
variable {K : PySem.W.Frag} {σ : L2.St} {G G' H H' : Hp} {ta tb te tc td tl : TE} {t u : TT} {P : VP} {D : Ends} {tu : TS}
def RSt (K : PySem.W.Frag) (G H H' : Hp) (q : Addr) (L : List T3) : Prop := ∃ G' vs, Gr G G' H H' ∧ G' q = none ∧ H' q = some (.lst vs) ∧ DpAll K G' vs (L.map dT3)
theorem RSt.ok {H1 : Hp} {q : Addr} {L : List T3} (h : RSt K G H H1 q L) : Ex G H1 := by
  obtain ⟨G', vs, g, _⟩ := h
  exact g.up.trans g.ok
theorem RSt.up {H1 H2 : Hp} {q : Addr} {L : List T3} (h : RSt K G H H1 q L) (e : Ex H1 H2) : RSt K G H H2 q L := by
  obtain ⟨G', vs, g, gq, hq, hd⟩ := h
  exact ⟨G', vs, g.then e, gq, e _ _ hq, hd⟩
theorem st_rows {H1 : Hp} {q a1 : Addr} {xs1 : List V} {js : List (Int × Int)} {g : Int × Int → List T3} {L0 : List T3} {j : Nat} (hR : RSt K G H H1 q L0) (hl : EF tl σ G (XV (.ref a1))) (hx : SqL K G a1 xs1) (hd : DpAll K G xs1 (js.map dP)) (Sg : L2.St → Prop) (h0 : Sg σ)
    (hs : ∀ (k : Nat) (p : Int × Int) (x : V) (σ' : L2.St) (H' : Hp) (D' : Ends), js[k]? = some p → Dp K G x (dP p) → Sg σ' → RSt K G H H' q (L0 ++ (js.take k).flatMap g) → D'.rt = D.rt → (∀ σ2 H2, Sg σ2 → RSt K G H H2 q (L0 ++ (js.take k).flatMap g ++ g p) → D'.nx σ2 H2) → tu D' (σ'.set j (some x)) H')
    (he : ∀ σ' H', Sg σ' → RSt K G H H' q (L0 ++ js.flatMap g) → D.nx σ' H') : tFor (iList K tl) (gName j) tu D σ H1 := by
  have hlen : xs1.length = js.length := by rw [dpa_len hd, List.length_map]
  refine st_forK (xs := xs1) hR.ok hl hx (fun i σ' H' => Sg σ' ∧ RSt K G H H' q (L0 ++ (js.take i).flatMap g)) (fun H' e => ⟨h0, by rw [List.take_zero, List.flatMap_nil, List.append_nil]; exact hR.up e⟩) (fun i σ' H' hw => hw.2.ok) (fun i x σ' H' hi hw => ?_) (fun σ' H' hw => ?_)
  · obtain ⟨d, hd1, dx⟩ := dpa_get hd hi
    rw [List.getElem?_map] at hd1
    obtain ⟨p, hp, rfl⟩ := Option.map_eq_some_iff.mp hd1
    refine hs i p x σ' H' _ hp dx hw.1 hw.2 rfl fun σ2 H2 h1 h2 => ⟨h1, ?_⟩
    rw [take_next hp, List.flatMap_append]
    have e : List.flatMap g [p] = g p := by simp
    rw [e, ← List.append_assoc]
    exact h2
  · rw [hlen, List.take_length] at hw
    exact he σ' H' hw.1 hw.2
theorem st_rapp {H1 : Hp} {q : Addr} {L : List T3} {x : T3} {i : Nat} (hqH : H q = none) (hG : Ex G H) (hR : RSt K G H H1 q L) (hz : L.length < 1000) (ho : σ[i]? = some (some (.ref q))) (h : ∀ G', Ex G G' → EF te σ G' fun v G2 => Dp K G2 v (dT3 x)) (k : ∀ H2, RSt K G H H2 q (L ++ [x]) → D.nx σ H2) : tDrop (tBM K "list" rAppend (tVar i) (tCons te tNil)) D σ H1 := by
  obtain ⟨G', vs, g, gq, hq, hd⟩ := hR
  refine st_app (P := fun v G2 => Dp K G2 v (dT3 x)) g.ok hq (ex_var ho) (h G' g.up) (by rw [dpa_len hd, List.length_map]; exact hz) fun v Gb Hb gb pv => k _ ?_
  have gbq : Gb q = none := gb.2.2.2 q (ne_none_of hq) gq
  refine ⟨Gb, vs ++ [v], (g.trans gb).put hqH gbq, gbq, upd_same, ?_⟩
  rw [List.map_append]
  exact dpa_snoc (dpax hd gb.up) pv
/-- a triple of ints and a side -/
theorem ef_t3 {a b : Int} {f : Bool} {s : Str} (hs : s = sd f) (ha : EF ta σ G (XV (.int a))) (hb : EF tb σ G (XV (.str s))) (hc : EF tc σ G (XV (.int b))) : EF (tTup (tCons ta (tCons tb (tCons tc tNil)))) σ G fun v G2 => Dp K G2 v (dT3 (a, f, b)) := by
  subst hs
  exact ef_tup (ea_three mo_XV mo_XV mo_XV ha hb hc) (fun vs G' ⟨x, y, z, ev, _⟩ => by rw [ev]; simp) fun p2 vs G' _ _ _ ⟨x, y, z, ev, hx, hy, hz⟩ => dp_mkT upd_same (by rw [ev, hx, hy, hz]; exact .cons (.int _) (.cons (.str _) (.cons (.int _) .nil)))
theorem et_andB {a b : Bool} (h1 : ET t σ G (· = a)) (h2 : ET u σ G (· = b)) : ET (tAnd t u) σ G (· = (a && b)) := et_and (p := (· = a)) (q := (· = b)) h1 (fun _ => h2) (fun h c hc => by rw [← h, hc]; rfl) (fun h => by rw [← h]; rfl)
theorem et_eqI {a b : Int} (ha : EF ta σ G (XV (.int a))) (hb : EF tb σ G (XV (.int b))) : ET (tTest (tOp rEq ta tb)) σ G (· = decide (a = b)) := et_test (ei_eq (EF.iv ha) (EF.iv hb) fun x y hx hy => by rw [hx, hy])
theorem et_neI {a b : Int} (ha : EF ta σ G (XV (.int a))) (hb : EF tb σ G (XV (.int b))) : ET (tTest (tOp rNe ta tb)) σ G (· = !decide (a = b)) := et_test (ei_ne (EF.iv ha) (EF.iv hb) fun x y hx hy => by rw [hx, hy])
theorem et_niI {a : Int} {way : List Int} (ha : EF ta σ G (XV (.int a))) (hb : EF tb σ G (DV K (dI way))) : ET (tTest (tOp (rNotInD K) ta tb)) σ G (· = !decide (a ∈ way)) := et_test (ed_niI ha hb)
theorem ep0 {j : Nat} {v : V} {q : Int × Int} (h : σ[j]? = some (some v)) (hv : Dp K G v (dP q)) : EF (tOp (rIxT K) (tVar j) (tC (.int 0))) σ G (XV (.int q.1)) := ei_pair (i := 0) (ex_var h) hv ex_c rfl
theorem ep1 {j : Nat} {v : V} {q : Int × Int} (h : σ[j]? = some (some v)) (hv : Dp K G v (dP q)) : EF (tOp (rIxT K) (tVar j) (tC (.int 1))) σ G (XV (.int q.2)) := ei_pair (i := 1) (ex_var h) hv ex_c rfl
theorem and4 {p q r s : Prop} [Decidable p] [Decidable q] [Decidable r] [Decidable s] : (decide p && (!decide q && (!decide r && !decide s))) = decide (p ∧ ¬ q ∧ ¬ r ∧ ¬ s) := by
  by_cases h1 : p <;> by_cases h2 : q <;> by_cases h3 : r <;> by_cases h4 : s <;> simp [h1, h2, h3, h4]
end
theorem rows_len {n : Int} {parks : List Int} {js : List (Int × Int)} {way : List Int} {w e : Int} (hJ : JOk n parks js) (hj : (w, e) ∈ js) {L rest : List T3} (h : L ++ rest = rows parks js way w e) : L.length ≤ 2 := by
  have h1 := (rows_perm (way := way) hJ hj).length_eq
  have h2 := flD_len parks js way w e
  rw [← h, List.length_append] at h1
  omega
theorem fm_cut {g : Int × Int → List T3} {js : List (Int × Int)} {k : Nat} {p : Int × Int} (h : js[k]? = some p) : (js.take k).flatMap g ++ (g p ++ (js.drop (k + 1)).flatMap g) = js.flatMap g := by
  conv => rhs; rw [← List.take_append_drop (k + 1) js, take_next h]
  rw [List.flatMap_append, List.flatMap_append]
  simp
theorem rows_cut (parks : List Int) (js : List (Int × Int)) (way : List Int) (w e : Int) {k : Nat} {p : Int × Int} (h : js[k]? = some p) : (js.take k).flatMap (fun p => rowW parks js way w e p ++ rowE parks js way w e p) ++ (rowW parks js way w e p ++ rowE parks js way w e p ++ (js.drop (k + 1)).flatMap (fun p => rowW parks js way w e p ++ rowE parks js way w e p)) = rows parks js way w e :=
  fm_cut (g := fun p => rowW parks js way w e p ++ rowE parks js way w e p) h
end Lw

set_option Elab.async false
set_option linter.all false
set_option maxRecDepth 100000
set_option maxHeartbeats 4000000
/-! ways -/
namespace Lw
open PySem L2
open Evl (Ex)
/-- without what is known of q -/
def dropA (G : Hp) (q : Addr) : Hp := fun a => if a = q then none else G a
theorem dropA_ne {G : Hp} {q a : Addr} (h : a ≠ q) : dropA G q a = G a := if_neg h
theorem dropA_same {G : Hp} {q : Addr} : dropA G q q = none := if_pos rfl
theorem Gr.forget {G' Gn H' H2 : Hp} {q : Addr} {o : HO} (g : Gr (upd G' q o) Gn H' H2) (gq : G' q = none) : Gr G' (dropA Gn q) H' H2 := by
  refine ⟨fun a u h => ?_, fun a u h => ?_, g.hp, fun a h ga => ?_⟩
  · have n : a ≠ q := fun z => by rw [z, gq] at h; cases h
    rw [dropA_ne n]
    exact g.up a u (by rw [upd_ne n]; exact h)
  · have n : a ≠ q := fun z => by rw [z, dropA_same] at h; cases h
    rw [dropA_ne n] at h
    exact g.ok a u h
  · by_cases n : a = q
    · rw [n]; exact dropA_same
    · rw [dropA_ne n]
      exact g.2.2.2 a h (by rw [upd_ne n]; exact ga)
theorem wayok_two {js : List (Int × Int)} {p : Int × Int} (h : p ∈ js) : WayOk js [p.1, p.2] := fun i a b ha hb => by
  match i with
  | 0 =>
    have e1 : p.1 = a := by simpa using ha
    have e2 : p.2 = b := by simpa using hb
    subst e1 e2
    exact .inl h
  | i + 1 => simp at hb
theorem wayok_snoc {js : List (Int × Int)} {ns : List Int} {w m : Int} (h : WayOk js ns) (hw : ns[ns.length - 1]? = some w) (hm : (w, m) ∈ js) : WayOk js (ns ++ [m]) := fun i a b ha hb => by
  have hl := (List.getElem?_eq_some_iff.mp hw).1
  by_cases c : i + 1 < ns.length
  · rw [List.getElem?_append_left (by omega)] at ha
    rw [List.getElem?_append_left c] at hb
    exact h i a b ha hb
  · have hb2 := (List.getElem?_eq_some_iff.mp hb).1
    rw [List.length_append, List.length_singleton] at hb2
    have e : i = ns.length - 1 := by omega
    rw [List.getElem?_append_left (by omega), e, hw] at ha
    rw [List.getElem?_append_right (by omega)] at hb
    have e2 : i + 1 - ns.length = 0 := by omega
    rw [e2] at hb
    have e3 : m = b := by simpa using hb
    have e4 : w = a := Option.some.inj ha
    subst e3 e4
    exact .inl hm
section
variable {K : PySem.W.Frag} {σ : L2.St} {G G' H H' : Hp} {ta tb te tc td tl : TE} {t u : TT} {P : VP} {D : Ends} {tu : TS}
theorem ea_ci {tr : TA} {z : Int} {rest : List V} (h : EA tr σ G fun vs _ => vs = rest) : EA (tCons (tC (.int z)) tr) σ G fun vs _ => vs = .int z :: rest := ea_cons (Pa := XV (.int z)) mo_XV (fun vs G G' e h => h) ex_c h fun x xs G' _ hx hr => by rw [show x = _ from hx, hr]
theorem ef_sortE {R : List Int → Prop} (ha : EF ta σ G fun v G' => ∃ (p : Addr) (ns : List Int), v = .ref p ∧ G' p = some (.lst (ns.map V.int)) ∧ R ns) : EF (tCB (rSortedI K) (tCons ta tNil)) σ G fun v G' => ∃ (p : Addr) (ns : List Int), v = .ref p ∧ G p = none ∧ G' p = some (.lst (ns.map V.int)) ∧ ∃ ns0, ns.Perm ns0 ∧ R ns0 := fun H e Q q => ha H e _ fun x G1 H1 g1 ⟨p, ns, ev, hp, hR⟩ =>
  ⟨p, ns, by rw [ev], Evl.sq_of (g1.ok _ _ hp), fun ns' p2 h1 _ h3 => q _ _ _ (g1.trans (.new g1.ok h3)) ⟨p2, ns', rfl, none_back (g1.up.trans g1.ok) h3, upd_same, ns, h1, hR⟩⟩
theorem ex_neg {z : Int} : EF (tUn (rU fun i => .int (-i)) (tC (.int z))) σ G (XV (.int (-z))) := fun H e Q q => ⟨z, rfl, q _ _ _ (.refl e) rfl⟩
theorem atI_last {xs : List V} {v : V} (h : xs[xs.length - 1]? = some v) : atI xs (-1) = some v := by
  have hl := (List.getElem?_eq_some_iff.mp h).1
  unfold atI ixN
  rw [if_neg (by omega), if_pos (by omega)]
  show xs[((-1 : Int) + (xs.length : Int)).toNat]? = some v
  have e : ((-1 : Int) + (xs.length : Int)).toNat = xs.length - 1 := by omega
  rw [e]
  exact h
theorem ex_ixLast {a : Addr} {xs : List V} {v : V} (ha : EF ta σ G (XV (.ref a))) (hb : EF tb σ G (XV (.int (-1)))) (hs : SqL K G a xs) (hv : xs[xs.length - 1]? = some v) : EF (tOp (rIxL K) ta tb) σ G (XV v) :=
  ef_op mo_XV mo_XV ha hb fun x y G' e1 pa pb => by
    cases (show x = .ref a from pa)
    cases (show y = .int (-1) from pb)
    exact fun H e Q k => ⟨a, xs, -1, v, rfl, rfl, Evl.ex_l (e1.trans e) hs, atI_last hv, k v G' H (.refl e) rfl⟩
theorem ef_lstRev {a : Addr} {xs : List V} (ha : EF ta σ G (XV (.ref a))) (hs : SqL K G a xs) : EF (tLstRev K ta) σ G fun v G' => ∃ p, v = .ref p ∧ G p = none ∧ G' p = some (.lst xs.reverse) := fun H e Q q => ha H e _ fun x G1 H1 g1 p => by
  cases (show x = .ref a from p)
  exact ⟨a, xs, rfl, Evl.ex_l (g1.up.trans g1.ok) hs, fun p2 h2 => q _ _ _ (g1.trans (.new g1.ok h2)) ⟨p2, rfl, none_back (g1.up.trans g1.ok) h2, upd_same⟩⟩
theorem st_forRE {j : Nat} {N : Int} {ta : TA} (hG : Ex G H) (h : EA ta σ G fun vs _ => ∃ z : Int, vs = [.int z] ∧ 0 ≤ z ∧ z ≤ N) (hN : N ≤ 100000) (W : Nat → L2.St → Hp → Prop) (h0 : ∀ H', Ex H H' → W 0 σ H')
    (hs : ∀ (i : Nat) σ' H', (i : Int) < N → W i σ' H' → tu { D with nx := W (i + 1), ct := W (i + 1), bk := D.nx } (σ'.set j (some (.int (i : Int)))) H') (hd : ∀ (i : Nat) σ' H', (i : Int) ≤ N → W i σ' H' → D.nx σ' H') : tFor (iRng1 ta) (gName j) tu D σ H :=
  h H hG _ fun vs G1 H1 g1 ⟨z, ev, hz⟩ => ⟨z, ev, by omega, by omega, for_range (lo := 0) (n := z.toNat) W (h0 H1 g1.hp) (fun i σ' H' hi p => by
    have e0 : (0 : Int) + (i : Int) = (i : Int) := Int.zero_add _
    show tu { D with nx := W (i + 1), ct := W (i + 1), bk := D.nx } (σ'.set j (some (.int ((0 : Int) + (i : Int))))) H'
    rw [e0]
    exact hs i σ' H' (by omega) p) fun σ' H' p => hd z.toNat σ' H' (by omega) p⟩
end
end Lw

set_option Elab.async false
set_option linter.all false
set_option maxRecDepth 100000
set_option maxHeartbeats 4000000
/-! for the law of the flanks -/
namespace Lw
open PySem L2
open Evl (Ex)
theorem eqv_ints : ∀ l : List Int, PyData.eqvAll (l.map PyData.int) (l.map PyData.int) = true
  | [] => by simp [PyData.eqvAll]
  | z :: zs => by simp [PyData.eqvAll, PyData.eqv, eqv_ints zs]
theorem eqv_dI (l : List Int) : PyData.eqv (dI l) (dI l) = true := by
  simp only [dI, PyData.eqv]
  exact eqv_ints l
theorem ok_t3s {l : List T3} (h : l.length ≤ 1000) : Okd 2 (.list (l.map dT3)) := by
  unfold Okd
  refine ⟨by rw [List.length_map]; exact h, fun d m => ?_⟩
  obtain ⟨p, _, rfl⟩ := List.mem_map.mp m
  exact ok_tr _ _ _
theorem Gr.unput {G G' H H' : Hp} {q : Addr} {o : HO} (g : Gr G (upd G' q o) H H') (gq : G q = none) (gq' : G' q = none) : Gr G G' H H' := by
  refine ⟨fun a u h => ?_, fun a u h => ?_, g.hp, fun a h ga => ?_⟩
  · have n : a ≠ q := fun z => by rw [z, gq] at h; cases h
    have := g.up a u h
    rwa [upd_ne n] at this
  · have n : a ≠ q := fun z => by rw [z, gq'] at h; cases h
    exact g.ok a u (by rw [upd_ne n]; exact h)
  · by_cases n : a = q
    · rw [n]; exact gq'
    · have := g.2.2.2 a h ga
      rwa [upd_ne n] at this
def rMaxI : List V → Hp → VK → Prop := fun xs H Q => ∃ i j, xs = [.int i, .int j] ∧ Q (.int (if j > i then j else i)) H
section
variable {K : PySem.W.Frag} {σ : L2.St} {G G' H H' : Hp} {ta tb te tc td tl : TE} {t u : TT} {P : VP} {D : Ends} {tu : TS}
theorem ex_add {a b : Int} (ha : EF ta σ G (XV (.int a))) (hb : EF tb σ G (XV (.int b))) : EF (tOp (rI0 fun i j => .int (i + j)) ta tb) σ G (XV (.int (a + b))) := ef_op mo_XV mo_XV ha hb fun x y G' _ hx hy => by
  cases (show x = _ from hx)
  cases (show y = _ from hy)
  exact ro_I0 rfl
theorem ex_min {a b z : Int} (ha : EF ta σ G (XV (.int a))) (hb : EF tb σ G (XV (.int b))) (hz : (if b < a then b else a) = z) : EF (tCB rMinI (tCons ta (tCons tb tNil))) σ G (XV (.int z)) := fun H e Q k => (ea_two mo_XV mo_XV ha hb) H e _ fun vs G1 H1 g1 ⟨x, y, ev, hx, hy⟩ =>
  ⟨a, b, by rw [ev, show x = _ from hx, show y = _ from hy], by rw [hz]; exact k _ G1 H1 g1 rfl⟩
theorem ex_max {a b z : Int} (ha : EF ta σ G (XV (.int a))) (hb : EF tb σ G (XV (.int b))) (hz : (if b > a then b else a) = z) : EF (tCB rMaxI (tCons ta (tCons tb tNil))) σ G (XV (.int z)) := fun H e Q k => (ea_two mo_XV mo_XV ha hb) H e _ fun vs G1 H1 g1 ⟨x, y, ev, hx, hy⟩ =>
  ⟨a, b, by rw [ev, show x = _ from hx, show y = _ from hy], by rw [hz]; exact k _ G1 H1 g1 rfl⟩
theorem et_neW {way : List Int} (ha : EF ta σ G (DV K (dI way))) (hb : EF tb σ G (DV K (dI way))) : ET (tTest (tOp (rNeD K) ta tb)) σ G (· = false) := et_test (ef_op mo_DV mo_DV ha hb fun x y G' _ hx hy => fun H e Q k => ⟨_, _, dpx hx e, dpx hy e, sh_ints _, sh_ints _, k _ G' H (.refl e) ⟨_, rfl, by rw [eqv_dI]; rfl⟩⟩)
/-- the answer that is wanted -/
theorem et_fl {a8 : Addr} {v6 : V} {xs8 : List V} {l6 l8 L : List T3} {i8 i6 i7 i2 : Nat} {p7 y : Addr} {way : List Int} (h8 : σ[i8]? = some (some (.ref a8))) (h6 : σ[i6]? = some (some v6)) (h7 : σ[i7]? = some (some (.ref p7))) (h2 : σ[i2]? = some (some (.ref y)))
    (q8 : G a8 = some (.lst xs8)) (d8 : DpAll K G xs8 (l8.map dT3)) (p8 : l8.Perm L) (s8 : l8.Pairwise fun s t => k3 s ≤ k3 t) (d6 : Dp K G v6 (.list (l6.map dT3))) (p6 : l6.Perm L) (s6 : l6.Pairwise fun s t => k3 s ≤ k3 t) (hi : ∀ s ∈ L, ∀ t ∈ L, k3 s = k3 t → s = t) (hl : L.length ≤ 2)
    (d7 : Dp K G (.ref p7) (dI way)) (d2 : Dp K G (.ref y) (dI way)) : ET (tOr (tNot (tB (tCall (spSame K 2) [] E0 (tCons (tVar i8) (tCons (tVar i6) tNil))))) (tTest (tOp (rNeD K) (tVar i7) (tVar i2)))) σ G (· = false) := by
  have e : l8 = l6 := sort3_uniq (fun s hs t ht => hi s (p8.mem_iff.mp hs) t (p8.mem_iff.mp ht)) (p8.trans p6.symm) s8 s6
  subst e
  refine et_or (p := (· = false)) (q := (· = false)) (et_not (et_B (EF.bl (ex_call2 (P := XV (.bl true)) (ex_var h8) (ex_var h6) fun G' e' => sa_same (dpx (dp_mkL q8 d8) e') (dpx d6 e') (ok_t3s (by rw [p8.length_eq]; omega))) rfl))) (fun _ => et_neW (EF.dv (ex_var h7) d7) (EF.dv (ex_var h2) d2)) (fun z => nomatch z) (fun _ b hb => hb)
end
end Lw

set_option Elab.async false
set_option linter.all false
set_option maxRecDepth 100000
set_option maxHeartbeats 4000000
/-! errors that are raised -/
namespace Lw
open PySem L2
open Evl (Ex)
/-- a new error of the class at C with these fields is let out -/
def Rse (C : Addr) (fs : List (Str × V)) (G H : Hp) (E : XK) : Prop := ∀ G' H' d, Gr G G' H H' → H' d = none → E (.ref C) (some d) (upd H' d (.xd fs))
/-- an own __init__ that stores one field -/
def spIni1 (C : Addr) (f : Str) : Sp := fun vs H Q _ => ∃ (a : Addr) (y : V), vs = [.ref a, y] ∧ H a = some (exo a C none) ∧ ∀ d, H d = none → d ≠ a → Q .non (upd (upd H d (exd d [(f, y)])) a (exo a C (some d)))
/-- what an own error class must have -/
structure Err (P : Program) (w : World) (K : PySem.W.Frag) (mg : Str → Option Value) (base : Heap) (x : Str) (C fI : Addr) (fd : FuncData) (ps : List Str) (sp : Sp) : Prop where
  cls : OexC K C
  xf : XfC K C
  ini : PySem.W.findIn K (.ref C) "__init__" = some (some (.ref fI))
  tI : PySem.W.typeIn K (.ref fI) = some (.type "function")
  fn : FnOk P w K mg base CX0 1 fI fd ps sp
  bnd : Binds K fd ps []
  gl : mg x = some (.ref C)
section
variable {K : PySem.W.Frag} {C : Addr}
theorem heap_new {H1 : Hp} {a d : Addr} {o1 o2 o3 o4 : HO} (ha : H1 a = none) (hn : d ≠ a) : upd (del (upd (upd (upd H1 a o1) d o2) a o3) a) d o4 = upd H1 d o4 := by
  funext b
  by_cases e : b = d
  · rw [e, upd_same, upd_same]
  · rw [upd_ne e, upd_ne e]
    by_cases e2 : b = a
    · rw [e2, del_same, ha]
    · rw [del_ne e2, upd_ne e2, upd_ne e, upd_ne e2]
/-- raise C(e) -/
theorem mk_one {σ : L2.St} {G H : Hp} {te : TE} {f : Str} {y : V} {Q : XK} (hG : Ex G H) (h : EF te σ G (XV y)) (k : ∀ G' H' d, Gr G G' H H' → H' d = none → Q (.ref C) (some d) (upd H' d (.xd [(f, y)]))) : tMkO C (spIni1 C f) [] (tCons te tNil) σ H Q :=
  (ea_one h) H hG _ fun vs G1 H1 g1 ⟨x, ev, hx⟩ => by
    subst ev
    rw [show x = y from hx]
    refine ⟨by simp, fun a ha => ⟨a, y, rfl, upd_same, fun d hd hn => ⟨rfl, d, [(f, y)], upd_same, ?_, ?_, ?_⟩⟩⟩
    · rw [upd_ne hn]
      exact upd_same
    · rw [upd_ne hn] at hd
      exact hd
    · rw [heap_new ha hn]
      rw [upd_ne hn] at hd
      exact k G1 H1 d g1 hd
/-- a new list of these ints, sorted -/
def PLs (K : PySem.W.Frag) (l0 : List Int) : VP := fun v G => ∃ l : List Int, l.Perm l0 ∧ l.Pairwise (· ≤ ·) ∧ Dp K G v (dI l)
def sEast (K : PySem.W.Frag) : Nat → List Int → List (Int × Int) → Int → VP := fun _ _ js b => PLs K (eo js b)
def sWest (K : PySem.W.Frag) : Nat → List Int → List (Int × Int) → Int → VP := fun _ _ js b => PLs K (wo js b)
def sBranch (K : PySem.W.Frag) : List Int → List (Int × Int) → Int → Bool → VP := fun _ js b c => PLs K (ends js b c)
theorem pls_nl {js : List (Int × Int)} {b : Int} {c : Bool} {v : V} {G : Hp} (h : PLs K (ends js b c) v G) : NL K (endN js b c) v G := by
  obtain ⟨l, h1, _, h2⟩ := h
  exact ⟨l, by rw [h1.length_eq, ends_len], h2⟩
/-- check_block, with its error -/
def spCheckX (C CN : Addr) : Sp := fun vs H Q E => ∃ (G : Hp) (p : Addr) (n : Int) (b : Int), Ex G H ∧ vs = [.ref p, .int b] ∧ SizeAt C G p n ∧ (0 ≤ b ∧ b < n → Ret G H (XV .non) Q) ∧ (¬ (0 ≤ b ∧ b < n) → Rse CN [("block", .int b)] G H E)
theorem sa_checkX {CN : Addr} {G : Hp} {p : Addr} {n b : Int} (h : SizeAt C G p n) (h0 : 0 ≤ b) (h1 : b < n) : SA (spCheckX C CN) [.ref p, .int b] G (XV .non) := fun H e Q _ q => ⟨G, p, n, b, e, rfl, h, fun _ => q, fun z => absurd ⟨h0, h1⟩ z⟩
/-- the questions of a whole layout, with their error -/
def spAskX (K : PySem.W.Frag) (C CN : Addr) (P : Nat → List Int → List (Int × Int) → Int → VP) : Sp := fun vs H Q E => ∃ (G : Hp) (p : Addr) (n : Nat) (parks : List Int) (js : List (Int × Int)) (b : Int), Ex G H ∧ vs = [.ref p, .int b] ∧ LayAt K C G p n parks js ∧ (0 ≤ b ∧ b < (n : Int) → Ret G H (P n parks js b) Q) ∧ (¬ (0 ≤ b ∧ b < (n : Int)) → Rse CN [("block", .int b)] G H E)
theorem sa_askX {CN : Addr} {P : Nat → List Int → List (Int × Int) → Int → VP} {G : Hp} {p : Addr} {n : Nat} {parks : List Int} {js : List (Int × Int)} {b : Int} (h : LayAt K C G p n parks js) (h0 : 0 ≤ b) (h1 : b < (n : Int)) : SA (spAskX K C CN P) [.ref p, .int b] G (P n parks js b) := fun H e Q _ q => ⟨G, p, n, parks, js, b, e, rfl, h, fun _ => q, fun z => absurd ⟨h0, h1⟩ z⟩
end
/-- o.m(e, ..) where what is raised is wished for at the caller's slots -/
def tMethX (C : Addr) (m : Str) (sp : Sp) (dvs : List V) (E : L2.St → XK) (ta : TE) (t : TA) : TE := fun σ H Q => ta σ H fun x H1 => ∃ a dx fs, x = .ref a ∧ H1 a = some (.ins C dx fs) ∧ fs.lookup m = none ∧ t σ H1 fun vs H2 => sp (x :: (vs ++ dvs)) H2 Q (E σ)
section
variable {X : Cx} {CX : CXT} {k : Nat} {f C : Addr} {fd : FuncData} {ps : List Str} {sp : Sp} {dvs : List V} {ds : List Value} {E : L2.St → XK} {m : Str} {apos pos : Pos} {e o : Expr} {es : List Expr} {ta : TE} {t : TA}
theorem pe_methX {pl : Sem Bool} (he : PE X o ta) (c : Cls X.K C) (hm : Meth X.K C m f) (F : FnOk X.prog X.w X.K X.mg X.base CX k f fd ps sp) (hr : Room k X.A) (hb : Binds X.K fd ps ds) (hd : Vals dvs ds) (hx : ∀ σ, PassesAt CX X σ (E σ)) (ha : PA X (e :: es) t)
    (hst : starEach (e :: es) X.env = (false, eval e X.env) :: starEach es X.env := by rfl) (hpl : (backTo pos (starEach es X.env)).any (·.1) = false := by rfl)
    (ht : eval (.Call (.Attribute o m apos) (e :: es) [] pos) X.env = (do
      let ov ← eval o X.env
      standAt apos.atName
      let (f, first) ← holding [ov] (getMethod ov m pl)
      callWith pos f first (backTo pos (starEach (e :: es) X.env)) (backToKw pos (keywordEach [] X.env))) := by rfl) :
    PE X (.Call (.Attribute o m apos) (e :: es) [] pos) (tMethX C m sp dvs E ta t) := by
  refine ⟨fun pins s σ H Q I h => ?_⟩
  refine PySem.W.methodCall_KW (pl := pl) (thn (he.run pins s σ H _ I h) fun u s1 ⟨x, H1, I1, rx, a, dx, fs, ex, ea, l, q⟩ => ?_) ht
  subst ex
  obtain rfl : u = Value.ref a := rx
  refine getmeth_ok I1 ea c hm l ?_
  refine PySem.W.callWith_K (first := [.ref a]) (h₀ := X.base) I.ok.mod.kin hm.kp (thn (ha.run pos pins s1 σ H1 _ I1 q) fun us s2 ⟨vs, H2, I2, r, q2⟩ => ⟨I2.kIn, ?_⟩) hst hpl
  exact run_fnSD (us := .ref a :: us) (vs := .ref a :: vs) F hr hb hd (hx σ) I2 (.cons rfl r) q2
end
section
variable {K : PySem.W.Frag} {σ : L2.St} {G G' H H' : Hp} {ta tb te : TE} {P : VP} {D : Ends}
/-- a call that returns or lets an error out -/
def EX (te : TE) (σ : L2.St) (G : Hp) (P : VP) (B : Hp → Hp → Prop) : Prop := ∀ H, Ex G H → B G H → ∀ Q : VK, (∀ v G' H', Gr G G' H H' → P v G' → Q v H') → te σ H Q
theorem Rse.up {CN : Addr} {fs : List (Str × V)} {E : XK} {G0 G1 H0 H1 : Hp} (h : Rse CN fs G0 H0 E) (g : Gr G0 G1 H0 H1) : Rse CN fs G1 H1 E := fun G' H' d g' hd => h G' H' d (g.trans g') hd
/-- a call whose arguments are evaluated: sp is asked at what is known then -/
theorem st_callX {sp : Sp} {dvs : List V} {E : L2.St → XK} {ta : TA} {R : List V → Hp → Prop} {Q : VK} (hG : Ex G H) (h : EA ta σ G R) (k : ∀ vs G' H', Gr G G' H H' → R vs G' → sp (vs ++ dvs) H' Q (E σ)) : tCallSD sp dvs E ta σ H Q := h H hG _ fun vs G1 H1 g1 p1 => k vs G1 H1 g1 p1
/-- check_block(self, block) as a statement -/
theorem st_checkX {C CN p : Addr} {b n : Int} {E : L2.St → XK} (hG : Ex G H) (ha : EF ta σ G (XV (.ref p))) (hb : EF tb σ G (XV (.int b))) (hs : SizeAt C G p n) (k0 : 0 ≤ b ∧ b < n → ∀ H', Ex H H' → D.nx σ H') (k1 : ¬ (0 ≤ b ∧ b < n) → Rse CN [("block", .int b)] G H (E σ)) :
    tDrop (tCallSD (spCheckX C CN) [] E (tCons ta (tCons tb tNil))) D σ H := by
  unfold tDrop tCallSD
  refine (ea_two mo_XV mo_XV ha hb) H hG _ fun vs G1 H1 g1 ⟨x, y, ev, hx, hy⟩ => ?_
  subst ev
  rw [show x = _ from hx, show y = _ from hy]
  exact ⟨G1, p, n, b, g1.ok, rfl, hs.ex g1.up, fun h v G2 H2 g2 _ => k0 h H2 (g1.hp.trans g2.hp), fun h => (k1 h).up g1⟩
/-- return o.m(e), let errors out -/
theorem st_retM1 {C a : Addr} {m : Str} {sp : Sp} {E : L2.St → XK} {to : TE} {y : V} (hG : Ex G H) (ho : EF to σ G (XV (.ref a))) (hI : ∃ dx fs, G a = some (.ins C dx fs) ∧ fs.lookup m = none) (hb : EF tb σ G (XV y)) (k : ∀ G' H', Gr G G' H H' → sp [.ref a, y] H' (fun v H2 => D.rt v H2) (E σ)) :
    tRet (tMethX C m sp [] E to (tCons tb tNil)) D σ H := ho H hG _ fun x G1 H1 g1 p1 => by
  obtain ⟨dx, fs, h1, h2⟩ := hI
  cases (show x = .ref a from p1)
  refine ⟨a, dx, fs, rfl, g1.hp _ _ (hG _ _ h1), h2, ea_one hb H1 (hG.trans g1.hp) _ fun vs G2 H2 g2 ⟨z, ev, hz⟩ => ?_⟩
  subst ev
  rw [show z = y from hz]
  exact k G2 H2 (g2.low g1.hp)
end
/-- branches, with its error -/
def spAskSX (K : PySem.W.Frag) (C CN : Addr) (P : List Int → List (Int × Int) → Int → Bool → VP) : Sp := fun vs H Q E => ∃ (G : Hp) (p : Addr) (n : Nat) (parks : List Int) (js : List (Int × Int)) (b : Int) (c : Bool), Ex G H ∧ vs = [.ref p, .int b, .str (sd c)] ∧ LayAt K C G p n parks js ∧ (0 ≤ b ∧ b < (n : Int) → Ret G H (P parks js b c) Q) ∧ (¬ (0 ≤ b ∧ b < (n : Int)) → Rse CN [("block", .int b)] G H E)
theorem sa_askSX {K : PySem.W.Frag} {C CN : Addr} {P : List Int → List (Int × Int) → Int → Bool → VP} {G : Hp} {p : Addr} {n : Nat} {parks : List Int} {js : List (Int × Int)} {b : Int} (c : Bool) (h : LayAt K C G p n parks js) (h0 : 0 ≤ b) (h1 : b < (n : Int)) : SA (spAskSX K C CN P) [.ref p, .int b, .str (sd c)] G (P parks js b c) := fun H e Q _ q => ⟨G, p, n, parks, js, b, c, e, rfl, h, fun _ => q, fun z => absurd ⟨h0, h1⟩ z⟩
section
variable (P : Program) (w : World) (K : PySem.W.Frag) (mg : Str → Option Value) (base : Heap)
def CalX (x : Str) (k : Nat) (ps : List Str) (sp : Sp) : Prop := ∃ f fd, FnOk P w K mg base (L2.CX P w) k f fd ps sp ∧ mg x = some (.ref f) ∧ PySem.W.keepIn K (.ref f) = true ∧ Binds K fd ps []
def CalMX (C : Addr) (m : Str) (k : Nat) (ps : List Str) (sp : Sp) : Prop := ∃ f fd, FnOk P w K mg base (L2.CX P w) k f fd ps sp ∧ Meth K C m f ∧ Binds K fd ps []
end
end Lw

set_option Elab.async false
set_option linter.all false
set_option maxRecDepth 100000
set_option maxHeartbeats 4000000
/-! isinstance of a caught error that has fields -/
namespace Lw
open PySem L2
open Evl (Ex)
theorem call_isD {X : Cx} {a D dd : Addr} {oe : Obj} {pn : List (Addr × Obj)} (C : ExcC X.K D) (hz : Zc (.ref D) (some dd) oe) (hf : ∃ vs, oe.data = .fields vs) : CallR (X.suite a ((a, oe) :: pn)) (.builtin "isinstance") fun xs H Q => (∃ fs, H dd = some (.xd fs)) ∧ rIsE X.K D a xs H Q := by
  intro pins s σ H xs us Q I r h
  obtain ⟨⟨fs, hd⟩, c, cv, b, rfl, hcv, e, q⟩ := h
  obtain ⟨u, v, rfl, rx, rt⟩ := vals2 r
  cases (show u = Value.ref a from rx)
  have ec := hcv _ rt
  subst ec
  obtain ⟨hget, _⟩ := I.pin (a, oe) (List.mem_append.mpr (.inl List.mem_cons_self))
  have hx : ObjOk X.prog X.w H s.heap dd (.xd fs) := I.hok dd _ hd
  obtain ⟨mA, hns, _⟩ := hx
  obtain ⟨od, ho, _⟩ := lookIn_ns hns
  obtain ⟨vs, hv⟩ := hf
  have J : PySem.W.InstAt s.heap a oe D (some od) := ⟨hget, hz.1, by unfold PySem.W.notCls; rw [hv] <;> rfl, by rw [hz.2]; exact ho⟩
  have hcl : (PySem.W.clsIn X.K D).isSome = true := by
    obtain ⟨cd, hc, _⟩ := PySem.W.any_some C.hd
    rw [hc]
    rfl
  exact PySem.W.kia_one (PySem.W.kitx_exc hcl C.hg C.hk C.hs C.ha C.hn C.ht C.hm) I.kIn J e (fun z => nomatch z) fun tk => ⟨.bl b, H, I.kept (t' := tk) fun _ _ z => z, rfl, q⟩
end Lw

set_option Elab.async false
set_option linter.all false
set_option maxRecDepth 100000
set_option maxHeartbeats 4000000
/-! o.m(.., k = v): a method called with keywords, errors let out at the caller's slots -/
namespace Lw
open PySem L2
open Evl (Ex)
def tMethKX (C : Addr) (m : Str) (sp : Sp) (gV : List V → List V → List V) (E : L2.St → XK) (ta : TE) (t tk : TA) : TE := fun σ H Q => ta σ H fun x H1 => ∃ a dx fs, x = .ref a ∧ H1 a = some (.ins C dx fs) ∧ fs.lookup m = none ∧ t σ H1 fun vs H2 => tk σ H2 fun zs H3 => sp (gV (x :: vs) zs) H3 Q (E σ)
section
variable {X : Cx} {CX : CXT} {k : Nat} {f C : Addr} {fd : FuncData} {ps ks : List Str} {sp : Sp} {E : L2.St → XK} {m : Str} {apos pos : Pos} {e o : Expr} {es : List Expr} {kws : List Keyword} {ta : TE} {t tk : TA} {g : List Value → List Value → List Value} {gV : List V → List V → List V}
theorem run_kwX {pins : List (Addr × Obj)} {σ : L2.St} {H : Hp} {s : Shared} {Q : VK} {us ws : List Value} {vs zs : List V} (F : FnOk X.prog X.w X.K X.mg X.base CX k f fd ps sp) (hr : Room k X.A) (hb : KBinds X.K fd ps ks g gV) (hx : PassesAt CX X σ (E σ)) (I : Inv X pins σ H s) (r : Vals vs us) (rz : Vals zs ws) (h : sp (gV vs zs) H Q (E σ)) :
    wpAny (model X.prog X.w) X.A (call (.ref f) us (ks.zip ws)) (EP X pins σ Q) X.xe s := by
  have both := hb.rel r rz
  have many : (g us ws).length = ps.length := both.length.symm.trans (F.len _ _ _ _ h)
  have run := F.run X.A X.stack s H ⟨us, ks.zip ws⟩ (g us ws) (gV vs zs) Q (E σ) hr I.env0 (hb.to s us ws I.kIn many) both h
  refine wpAny_call (codeAny_mono run fun r s' q => ?_)
  match r, q with
  | .error er, q => exact hx pins H s er s' I q
  | .ok (.ret u), q => exact I.after q
  | .ok .next, q => exact q.elim
  | .ok .brk, q => exact q.elim
  | .ok .cont, q => exact q.elim
theorem pe_methKX {pl : Sem Bool} (he : PE X o ta) (c : Cls X.K C) (hm : Meth X.K C m f) (F : FnOk X.prog X.w X.K X.mg X.base CX k f fd ps sp) (hr : Room k X.A) (hb : KBinds X.K fd ps ks g gV) (hx : ∀ σ, PassesAt CX X σ (E σ)) (ha : PA X (e :: es) t) (hkw : PK X kws tk)
    (hall : (backToKw pos (keywordEach kws X.env)).all (·.1.isSome) = true := by rfl) (hks : (backToKw pos (keywordEach kws X.env)).filterMap (·.1) = ks := by rfl) (hst : starEach (e :: es) X.env = (false, eval e X.env) :: starEach es X.env := by rfl)
    (hpl : ((backTo pos (starEach (e :: es) X.env)).any (·.1) || (backToKw pos (keywordEach kws X.env)).any (·.1.isNone)) = false := by rfl)
    (ht : eval (.Call (.Attribute o m apos) (e :: es) kws pos) X.env = (do
      let ov ← eval o X.env
      standAt apos.atName
      let (f, first) ← holding [ov] (getMethod ov m pl)
      callWith pos f first (backTo pos (starEach (e :: es) X.env)) (backToKw pos (keywordEach kws X.env))) := by rfl) :
    PE X (.Call (.Attribute o m apos) (e :: es) kws pos) (tMethKX C m sp gV E ta t tk) := by
  refine ⟨fun pins s σ H Q I h => ?_⟩
  refine PySem.W.methodCall_KW (pl := pl) (thn (he.run pins s σ H _ I h) fun u s1 ⟨x, H1, I1, rx, a, dx, fs, ex, ea, l, q⟩ => ?_) ht
  subst ex
  cases (show u = Value.ref a from rx)
  refine getmeth_ok I1 ea c hm l (PySem.W.callWith_KW (first := [.ref a]) (h₀ := X.base) I.ok.mod.kin hm.kp hall (thn (ha.run pos pins s1 σ H1 _ I1 q) fun us s2 ⟨vs, H2, I2, r, q2⟩ => ?_) hpl hst)
  refine thn (hkw.run pos pins s2 σ H2 _ I2 q2) fun ws s3 ⟨zs, H3, I3, rz, q3⟩ => ⟨I3.kIn, ?_⟩
  rw [hks]
  exact run_kwX (us := .ref a :: us) (vs := .ref a :: vs) F hr hb (hx σ) I3 (.cons rfl r) rz q3
theorem pe_methKX0 {pl : Sem Bool} (he : PE X o ta) (c : Cls X.K C) (hm : Meth X.K C m f) (F : FnOk X.prog X.w X.K X.mg X.base CX k f fd ps sp) (hr : Room k X.A) (hb : KBinds X.K fd ps ks g gV) (hx : ∀ σ, PassesAt CX X σ (E σ)) (hkw : PK X kws tk)
    (hall : (backToKw pos (keywordEach kws X.env)).all (·.1.isSome) = true := by rfl) (hks : (backToKw pos (keywordEach kws X.env)).filterMap (·.1) = ks := by rfl)
    (hpl : ((backTo pos (starEach [] X.env)).any (·.1) || (backToKw pos (keywordEach kws X.env)).any (·.1.isNone)) = false := by rfl)
    (ht : eval (.Call (.Attribute o m apos) [] kws pos) X.env = (do
      let ov ← eval o X.env
      standAt apos.atName
      let (f, first) ← holding [ov] (getMethod ov m pl)
      callWith pos f first (backTo pos (starEach [] X.env)) (backToKw pos (keywordEach kws X.env))) := by rfl) :
    PE X (.Call (.Attribute o m apos) [] kws pos) (tMethKX C m sp gV E ta tNil tk) := by
  refine ⟨fun pins s σ H Q I h => ?_⟩
  refine PySem.W.methodCall_KW (pl := pl) (thn (he.run pins s σ H _ I h) fun u s1 ⟨x, H1, I1, rx, a, dx, fs, ex, ea, l, q⟩ => ?_) ht
  subst ex
  cases (show u = Value.ref a from rx)
  refine getmeth_ok I1 ea c hm l (PySem.W.callWith_KW0 (first := [.ref a]) (h₀ := X.base) I.ok.mod.kin hm.kp hall (thn (hkw.run pos pins s1 σ H1 _ I1 q) fun ws s3 ⟨zs, H3, I3, rz, q3⟩ => ⟨I3.kIn, ?_⟩) hpl)
  rw [hks]
  exact run_kwX (us := [.ref a]) (vs := [.ref a]) F hr hb (hx σ) I3 (.cons rfl .nil) rz q3
end
end Lw

set_option Elab.async false
set_option linter.all false
set_option maxRecDepth 100000
set_option maxHeartbeats 4000000
/-! the suite of an except clause, read by what is known -/
namespace Lw
open PySem L2
open Evl (Ex)
/-- isinstance(e, c), e the caught error: its class cls, its dict d -/
def rIsX (K : PySem.W.Frag) (D a : Addr) (cls : Value) (d : Option Addr) : List V → Hp → VK → Prop := fun xs H Q => cls = .ref D ∧ ∃ dd fs, d = some dd ∧ H dd = some (.xd fs) ∧ rIsE K D a xs H Q
theorem call_isX {X : Cx} {a D : Addr} {cls : Value} {d : Option Addr} {oe : Obj} {pn : List (Addr × Obj)} (C : ExcC X.K D) (hz : Zc cls d oe) (hf : ∃ vs, oe.data = .fields vs) : CallR (X.suite a ((a, oe) :: pn)) (.builtin "isinstance") (rIsX X.K D a cls d) := by
  intro pins s σ H xs us Q I r h
  obtain ⟨rfl, dd, fs, rfl, hd, h⟩ := h
  exact call_isD C hz hf pins s σ H xs us Q I r ⟨⟨fs, hd⟩, h⟩
section
variable {K : PySem.W.Frag} {σ : L2.St} {G H : Hp} {te tc : TE} {D : Ends}
theorem ef_xf {a C d : Addr} {fs : List (Str × V)} {f : Str} {v : V} (h : EF te σ G (XV (.ref a))) (hd : G d = some (.xd fs)) (hl : fs.lookup f = some v) : EF (tXf a (.ref C) (some d) C f te) σ G (XV v) := fun H e Q q => h H e _ fun x G1 H1 g1 p =>
  ⟨p, rfl, d, fs, v, rfl, g1.hp _ _ (e _ _ hd), hl, q v G1 H1 g1 rfl⟩
theorem ef_isX {a C d : Addr} {fs : List (Str × V)} {c : V} {cv : Value} {b : Bool} (h : EF te σ G (XV (.ref a))) (hd : G d = some (.xd fs)) (hc : EF tc σ G (XV c)) (hv : ∀ u, RelV c u → u = cv) (hk : PySem.W.kitOne K (.ref C) cv = some b) : EF (tCB (rIsX K C a (.ref C) (some d)) (tCons te (tCons tc tNil))) σ G (XV (.bl b)) :=
  fun H e Q q => (ea_two mo_XV mo_XV h hc) H e _ fun vs G1 H1 g1 ⟨x, y, ev, hx, hy⟩ => ⟨rfl, d, fs, rfl, g1.hp _ _ (e _ _ hd), c, cv, b, by rw [ev, show x = _ from hx, show y = _ from hy], hv, hk, q _ G1 H1 g1 rfl⟩
/-- an error that the clause takes -/
theorem was_takes {cls c : Value} {d : Option Addr} {i : Nat} {ts : Addr → Value → Option Addr → TS} {Wout : WX} (hx : PySem.W.exmOne K cls c = some true)
    (k : ∀ a, H a = none → ts a cls d { nx := fun σ' H' => D.nx (List.set σ' i none) H', rt := D.rt, bk := fun σ' H' => D.bk (List.set σ' i none) H', ct := fun σ' H' => D.ct (List.set σ' i none) H' } (List.set σ i (some (.ref a))) H) : wAs K c i ts Wout D cls d σ H :=
  ⟨true, hx, fun _ => k, fun z => nomatch z⟩
/-- what is let out when it is a clause's -/
theorem rse_was {C : Addr} {c : Value} {fs : List (Str × V)} {i : Nat} {ts : Addr → Value → Option Addr → TS} {Wout : WX} (hx : PySem.W.exmOne K (.ref C) c = some true)
    (k : ∀ G' H' d a, Gr G G' H H' → H' d = none → (upd H' d (.xd fs)) a = none → ts a (.ref C) (some d) { nx := fun σ' H' => D.nx (List.set σ' i none) H', rt := D.rt, bk := fun σ' H' => D.bk (List.set σ' i none) H', ct := fun σ' H' => D.ct (List.set σ' i none) H' } (List.set σ i (some (.ref a))) (upd H' d (.xd fs))) :
    Rse C fs G H (WE (wAs K c i ts Wout D) σ) := fun G' H' d g hd => was_takes hx fun a ha => k G' H' d a g hd ha
end
end Lw

set_option Elab.async false
set_option linter.all false
set_option maxRecDepth 100000
set_option maxHeartbeats 4000000
/-! sameness of data with None, True, False in them -/
namespace Lw
open PySem L2
open Evl (Ex)
/-- data whose sameness is asked: depth at most n -/
def Okb : Nat → PyData → Prop
  | _, .none => True
  | _, .bool _ => True
  | _, .int _ => True
  | _, .str _ => True
  | n + 1, .list ds => ds.length ≤ 1000 ∧ ∀ d ∈ ds, Okb n d
  | n + 1, .tuple ds => ds.length ≤ 1000 ∧ ∀ d ∈ ds, Okb n d
  | _, _ => False
theorem okb_cases {n : Nat} {d : PyData} (h : Okb n d) : d = .none ∨ (∃ b, d = .bool b) ∨ ∃ k, kiOf d = some k := by
  cases d with
  | none => exact .inl rfl
  | bool b => exact .inr (.inl ⟨b, rfl⟩)
  | int z => exact .inr (.inr ⟨_, rfl⟩)
  | str z => exact .inr (.inr ⟨_, rfl⟩)
  | list z => exact .inr (.inr ⟨_, rfl⟩)
  | tuple z => exact .inr (.inr ⟨_, rfl⟩)
  | _ => cases n <;> exact h.elim
def spSameB (K : PySem.W.Frag) (n : Nat) : Sp := fun vs H Q _ => ∃ (G : Hp) (x : V) (y : V) (d : PyData), Ex G H ∧ vs = [x, y] ∧ Dp K G x d ∧ Dp K G y d ∧ Okb n d ∧ Ret G H (XV (.bl true)) Q
theorem sa_sameB {K : PySem.W.Frag} {G : Hp} {x y : V} {d : PyData} {n : Nat} (hx : Dp K G x d) (hy : Dp K G y d) (ho : Okb n d) : SA (spSameB K n) [x, y] G (XV (.bl true)) := fun H e Q _ q => ⟨G, x, y, d, e, rfl, hx, hy, ho, q⟩
end Lw

set_option Elab.async false
set_option linter.all false
set_option maxRecDepth 100000
set_option maxHeartbeats 4000000
/-! a layout whose lengths are told too -/
namespace Lw
open PySem L2
open Evl (Ex)
section
variable {K : PySem.W.Frag} {C : Addr}
def LayL (K : PySem.W.Frag) (C : Addr) (G : Hp) (p : Addr) (lens : List Int) (parks : List Int) (js : List (Int × Int)) : Prop := LayAt K C G p lens.length parks js ∧ ∃ dx fs l, G p = some (.ins C dx fs) ∧ fs.lookup ("_lengths" : Str) = some (.ref l) ∧ Dp K G (.ref l) (dI lens)
theorem LayL.ex {G G' : Hp} {p : Addr} {lens parks : List Int} {js : List (Int × Int)} (h : LayL K C G p lens parks js) (e : Ex G G') : LayL K C G' p lens parks js := by
  obtain ⟨h1, dx, fs, l, h2, h3, h4⟩ := h
  exact ⟨h1.ex e, dx, fs, l, e _ _ h2, h3, dpx h4 e⟩
def spInitL (K : PySem.W.Frag) (C : Addr) : Sp := fun vs H Q _ => ∃ (G : Hp) (x dx : Addr) (lens : List Int) (js : List (Int × Int)) (parks : List Int) (a1 a2 a3 : Addr), vs = [.ref x, .ref a1, .ref a2, .ref a3] ∧ Ex G H ∧ G x = none ∧ H x = some (.ins C dx []) ∧
  Dp K G (.ref a1) (dI lens) ∧ Dp K G (.ref a2) (dPs js) ∧ Dp K G (.ref a3) (dI parks) ∧ lens.length ≤ 200 ∧ (∀ z ∈ lens, 1 ≤ z) ∧ (∀ b ∈ parks, 0 ≤ b ∧ b < (lens.length : Int)) ∧ JOk (lens.length : Int) parks js ∧ js.length ≤ 900 ∧
  ∀ G' H', Gr G G' (outH H x) H' → LayL K C G' x lens parks js → Q .non H'
/-- length_of, with its error -/
def spLenX (K : PySem.W.Frag) (C CN : Addr) : Sp := fun vs H Q E => ∃ (G : Hp) (p : Addr) (lens parks : List Int) (js : List (Int × Int)) (b : Int), Ex G H ∧ vs = [.ref p, .int b] ∧ LayL K C G p lens parks js ∧ (∀ z, 0 ≤ b → lens[b.toNat]? = some z → Ret G H (XV (.int z)) Q) ∧ (¬ (0 ≤ b ∧ b < (lens.length : Int)) → Rse CN [("block", .int b)] G H E)
/-- joined, with its errors -/
def spJoinX (K : PySem.W.Frag) (C CN : Addr) : Sp := fun vs H Q E => ∃ (G : Hp) (p : Addr) (n : Nat) (parks : List Int) (js : List (Int × Int)) (b o : Int), Ex G H ∧ vs = [.ref p, .int b, .int o] ∧ LayAt K C G p n parks js ∧ (0 ≤ b ∧ b < (n : Int) → 0 ≤ o ∧ o < (n : Int) → Ret G H (XV (.bl (decide ((b, o) ∈ js)))) Q) ∧
  (¬ (0 ≤ b ∧ b < (n : Int)) → Rse CN [("block", .int b)] G H E) ∧ (0 ≤ b ∧ b < (n : Int) → ¬ (0 ≤ o ∧ o < (n : Int)) → Rse CN [("block", .int o)] G H E)
end
end Lw

set_option Elab.async false
set_option linter.all false
set_option maxRecDepth 100000
set_option maxHeartbeats 4000000
/-! the program's small defs, with their errors -/
namespace Kx
open PySem L2 Lw
open Evl (Ex)
def top (i : Nat) : Stmt := PySem.Challenge.pw_railhouse_k20_releases_of_a_train.main.body.getD i (.Pass ⟨0, 0, 0, 0⟩)
abbrev s_NoBlock_init : Stmt := inClass (top 4) 0
theorem sc_NoBlock_init : FnScope ["self", "block"] ["self", "block"] (defScope s_NoBlock_init) := ⟨rfl, rfl, rfl, by decide +kernel, rfl, by decide +kernel, by decide +kernel⟩
abbrev s_Layout_contains : Stmt := inClass (top 9) 3
theorem sc_Layout_contains : FnScope ["self", "block"] ["self", "block"] (defScope s_Layout_contains) := ⟨rfl, rfl, rfl, by decide +kernel, rfl, by decide +kernel, by decide +kernel⟩
abbrev s_check_block : Stmt := top 10
theorem sc_check_block : FnScope ["layout", "block"] ["layout", "block"] (defScope s_check_block) := ⟨rfl, rfl, rfl, by decide +kernel, rfl, by decide +kernel, by decide +kernel⟩
abbrev s_Layout_branches : Stmt := inClass (top 9) 8
theorem sc_Layout_branches : FnScope ["self", "block", "side"] ["self", "block", "side"] (defScope s_Layout_branches) := ⟨rfl, rfl, rfl, by decide +kernel, rfl, by decide +kernel, by decide +kernel⟩
abbrev s_Layout_east_of : Stmt := inClass (top 9) 6
theorem sc_Layout_east_of : FnScope ["self", "block"] ["self", "block"] (defScope s_Layout_east_of) := ⟨rfl, rfl, rfl, by decide +kernel, rfl, by decide +kernel, by decide +kernel⟩
abbrev s_Layout_west_of : Stmt := inClass (top 9) 7
theorem sc_Layout_west_of : FnScope ["self", "block"] ["self", "block"] (defScope s_Layout_west_of) := ⟨rfl, rfl, rfl, by decide +kernel, rfl, by decide +kernel, by decide +kernel⟩
abbrev s_Layout_joined : Stmt := inClass (top 9) 9
theorem sc_Layout_joined : FnScope ["self", "west", "east"] ["self", "west", "east"] (defScope s_Layout_joined) := ⟨rfl, rfl, rfl, by decide +kernel, rfl, by decide +kernel, by decide +kernel⟩
abbrev s_check_blocks : Stmt := top 11
theorem sc_check_blocks : FnScope ["layout", "blocks", "block"] ["layout", "blocks"] (defScope s_check_blocks) := ⟨rfl, rfl, rfl, by decide +kernel, rfl, by decide +kernel, by decide +kernel⟩
abbrev s_Layout_length_of : Stmt := inClass (top 9) 4
theorem sc_Layout_length_of : FnScope ["self", "block"] ["self", "block"] (defScope s_Layout_length_of) := ⟨rfl, rfl, rfl, by decide +kernel, rfl, by decide +kernel, by decide +kernel⟩
section
variable {P : Program} {w : World} {K : PySem.W.Frag} {mg : Str → Option Value} {base : Heap} {C CN : Addr} {f : Addr} {fd : FuncData}
theorem ok_nb (T : OexC K C) (hno : PySem.W.findIn K (.ref C) "block" = some none) (F : Fun K "__init__" "NoBlock.__init__" s_NoBlock_init f fd) : FnOk P w K mg base CX0 1 f fd ["self", "block"] (spIni1 C "block") := by
  refine F.ok sc_NoBlock_init (fun vs H Q E h => ?_) (fun cdv A outer s H vs Q E hr h => ?_)
  · obtain ⟨a, y, rfl, _⟩ := h
    rfl
  · obtain ⟨a, y, rfl, ha, k⟩ := h
    refine ⟨_, pss_one (ps_ost (pv 0) (pv 1)), ?_⟩
    exact ⟨_, rfl, _, rfl, a, C, rfl, T, hno, .inl ⟨ha, fun d hd hn => k d hd hn⟩⟩
theorem ok_contains (T : Cl K C) (F : Fun K "__contains__" "Layout.__contains__" s_Layout_contains f fd) : FnOk P w K mg base CX0 1 f fd ["self", "block"] (spContains C) := by
  refine F.ok sc_Layout_contains (fun vs H Q E h => ?_) (fun cdv A outer s H vs Q E hr h => ?_)
  · obtain ⟨G, p, n, b, _, rfl, _⟩ := h
    rfl
  · obtain ⟨G, p, n, b, hG, rfl, ⟨dx, fs, hp, hs⟩, k⟩ := h
    refine ⟨_, (pss_one (ps_ret (pe_chain op_le op_lt pe_int (pv 1) (pe_fld (pv 0) rfl)))), ?_⟩
    refine st_ret (P := BV (· = decide (0 ≤ b ∧ b < n))) hG (ef_chain (p := (· = decide (0 ≤ b))) (q := (· = decide (b < n))) mo_XV mo_XV mo_XV ex_c (ex_var rfl) (ef_fld (P := XV (.int n)) (ex_var rfl) hp T.cl T.size hs rfl) (fun x y G' hx hy => ?_) (fun _ x y G' hx hy => ?_) (fun h c hc => ?_) (fun h => ?_)) (fun v G' H' g p => k v G' H' g (by obtain ⟨z, rfl, rfl⟩ := p; rfl))
    · cases (show x = .int 0 from hx)
      cases (show y = .int b from hy)
      exact ro_I0 ⟨_, rfl, rfl⟩
    · cases (show x = .int b from hx)
      cases (show y = .int n from hy)
      exact ro_I0 ⟨_, rfl, rfl⟩
    · have h0 := of_decide_eq_true h.symm
      rw [hc]
      by_cases q : b < n
      · rw [decide_eq_true q, decide_eq_true ⟨h0, q⟩]
      · rw [decide_eq_false q, decide_eq_false fun z => q z.2]
    · have h0 := of_decide_eq_false h.symm
      exact (decide_eq_false fun z => h0 z.1).symm
theorem ok_check_block {fN : Addr} {fdN : FuncData} (Z_NoBlock : Err P w K mg base "NoBlock" CN fN fdN ["self", "block"] (spIni1 CN "block")) (F : Fun K "check_block" "check_block" s_check_block f fd) (Cc : CalM P w K mg base C "__contains__" 1 ["self", "block"] (spContains C)) : FnOk P w K mg base (L2.CX P w) 3 f fd ["layout", "block"] (spCheckX C CN) := by
  obtain ⟨f1, fd1, G_contains, M_contains, b_contains⟩ := Cc
  refine F.okX sc_check_block (fun vs H Q E h => ?_) (fun cdv A outer s H vs Q E hr h => ?_)
  · obtain ⟨G, p, n, b, _, rfl, _⟩ := h
    rfl
  · obtain ⟨G, p, n, b, hG, rfl, hs, k0, k1⟩ := h
    refine ⟨_, (pss_one (ps_if (pt_cmpR (op_notInOwn M_contains G_contains (hr.mono (by decide)) b_contains pass0) (pv 1) (pv 0) (by rfl))
 (pss_one (ps_raise rfl (takes_of rfl rfl rfl rfl) (pmk_oex Z_NoBlock.cls Z_NoBlock.ini Z_NoBlock.tI Z_NoBlock.fn (hr.mono (by decide)) Z_NoBlock.bnd .nil pass0 (by rfl) Z_NoBlock.gl (pa_cons (pv 1) pa_nil)))) pss_nil)), ?_⟩
    refine st_if (p := (· = !decide (0 ≤ b ∧ b < n))) hG (et_test (eb_notIn (a := p) (x := .int b) (b := decide (0 ≤ b ∧ b < n)) (ex_var rfl) (ex_var rfl) (by obtain ⟨dx, fs, a, _⟩ := hs; exact ⟨dx, fs, a⟩) (fun G' e H e' Q _ q => ⟨G', p, n, b, e', rfl, hs.ex e, q⟩) rfl)) (fun h H' e => ?_) (fun h H' e => ?_)
    · have hb : ¬ (0 ≤ b ∧ b < n) := fun z => by rw [decide_eq_true z] at h; cases h
      exact mk_one (hG.trans e) (ex_var (v := .int b) rfl) fun G' H2 d g hd => k1 hb G' H2 d ((Gr.same hG e).trans g) hd
    · have hb : 0 ≤ b ∧ b < n := Classical.byContradiction fun z => by rw [decide_eq_false z] at h; cases h
      exact k0 hb _ G H' (.same hG e) rfl
theorem ok_east_of (T : Cl K C) (B : Blt mg) (F : Fun K "east_of" "Layout.east_of" s_Layout_east_of f fd) (Cc : CalX P w K mg base "check_block" 3 ["layout", "block"] (spCheckX C CN)) : FnOk P w K mg base (L2.CX P w) 4 f fd ["self", "block"] (spAskX K C CN (sEast K)) := by
  obtain ⟨f1, fd1, G_check_block, m_check_block, k_check_block, b_check_block⟩ := Cc
  have m_list := B.list
  refine F.okX sc_Layout_east_of (fun vs H Q E h => ?_) (fun cdv A outer s H vs Q E hr h => ?_)
  · obtain ⟨G, p, n, parks, js, b, _, rfl, _⟩ := h
    rfl
  · obtain ⟨G, p, n, parks, js, b, hG, rfl, hL, k0, k1⟩ := h
    refine ⟨_, (pss_cons (ps_expr (pe_callSD G_check_block (hr.mono (by decide)) rfl m_check_block k_check_block b_check_block .nil (fun σ => passAt (takes_of rfl rfl rfl rfl) σ) (pa_cons (pv 0) (pa_cons (pv 1) pa_nil))))
 (pss_one (ps_ret (pe_callTy call_list_of (by rfl) m_list (by decide +kernel) (pa_cons (pe_ix ix_list (pe_fld (pv 0) rfl) (pv 1) (fun _ _ => rfl)) pa_nil))))), ?_⟩
    refine st_checkX hG (ex_var (v := .ref p) rfl) (ex_var (v := .int b) rfl) hL.size (fun ⟨h0, h1⟩ H2 g => ?_) k1
    obtain ⟨dx, fs, l, ym, e, wa, ess, wss, hp, hf, hm, he, hw, s1, s2⟩ := hL
    obtain ⟨j, rfl⟩ : ∃ j : Nat, b = (j : Int) := ⟨b.toNat, by omega⟩
    obtain ⟨x, hx, _, hx2, hx3⟩ := s1.get (b := j) (by omega)
    refine st_ret (P := fun v G' => ∃ p2 xs, v = .ref p2 ∧ G p2 = none ∧ G' p2 = some (.lst xs) ∧ DpAll K G' xs (x.map PyData.int)) (hG.trans g) (ed_list (ed_ixL (q := (· = (j : Int))) (P := DV K (dI x)) (EF.dv (ef_fld (P := XV (.ref e)) (ex_var rfl) hp T.cl T.east hf.east rfl) he) (EF.iv (ex_var rfl)) fun i ei => ?_)) (fun v' G2 H3 g2 p2 => k0 ⟨h0, h1⟩ v' G2 H3 ((Gr.same hG g).trans g2) ?_)
    · subst ei
      exact ⟨j, dI x, rfl, by rw [List.getElem?_map, hx]; rfl, fun v G' d => d⟩
    · obtain ⟨q, xs, rfl, _, hq, hd⟩ := p2
      exact ⟨x, hx2, hx3, dp_mkL hq hd⟩
theorem ok_west_of (T : Cl K C) (B : Blt mg) (F : Fun K "west_of" "Layout.west_of" s_Layout_west_of f fd) (Cc : CalX P w K mg base "check_block" 3 ["layout", "block"] (spCheckX C CN)) : FnOk P w K mg base (L2.CX P w) 4 f fd ["self", "block"] (spAskX K C CN (sWest K)) := by
  obtain ⟨f1, fd1, G_check_block, m_check_block, k_check_block, b_check_block⟩ := Cc
  have m_list := B.list
  refine F.okX sc_Layout_west_of (fun vs H Q E h => ?_) (fun cdv A outer s H vs Q E hr h => ?_)
  · obtain ⟨G, p, n, parks, js, b, _, rfl, _⟩ := h
    rfl
  · obtain ⟨G, p, n, parks, js, b, hG, rfl, hL, k0, k1⟩ := h
    refine ⟨_, (pss_cons (ps_expr (pe_callSD G_check_block (hr.mono (by decide)) rfl m_check_block k_check_block b_check_block .nil (fun σ => passAt (takes_of rfl rfl rfl rfl) σ) (pa_cons (pv 0) (pa_cons (pv 1) pa_nil))))
 (pss_one (ps_ret (pe_callTy call_list_of (by rfl) m_list (by decide +kernel) (pa_cons (pe_ix ix_list (pe_fld (pv 0) rfl) (pv 1) (fun _ _ => rfl)) pa_nil))))), ?_⟩
    refine st_checkX hG (ex_var (v := .ref p) rfl) (ex_var (v := .int b) rfl) hL.size (fun ⟨h0, h1⟩ H2 g => ?_) k1
    obtain ⟨dx, fs, l, ym, e, wa, ess, wss, hp, hf, hm, he, hw, s1, s2⟩ := hL
    obtain ⟨j, rfl⟩ : ∃ j : Nat, b = (j : Int) := ⟨b.toNat, by omega⟩
    obtain ⟨x, hx, _, hx2, hx3⟩ := s2.get (b := j) (by omega)
    refine st_ret (P := fun v G' => ∃ p2 xs, v = .ref p2 ∧ G p2 = none ∧ G' p2 = some (.lst xs) ∧ DpAll K G' xs (x.map PyData.int)) (hG.trans g) (ed_list (ed_ixL (q := (· = (j : Int))) (P := DV K (dI x)) (EF.dv (ef_fld (P := XV (.ref wa)) (ex_var rfl) hp T.cl T.west hf.west rfl) hw) (EF.iv (ex_var rfl)) fun i ei => ?_)) (fun v' G2 H3 g2 p2 => k0 ⟨h0, h1⟩ v' G2 H3 ((Gr.same hG g).trans g2) ?_)
    · subst ei
      exact ⟨j, dI x, rfl, by rw [List.getElem?_map, hx]; rfl, fun v G' d => d⟩
    · obtain ⟨q, xs, rfl, _, hq, hd⟩ := p2
      exact ⟨x, hx2, hx3, dp_mkL hq hd⟩
theorem ok_branches (T : Cl K C) (Ce : CalMX P w K mg base C "east_of" 4 ["self", "block"] (spAskX K C CN (sEast K))) (Cw : CalMX P w K mg base C "west_of" 4 ["self", "block"] (spAskX K C CN (sWest K))) (F : Fun K "branches" "Layout.branches" s_Layout_branches f fd) :
    FnOk P w K mg base (L2.CX P w) 5 f fd ["self", "block", "side"] (spAskSX K C CN (sBranch K)) := by
  obtain ⟨f1, fd1, G_east_of, M_east_of, b_east_of⟩ := Ce
  obtain ⟨f2, fd2, G_west_of, M_west_of, b_west_of⟩ := Cw
  have cL := T.cl
  refine F.okX sc_Layout_branches (fun vs H Q E h => ?_) (fun cdv A outer s H vs Q E hr h => ?_)
  · obtain ⟨G, p, n, parks, js, b, c, _, rfl, _⟩ := h
    rfl
  · obtain ⟨G, p, n, parks, js, b, c, hG, rfl, hL, k0, k1⟩ := h
    refine ⟨_, (pss_cons (ps_if (pt_cmpR op_eq (pv 2) pe_str (nomark _))
 (pss_one (ps_ret (pe_methX (pv 0) cL M_east_of G_east_of (hr.mono (by decide)) b_east_of .nil (fun σ => passAt (takes_of rfl rfl rfl rfl) σ) (pa_cons (pv 1) pa_nil)))) pss_nil)
 (pss_one (ps_ret (pe_methX (pv 0) cL M_west_of G_west_of (hr.mono (by decide)) b_west_of .nil (fun σ => passAt (takes_of rfl rfl rfl rfl) σ) (pa_cons (pv 1) pa_nil))))), ?_⟩
    refine st_if (p := fun b => b = c) hG (et_test (ex_eq (ex_var rfl) ex_c rfl (side_dec c))) (fun h H' e => ?_) (fun h H' e => ?_)
    · subst h
      exact st_retM1 (hG.trans e) (ex_var rfl) (hL.meth (by decide +kernel)) (ex_var rfl) fun G2 H2 g => ⟨G2, p, n, parks, js, b, g.ok, rfl, hL.ex g.up, fun hb v G3 H3 g3 pv => k0 hb v G3 H3 (((Gr.same hG e).trans g).trans g3) pv, fun hb => (k1 hb).up ((Gr.same hG e).trans g)⟩
    · subst h
      exact st_retM1 (hG.trans e) (ex_var rfl) (hL.meth (by decide +kernel)) (ex_var rfl) fun G2 H2 g => ⟨G2, p, n, parks, js, b, g.ok, rfl, hL.ex g.up, fun hb v G3 H3 g3 pv => k0 hb v G3 H3 (((Gr.same hG e).trans g).trans g3) pv, fun hb => (k1 hb).up ((Gr.same hG e).trans g)⟩
theorem ok_check_blocks (F : Fun K "check_blocks" "check_blocks" s_check_blocks f fd) (Cc : CalX P w K mg base "check_block" 3 ["layout", "block"] (spCheckX C CN)) : FnOk P w K mg base CX0 4 f fd ["layout", "blocks"] (spChecks K C) := by
  obtain ⟨f1, fd1, G_check_block, m_check_block, k_check_block, b_check_block⟩ := Cc
  refine F.ok sc_check_blocks (fun vs H Q E h => ?_) (fun cdv A outer s H vs Q E hr h => ?_)
  · obtain ⟨G, p, n, a, bs, _, rfl, _⟩ := h
    rfl
  · obtain ⟨G, p, n, a, bs, hG, rfl, hs, ha, hb, k⟩ := h
    refine ⟨_, (pss_one (ps_for PassesOwn.never rfl (pi_list (pv 1)) (pg_name (i := 2) sc_check_blocks.nd rfl (by first | exact Or.inl rfl | exact Or.inr rfl))
 (pss_one (ps_expr (pe_call G_check_block (hr.mono (by decide)) rfl m_check_block k_check_block b_check_block .nil passL (pa_cons (pv 0) (pa_cons (pv 2) pa_nil))))))), ?_⟩
    refine st_forK (xs := bs.map V.int) hG (ex_var (v := .ref a) rfl) ha (fun i σ H' => Ex H H' ∧ ∃ v, σ = [some (.ref p), some (.ref a), v]) (fun H' e => ⟨e, _, rfl⟩) (fun i σ' H' hw => hG.trans hw.1) (fun i x σ' H' hi hw => ?_) (fun σ' H' hw => ?_)
    · obtain ⟨e, v, rfl⟩ := hw
      rw [List.getElem?_map] at hi
      obtain ⟨b, hb1, rfl⟩ := Option.map_eq_some_iff.mp hi
      have hbb := hb b (List.mem_of_getElem? hb1)
      exact st_drop (P := XV .non) (hG.trans e) (ex_call2 (ex_var (v := .ref p) rfl) (ex_var (v := .int b) rfl) fun G' e' => sa_checkX (hs.ex e') hbb.1 hbb.2) (fun v' G' H2 g _ => ⟨e.trans g.hp, _, rfl⟩)
    · obtain ⟨e, v, rfl⟩ := hw
      exact k _ G H' (.same hG e) rfl
theorem ok_length_of (T : Cl K C) (F : Fun K "length_of" "Layout.length_of" s_Layout_length_of f fd) (Cc : CalX P w K mg base "check_block" 3 ["layout", "block"] (spCheckX C CN)) : FnOk P w K mg base (L2.CX P w) 4 f fd ["self", "block"] (spLenX K C CN) := by
  obtain ⟨f1, fd1, G_check_block, m_check_block, k_check_block, b_check_block⟩ := Cc
  refine F.okX sc_Layout_length_of (fun vs H Q E h => ?_) (fun cdv A outer s H vs Q E hr h => ?_)
  · obtain ⟨G, p, lens, parks, js, b, _, rfl, _⟩ := h
    rfl
  · obtain ⟨G, p, lens, parks, js, b, hG, rfl, hL, k0, k1⟩ := h
    refine ⟨_, (pss_cons (ps_expr (pe_callSD G_check_block (hr.mono (by decide)) rfl m_check_block k_check_block b_check_block .nil (fun σ => passAt (takes_of rfl rfl rfl rfl) σ) (pa_cons (pv 0) (pa_cons (pv 1) pa_nil))))
 (pss_one (ps_ret (pe_ix ix_list (pe_fld (pv 0) rfl) (pv 1) (fun _ _ => rfl))))), ?_⟩
    refine st_checkX hG (ex_var (v := .ref p) rfl) (ex_var (v := .int b) rfl) hL.1.size (fun ⟨h0, h1⟩ H2 g => ?_) k1
    obtain ⟨_, dx, fs, l, hp, hf, hd⟩ := hL
    have hj : b.toNat < lens.length := by omega
    have hz : lens[b.toNat]? = some lens[b.toNat] := List.getElem?_eq_getElem hj
    refine st_ret (P := XV (.int lens[b.toNat])) (hG.trans g) (ed_ixL (q := (· = b)) (EF.dv (ef_fld (P := XV (.ref l)) (ex_var rfl) hp T.cl T.lens hf rfl) hd) (EF.iv (ex_var rfl)) fun i ei => ?_) (fun v' G2 H3 g2 p2 => k0 _ h0 hz v' G2 H3 ((Gr.same hG g).trans g2) p2)
    subst ei
    exact ⟨i.toNat, .int lens[i.toNat], by omega, by rw [List.getElem?_map, hz]; rfl, fun v G' d => by cases d; rfl⟩
theorem ok_joined (T : Cl K C) (F : Fun K "joined" "Layout.joined" s_Layout_joined f fd) (Cc : CalX P w K mg base "check_block" 3 ["layout", "block"] (spCheckX C CN)) : FnOk P w K mg base (L2.CX P w) 4 f fd ["self", "west", "east"] (spJoinX K C CN) := by
  obtain ⟨f1, fd1, G_check_block, m_check_block, k_check_block, b_check_block⟩ := Cc
  refine F.okX sc_Layout_joined (fun vs H Q E h => ?_) (fun cdv A outer s H vs Q E hr h => ?_)
  · obtain ⟨G, p, n, parks, js, b, o, _, rfl, _⟩ := h
    rfl
  · obtain ⟨G, p, n, parks, js, b, o, hG, rfl, hL, k0, k1, k2⟩ := h
    refine ⟨_, (pss_cons (ps_expr (pe_callSD G_check_block (hr.mono (by decide)) rfl m_check_block k_check_block b_check_block .nil (fun σ => passAt (takes_of rfl rfl rfl rfl) σ) (pa_cons (pv 0) (pa_cons (pv 1) pa_nil))))
 (pss_cons (ps_expr (pe_callSD G_check_block (hr.mono (by decide)) rfl m_check_block k_check_block b_check_block .nil (fun σ => passAt (takes_of rfl rfl rfl rfl) σ) (pa_cons (pv 0) (pa_cons (pv 2) pa_nil))))
 (pss_one (ps_ret (pe_cmpR (op_inD (hu65 hr)) (pv 2) (pe_ix ix_list (pe_fld (pv 0) rfl) (pv 1) (fun _ _ => rfl)) (by rfl)))))), ?_⟩
    refine st_checkX hG (ex_var (v := .ref p) rfl) (ex_var (v := .int b) rfl) hL.size (fun hb H2 g => ?_) k1
    refine st_checkX (hG.trans g) (ex_var (v := .ref p) rfl) (ex_var (v := .int o) rfl) hL.size (fun ho H3 g3 => ?_) (fun z => (k2 hb z).up (Gr.same hG g))
    obtain ⟨dx, fs, l, ym, e, wa, ess, wss, hp, hf, hm, he, hw, s1, s2⟩ := hL
    obtain ⟨x, hx, _, hx2, _⟩ := s1.get (b := b.toNat) (by omega)
    have eb : ((b.toNat : Nat) : Int) = b := by omega
    refine st_ret (P := BV (· = decide ((b, o) ∈ js))) (hG.trans (g.trans g3)) ((ed_inD (d := .int o) (ds := x.map PyData.int) (EF.dv (ex_var (v := .int o) rfl) (.int o)) (ed_ixL (P := DV K (dI x)) (q := (· = b)) (EF.dv (ef_fld (P := XV (.ref e)) (ex_var rfl) hp T.cl T.east hf.east rfl) he) (EF.iv (ex_var rfl)) fun i ei => ?_) (sh_int _) (sh_ints _)).imp fun v _ _ ⟨c, ec, hc⟩ => ⟨c, ec, ?_⟩) (fun v' G2 H4 g2 p2 => k0 hb ho v' G2 H4 ((Gr.same hG (g.trans g3)).trans g2) (by obtain ⟨c, rfl, rfl⟩ := p2; rfl))
    · subst ei
      exact ⟨i.toNat, dI x, by omega, by rw [List.getElem?_map, hx]; rfl, fun v G' d => d⟩
    · rw [hc, any_int]
      rw [eb] at hx2
      rw [Bool.eq_iff_iff, decide_eq_true_eq, decide_eq_true_eq, hx2.mem_iff, mem_eo]
end
end Kx

set_option Elab.async false
set_option linter.all false
set_option maxRecDepth 100000
set_option maxHeartbeats 4000000
namespace Kx
open PySem L2 Lw
open Evl (Ex)
abbrev s_Layoutadd_joint : Stmt := inClass (top 9) 1
theorem sc_Layoutadd_joint : FnScope ["self", "west", "east"] ["self", "west", "east"] (defScope s_Layoutadd_joint) := ⟨rfl, rfl, rfl, by decide +kernel, rfl, by decide +kernel, by decide +kernel⟩
section
variable {P : Program} {w : World} {K : PySem.W.Frag} {mg : Str → Option Value} {base : Heap} {C CN : Addr} {f : Addr} {fd : FuncData}
theorem ok_add (T : Cl K C) (B : Blt mg) (F : Fun K "_add_joint" "Layout._add_joint" s_Layoutadd_joint f fd) (Cc : CalX P w K mg base "check_block" 3 ["layout", "block"] (spCheckX C CN)) : FnOk P w K mg base CX0 4 f fd ["self", "west", "east"] (spAdd C) := by
  obtain ⟨f1, fd1, G_check_block, m_check_block, k_check_block, b_check_block⟩ := Cc
  have m_len := B.len
  refine F.ok sc_Layoutadd_joint (fun vs H Q E h => ?_) (fun cdv A outer s H vs Q E hr h => ?_)
  · obtain ⟨x, n, parks, js, dx, fs, l, ym, e, wa, ea, waa, u, v, rfl, _⟩ := h
    rfl
  · obtain ⟨x, n, parks, js, dx, fs, l, ym, e, w', ea, wa, u, v, rfl, S, N, hl, k⟩ := h
    refine ⟨_, (pss_cons (ps_expr (pe_call G_check_block (hr.mono (by decide)) rfl m_check_block k_check_block b_check_block .nil passL (pa_cons (pv 0) (pa_cons (pv 1) pa_nil))))
 (pss_cons (ps_expr (pe_call G_check_block (hr.mono (by decide)) rfl m_check_block k_check_block b_check_block .nil passL (pa_cons (pv 0) (pa_cons (pv 2) pa_nil))))
 (pss_cons (ps_if (PW.pt (pw_or (pt_cmpR op_ge (pv 1) (pv 2) (nomark _)) (pw_or1 (pt_cmpR (op_inD (hu65 hr)) (pv 2) (pe_ix ix_list (pe_fld (pv 0) rfl) (pv 1) (fun _ _ => rfl)) (by rfl)))))
 (pss_never) pss_nil)
 (pss_cons (ps_if (PW.pt (pw_and (pt_not (pt_val (pe_ix ix_list (pe_fld (pv 0) rfl) (pv 1) (fun _ _ => rfl)))) (pw_and1 (pt_cmpR op_eq (pe_callB call_len_seq (by rfl) m_len PySem.boot_len (pa_cons (pe_ix ix_list (pe_fld (pv 0) rfl) (pv 1) (fun _ _ => rfl)) pa_nil)) pe_int (nomark _)))))
 (pss_never) pss_nil)
 (pss_cons (ps_if (PW.pt (pw_and (pt_not (pt_val (pe_ix ix_list (pe_fld (pv 0) rfl) (pv 2) (fun _ _ => rfl)))) (pw_and1 (pt_cmpR op_eq (pe_callB call_len_seq (by rfl) m_len PySem.boot_len (pa_cons (pe_ix ix_list (pe_fld (pv 0) rfl) (pv 2) (fun _ _ => rfl)) pa_nil)) pe_int (nomark _)))))
 (pss_never) pss_nil)
 (pss_cons (ps_expr (pe_bm PySem.F.plainAttrs_list PySem.F.slot_list_append PySem.F.type_list_append mt_append (pe_ix ix_list (pe_fld (pv 0) rfl) (pv 1) (fun _ _ => rfl)) (pa_cons (pv 2) pa_nil)))
 (pss_one (ps_expr (pe_bm PySem.F.plainAttrs_list PySem.F.slot_list_append PySem.F.type_list_append mt_append (pe_ix ix_list (pe_fld (pv 0) rfl) (pv 2) (fun _ _ => rfl)) (pa_cons (pv 1) pa_nil)))))))))), ?_⟩
    obtain ⟨i, rfl⟩ : ∃ i : Nat, u = (i : Int) := ⟨u.toNat, by have := N.lo; omega⟩
    obtain ⟨j, rfl⟩ : ∃ j : Nat, v = (j : Int) := ⟨v.toNat, by have := N.lo; have := N.lt; omega⟩
    have hij := N.lt
    have hj := N.hi
    obtain ⟨a, ha⟩ : ∃ a, ea[i]? = some a := ⟨_, List.getElem?_eq_getElem (by rw [S.le]; omega)⟩
    obtain ⟨a2, ha2⟩ : ∃ a, wa[j]? = some a := ⟨_, List.getElem?_eq_getElem (by rw [S.lw]; omega)⟩
    refine st_drop (P := XV .non) (Ex.refl H) (ex_call2 (ex_var (v := .ref x) rfl) (ex_var (v := .int (i : Int)) rfl) fun G' e' => sa_checkX (S.size.ex e') (by omega) (by omega)) (fun v' G1 H1 g1 _ => ?_)
    have S1 := S.ex g1.hp
    refine st_drop (P := XV .non) (Ex.refl H1) (ex_call2 (ex_var (v := .ref x) rfl) (ex_var (v := .int (j : Int)) rfl) fun G' e' => sa_checkX (S1.size.ex e') (by omega) (by omega)) (fun v' G2 H2 g2 _ => ?_)
    have S2 := S1.ex g2.hp
    have inE : ∀ {H : Hp} {σ : L2.St}, AddSt C H x n parks js dx fs l ym e w' ea wa → σ = [some (.ref x), some (.int (i : Int)), some (.int (j : Int))] → EF (tOp (rIxL K) (tFld K (tVar 0) "_east") (tVar 1)) σ H (XV (.ref a)) := fun {H σ} S es => by
      subst es
      exact ex_ixL (ex_fld (ex_var rfl) S.ins T.cl T.east S.fld.east) (ex_var rfl) rfl (Evl.sq_of S.east) (by rw [List.getElem?_map, ha]; rfl)
    have inW : ∀ {H : Hp} {σ : L2.St}, AddSt C H x n parks js dx fs l ym e w' ea wa → σ = [some (.ref x), some (.int (i : Int)), some (.int (j : Int))] → EF (tOp (rIxL K) (tFld K (tVar 0) "_west") (tVar 2)) σ H (XV (.ref a2)) := fun {H σ} S es => by
      subst es
      exact ex_ixL (ex_fld (ex_var rfl) S.ins T.cl T.west S.fld.west) (ex_var rfl) rfl (Evl.sq_of S.west) (by rw [List.getElem?_map, ha2]; rfl)
    refine st_if0 (Ex.refl H2) (et_or (p := (· = false)) (q := (· = false)) (et_test (ei_op0 (EF.iv (ex_var rfl)) (EF.iv (ex_var rfl)) fun y z G' hy hz => ⟨_, rfl, ?_⟩)) (fun _ => et_test ((ed_inD (d := .int (j : Int)) (ds := (eo js (i : Int)).map PyData.int) (EF.dv (ex_var rfl) (.int _)) (EF.dv (inE S2 rfl) (dp_mkL (S2.ae i a ha) (dpa_ints _))) (sh_int _) (sh_ints _)).imp fun y G' _ ⟨b, eb, hb⟩ => ⟨b, eb, ?_⟩)) (fun z => nomatch z) (fun _ b hb => hb)) (fun H3 e3 => ?_)
    · subst hy hz
      exact decide_eq_false (by omega)
    · rw [hb, any_int]
      exact decide_eq_false fun z => N.new (mem_eo.mp z)
    have S3 := S2.ex e3
    refine st_if0 (Ex.refl H3) (et_and (p := (· = !decide ((i : Int) ∈ parks))) (q := (· = decide (((eo js (i : Int)).length : Int) = 2))) (et_not (et_B (EF.bl (ex_ixL (ex_fld (ex_var rfl) S3.ins T.cl T.marks S3.fld.marks) (ex_var rfl) rfl (Evl.sq_of S3.marks) (by rw [List.getElem?_map, marks_at (by omega)]; rfl)) ?_))) (fun _ => et_test (ei_eq (EF.iv (ex_lenL (inE S3 rfl) (Evl.sq_of (S3.ae i a ha)))) (EF.iv ex_c) fun y z hy hz => ?_)) (fun h b hb => ?_) (fun _ => rfl)) (fun H4 e4 => ?_)
    · rfl
    · subst hy hz
      rw [List.length_map]
    · rw [hb]
      have hp : (i : Int) ∉ parks := by simpa using h.symm
      have := N.ew hp
      exact decide_eq_false (by omega)
    have S4 := S3.ex e4
    refine st_if0 (Ex.refl H4) (et_and (p := (· = !decide ((j : Int) ∈ parks))) (q := (· = decide (((wo js (j : Int)).length : Int) = 2))) (et_not (et_B (EF.bl (ex_ixL (ex_fld (ex_var rfl) S4.ins T.cl T.marks S4.fld.marks) (ex_var rfl) rfl (Evl.sq_of S4.marks) (by rw [List.getElem?_map, marks_at (by omega)]; rfl)) ?_))) (fun _ => et_test (ei_eq (EF.iv (ex_lenL (inW S4 rfl) (Evl.sq_of (S4.aw j a2 ha2)))) (EF.iv ex_c) fun y z hy hz => ?_)) (fun h b hb => ?_) (fun _ => rfl)) (fun H5 e5 => ?_)
    · rfl
    · subst hy hz
      rw [List.length_map]
    · rw [hb]
      have hp : (j : Int) ∉ parks := by simpa using h.symm
      have := N.we hp
      exact decide_eq_false (by omega)
    have S5 := S4.ex e5
    have h0 : 0 < n := by omega
    have lE := eo_len_le js (i : Int)
    have lW := wo_len_le js (j : Int)
    refine st_app (P := XV (.int (j : Int))) (Ex.refl H5) (S5.ae i a ha) (inE S5 rfl) (ex_var rfl) (by rw [List.length_map]; omega) fun y G6 H6 g6 p6 => ?_
    cases (show y = .int (j : Int) from p6)
    have S6 := S5.ex g6.hp
    obtain ⟨n1, n2, n3, n4⟩ := S6.inner h0 (S6.ae i a ha)
    have na : a2 ≠ a := fun z => nd_ne S6.nd ha ha2 z.symm
    have in7 : EF (tOp (rIxL K) (tFld K (tVar 0) "_west") (tVar 2)) [some (.ref x), some (.int (i : Int)), some (.int (j : Int))] (upd H6 a (.lst ((eo js (i : Int)).map V.int ++ [.int (j : Int)]))) (XV (.ref a2)) :=
      ex_ixL (ex_fld (ex_var rfl) (by rw [upd_ne n1]; exact S6.ins) T.cl T.west S6.fld.west) (ex_var rfl) rfl (Evl.sq_of (by rw [upd_ne n4]; exact S6.west)) (by rw [List.getElem?_map, ha2]; rfl)
    refine st_app (P := XV (.int (i : Int))) (Ex.refl _) (by rw [upd_ne na]; exact S6.aw j a2 ha2) in7 (ex_var rfl) (by rw [List.length_map]; omega) fun y G7 H7 g7 p7 => ?_
    cases (show y = .int (i : Int) from p7)
    have eH : ∀ b o, b ≠ a → b ≠ a2 → H b = some o → upd H7 a2 (.lst ((wo js (j : Int)).map V.int ++ [.int (i : Int)])) b = some o := fun b o b1 b2 q => by
      rw [upd_ne b2]
      refine g7.hp _ _ ?_
      rw [upd_ne b1]
      exact g6.hp _ _ (e5 _ _ (e4 _ _ (e3 _ _ (g2.hp _ _ (g1.hp _ _ q)))))
    refine k _ (S.step ha ha2 ?_ ?_ eH) (fun b o b1 b2 q => eH b o (fun z => b1 (by rw [z]; exact List.mem_of_getElem? ha)) (fun z => b2 (by rw [z]; exact List.mem_of_getElem? ha2)) q)
    · rw [upd_ne na.symm, List.map_append]
      exact g7.hp _ _ upd_same
    · rw [upd_same, List.map_append]
      rfl
end
end Kx

set_option Elab.async false
set_option linter.all false
set_option maxRecDepth 100000
set_option maxHeartbeats 8000000
namespace Kx
open PySem L2 Lw
open Evl (Ex)
abbrev s_Layout_init : Stmt := inClass (top 9) 0
theorem sc_Layout_init : FnScope ["self", "lengths", "joints", "yards", "length", "west", "east", "block", "_", "blocks"] ["self", "lengths", "joints", "yards"] (defScope s_Layout_init) := ⟨rfl, rfl, rfl, by decide +kernel, rfl, by decide +kernel, by decide +kernel⟩
section
variable {P : Program} {w : World} {K : PySem.W.Frag} {mg : Str → Option Value} {base : Heap} {C : Addr} {f : Addr} {fd : FuncData}
/-- the lists that the last two comprehensions make -/
def SI (K : PySem.W.Frag) (H0 : Hp) (f : Int → List Int) (i : Nat) (acc : List V) (G' : Hp) : Prop := ∃ ess : List (List Int), DpAll K G' acc (ess.map dI) ∧ Srt f i ess ∧ ∀ v ∈ acc, ∃ a, v = .ref a ∧ H0 a = none
theorem si_step {H0 G' : Hp} {f : Int → List Int} {i : Nat} {acc : List V} {p : Addr} {ns' : List Int} (h : SI K H0 f i acc G') (hp : H0 p = none) (hq : G' p = some (.lst (ns'.map V.int))) (h1 : ns'.Perm (f (i : Int))) (h2 : ns'.Pairwise (· ≤ ·)) : SI K H0 f (i + 1) (acc ++ [.ref p]) G' := by
  obtain ⟨ess, hd, hs, hf⟩ := h
  refine ⟨ess ++ [ns'], ?_, ⟨by rw [List.length_append, hs.len]; rfl, fun b x hx => ?_⟩, fun v hv => ?_⟩
  · rw [List.map_append]
    exact dpa_snoc hd (dp_mkL hq (dpa_ints _))
  · by_cases hb : b < ess.length
    · rw [List.getElem?_append_left hb] at hx
      exact hs.at_ b x hx
    · have hl := (List.getElem?_eq_some_iff.mp hx).1
      rw [List.length_append, List.length_singleton] at hl
      have e : b = ess.length := by omega
      subst e
      rw [List.getElem?_append_right (Nat.le_refl _), Nat.sub_self] at hx
      cases hx
      rw [hs.len]
      exact ⟨h1, h2⟩
  · rcases List.mem_append.mp hv with hv | hv
    · exact hf v hv
    · have e : v = .ref p := by simpa using hv
      exact ⟨p, e, hp⟩
theorem SI.ex {H0 G' G2 : Hp} {f : Int → List Int} {i : Nat} {acc : List V} (h : SI K H0 f i acc G') (e : Ex G' G2) : SI K H0 f i acc G2 := by
  obtain ⟨ess, hd, hs, hf⟩ := h
  exact ⟨ess, dpax hd e, hs, hf⟩
theorem ok_init (T : Cl K C) (B : Blt mg) (F : Fun K "__init__" "Layout.__init__" s_Layout_init f fd) (Cc : Cal P w K mg base "check_blocks" 4 ["layout", "blocks"] (spChecks K C)) (Ca : CalM P w K mg base C "_add_joint" 4 ["self", "west", "east"] (spAdd C)) : FnOk P w K mg base CX0 5 f fd ["self", "lengths", "joints", "yards"] (spInitL K C) := by
  obtain ⟨f1, fd1, G_check_blocks, m_check_blocks, k_check_blocks, b_check_blocks⟩ := Cc
  obtain ⟨f2, fd2, G_add_joint, M_add_joint, b_add_joint⟩ := Ca
  have cL := T.cl
  have m_len := B.len
  have m_list := B.list
  have m_range := B.range
  have m_sorted := B.sorted
  refine F.ok sc_Layout_init (fun vs H Q E h => ?_) (fun cdv A outer s H vs Q E hr h => ?_)
  · obtain ⟨G, x, dx, lens, js, parks, a1, a2, a3, rfl, _⟩ := h
    rfl
  · obtain ⟨G, x, dx, lens, js, parks, a1, a2, a3, rfl, hG, gx, hx, d1, d2, d3, n2, hl, hpk, hJ, hjs, k⟩ := h
    refine ⟨_, (pss_cons (ps_for PassesOwn.never rfl (pi_list (pv 1)) (pg_name (i := 4) sc_Layout_init.nd rfl (by first | exact Or.inl rfl | exact Or.inr rfl))
 (pss_one (ps_if (pt_cmpR op_lt (pv 4) pe_int (nomark _))
 (pss_never) pss_nil)))
 (pss_cons (ps_fld (pv 0) (pe_callB call_len_seq (by rfl) m_len PySem.boot_len (pa_cons (pv 1) pa_nil)) rfl)
 (pss_cons (ps_fld (pv 0) (pe_callTy call_list_of (by rfl) m_list (by decide +kernel) (pa_cons (pv 1) pa_nil)) rfl)
 (pss_cons (ps_expr (pe_call G_check_blocks (hr.mono (by decide)) rfl m_check_blocks k_check_blocks b_check_blocks .nil pass0 (pa_cons (pv 0) (pa_cons (pv 3) pa_nil))))
 (pss_cons (ps_fld (pv 0) (pe_lc (own := [("block", 7)]) (g := (gName 7)) (tt := tYes) (te := (tOp (rInD K) (tVar 7) (tVar 3))) rfl sc_Layout_init.nd (pi_range1 rfl m_range (pa_cons (pe_fld (pv 0) rfl) pa_nil)) (blkOk_by (N := ["self", "lengths", "joints", "yards", "length", "west", "east", "block", "_", "blocks"]) (sc := defScope s_Layout_init) (by decide +kernel)) (fun _ _ _ _ _ => pg_name (i := 7) sc_Layout_init.nd rfl (Or.inl rfl)) (fun _ _ _ _ _ => pts_nil) (fun _ _ _ _ _ => (pe_cmpR (op_inD (hu65 hr)) (pv 7) (pv 3) (by rfl)))) rfl)
 (pss_cons (ps_fld (pv 0) (pe_lc (own := [("_", 8)]) (g := (gName 8)) (tt := tYes) rfl sc_Layout_init.nd (pi_range1 rfl m_range (pa_cons (pe_fld (pv 0) rfl) pa_nil)) (blkOk_by (N := ["self", "lengths", "joints", "yards", "length", "west", "east", "block", "_", "blocks"]) (sc := defScope s_Layout_init) (by decide +kernel)) (fun _ _ _ _ _ => pg_name (i := 8) sc_Layout_init.nd rfl (Or.inl rfl)) (fun _ _ _ _ _ => pts_nil) (fun _ _ _ _ _ => (pe_lst pa_nil))) rfl)
 (pss_cons (ps_fld (pv 0) (pe_lc (own := [("_", 8)]) (g := (gName 8)) (tt := tYes) rfl sc_Layout_init.nd (pi_range1 rfl m_range (pa_cons (pe_fld (pv 0) rfl) pa_nil)) (blkOk_by (N := ["self", "lengths", "joints", "yards", "length", "west", "east", "block", "_", "blocks"]) (sc := defScope s_Layout_init) (by decide +kernel)) (fun _ _ _ _ _ => pg_name (i := 8) sc_Layout_init.nd rfl (Or.inl rfl)) (fun _ _ _ _ _ => pts_nil) (fun _ _ _ _ _ => (pe_lst pa_nil))) rfl)
 (pss_cons (ps_for PassesOwn.never rfl (pi_list (pv 2)) (pg_tup rfl (pgs_cons (pg_name (i := 5) sc_Layout_init.nd rfl (by first | exact Or.inl rfl | exact Or.inr rfl)) (pgs_cons (pg_name (i := 6) sc_Layout_init.nd rfl (by first | exact Or.inl rfl | exact Or.inr rfl)) pgs_nil)))
 (pss_one (ps_expr (pe_meth (pv 0) cL M_add_joint G_add_joint (hr.mono (by decide)) b_add_joint .nil pass0 (pa_cons (pv 5) (pa_cons (pv 6) pa_nil))))))
 (pss_cons (ps_fld (pv 0) (pe_lc (own := [("blocks", 9)]) (g := (gName 9)) (tt := tYes) (te := (tCB (rSortedI K) (tCons (tVar 9) tNil))) rfl sc_Layout_init.nd (pi_list (pe_fld (pv 0) rfl)) (blkOk_by (N := ["self", "lengths", "joints", "yards", "length", "west", "east", "block", "_", "blocks"]) (sc := defScope s_Layout_init) (by decide +kernel)) (fun _ _ _ _ _ => pg_name (i := 9) sc_Layout_init.nd rfl (Or.inl rfl)) (fun _ _ _ _ _ => pts_nil) (fun _ _ _ _ _ => (pe_callB cr_sortedI (by rfl) m_sorted (by decide +kernel) (pa_cons (pv 9) pa_nil)))) rfl)
 (pss_one (ps_fld (pv 0) (pe_lc (own := [("blocks", 9)]) (g := (gName 9)) (tt := tYes) (te := (tCB (rSortedI K) (tCons (tVar 9) tNil))) rfl sc_Layout_init.nd (pi_list (pe_fld (pv 0) rfl)) (blkOk_by (N := ["self", "lengths", "joints", "yards", "length", "west", "east", "block", "_", "blocks"]) (sc := defScope s_Layout_init) (by decide +kernel)) (fun _ _ _ _ _ => pg_name (i := 9) sc_Layout_init.nd rfl (Or.inl rfl)) (fun _ _ _ _ _ => pts_nil) (fun _ _ _ _ _ => (pe_callB cr_sortedI (by rfl) m_sorted (by decide +kernel) (pa_cons (pv 9) pa_nil)))) rfl))))))))))), ?_⟩
    obtain ⟨_, xs1, e1, s1, t1⟩ := dp_lst d1
    cases e1
    rw [dpa_ints_eq t1] at s1
    obtain ⟨_, xs3, e3, s3, t3⟩ := dp_lst d3
    cases e3
    rw [dpa_ints_eq t3] at s3
    obtain ⟨_, xs2, e2, s2, t2⟩ := dp_lst d2
    cases e2
    have eGs : Ex G (outH H x) := ex_out hG gx
    have ox : outH H x x = none := out_self
    have len3 : ∀ (f : Str) (v : V) (fs : List (Str × V)), fs.length ≤ 10 → (putF f v fs).length ≤ 11 := fun f v fs h => by have := putF_len f v fs; omega
    refine st_forK (xs := lens.map V.int) hG (ex_var (v := .ref a1) rfl) s1 (fun i σ' H' => Ex H H' ∧ ∃ v, σ' = [some (.ref x), some (.ref a1), some (.ref a2), some (.ref a3), v, none, none, none, none, none]) (fun H' e => ⟨e, _, rfl⟩) (fun i σ' H' hw => hG.trans hw.1) (fun i y σ' H' hi hw => ?_) (fun σ' H1 hw => ?_)
    · obtain ⟨e, v, rfl⟩ := hw
      rw [List.getElem?_map] at hi
      obtain ⟨z, hz, rfl⟩ := Option.map_eq_some_iff.mp hi
      refine st_if0 (Ex.refl H') (et_test (ei_op0 (EF.iv (ex_var (v := .int z) rfl)) (EF.iv ex_c) fun a b G' ha hb => ⟨_, rfl, ?_⟩)) (fun H2 e2 => ⟨e.trans e2, _, rfl⟩)
      subst ha hb
      have := hl _ (List.mem_of_getElem? hz)
      exact decide_eq_false (by omega)
    obtain ⟨q1, v4, rfl⟩ := hw
    have eS1 : Ex (outH H x) H1 := out_ex.trans q1
    refine st_fld (P := XV (.int (lens.length : Int))) (q1 _ _ hx) ((ex_lenL (ex_var (v := .ref a1) rfl) (Evl.ex_l (eGs.trans eS1) s1)).imp fun y G' _ p => by rw [show y = _ from p, List.length_map]; rfl) (ex_var rfl) T.cl T.size (by simp) fun y G2 H2 f2 g2 p2 => ?_
    cases (show y = .int (lens.length : Int) from p2)
    have eS3 : Ex (outH H x) (upd H2 x (.ins C dx (putF "size" (.int (lens.length : Int)) []))) := ex_off (eS1.trans (f2.trans g2)) ox
    have i3 : (upd H2 x (.ins C dx (putF "size" (.int (lens.length : Int)) []))) x = some (.ins C dx (putF "size" (.int (lens.length : Int)) [])) := upd_same
    generalize upd H2 x (.ins C dx (putF "size" (.int (lens.length : Int)) [])) = H3 at eS3 i3 ⊢
    have fl1 : (putF "size" (V.int (lens.length : Int)) []).length ≤ 1 := putF_len _ _ _
    refine st_fld i3 (ed_list (EF.dv (ex_var (v := .ref a1) rfl) (dpx d1 (eGs.trans eS3)))) (ex_var rfl) T.cl T.lens (by omega) fun y G4 H4 f4 g4 p4 => ?_
    obtain ⟨l, xl, rfl, l0, l1, ld⟩ := p4
    have exl := dpa_ints_eq ld
    subst exl
    have hl4 : H4 l = some (.lst (lens.map V.int)) := g4 _ _ l1
    have lx : l ≠ x := fun z => by rw [z, i3] at l0; cases l0
    have l0S : outH H x l = none := none_back eS3 l0
    have eS5o : Ex (outH H x) (upd H4 x (.ins C dx (putF "_lengths" (.ref l) (putF "size" (.int (lens.length : Int)) [])))) := ex_off (eS3.trans (f4.trans g4)) ox
    obtain ⟨BB, hBB⟩ : ∃ BB, BB = upd (outH H x) l (.lst (lens.map V.int)) := ⟨_, rfl⟩
    have eS5 : Ex BB (upd H4 x (.ins C dx (putF "_lengths" (.ref l) (putF "size" (.int (lens.length : Int)) [])))) := by
      rw [hBB]
      exact ex_know eS5o (by rw [upd_ne lx]; exact hl4)
    have eGs0 : Ex G (outH H x) := eGs
    have eBB : Ex (outH H x) BB := by rw [hBB]; exact ex_in l0S
    have eGs : Ex G BB := eGs0.trans eBB
    have BBl : BB l = some (.lst (lens.map V.int)) := by rw [hBB]; exact upd_same
    have BBn : ∀ {a : Addr}, BB a = none → outH H x a = none := fun {a} h => by
      by_cases c : a = l
      · rw [c, BBl] at h; cases h
      · rw [hBB, upd_ne c] at h; exact h
    have ox : BB x = none := by rw [hBB, upd_ne (Ne.symm lx)]; exact ox
    clear hBB
    have i5 : (upd H4 x (.ins C dx (putF "_lengths" (.ref l) (putF "size" (.int (lens.length : Int)) [])))) x = some (.ins C dx (putF "_lengths" (.ref l) (putF "size" (.int (lens.length : Int)) []))) := upd_same
    generalize upd H4 x (.ins C dx (putF "_lengths" (.ref l) (putF "size" (.int (lens.length : Int)) []))) = H5 at eS5 eS5o i5 ⊢
    have fl2 : (putF "_lengths" (.ref l) (putF "size" (V.int (lens.length : Int)) [])).length ≤ 2 := by have := putF_len "_lengths" (.ref l) (putF "size" (V.int (lens.length : Int)) []); omega
    have z5 : (putF "_lengths" (.ref l) (putF "size" (V.int (lens.length : Int)) [])).lookup ("size" : Str) = some (.int (lens.length : Int)) := by rw [lookup_putF, if_neg (by decide +kernel), lookup_putF, if_pos rfl]
    refine st_drop (P := XV .non) (Ex.refl H5) (ex_call2 (ex_var (v := .ref x) rfl) (ex_var (v := .ref a3) rfl) fun G' e' => sa_checks (n := (lens.length : Int)) (bs := parks) ⟨dx, _, e' _ _ i5, z5⟩ (Evl.ex_l (eGs.trans (eS5.trans e')) s3) hpk) (fun v' G6 H6 g6 _ => ?_)
    have eS6 := eS5.trans g6.hp
    have i6 := g6.hp _ _ i5
    have gS : ∀ {H' : Hp} {p : Addr}, Ex BB H' → H' p = none → BB p = none := fun e h => none_back e h
    refine st_fld (P := fun v G' => ∃ p, v = .ref p ∧ H6 p = none ∧ G' p = some (.lst ((marksOf lens.length parks).map V.bl))) i6 (ef_lcR1 (n := (lens.length : Int)) (fun i xs G' => xs = (marksOf i parks).map V.bl) ((ea_one (ex_fld (v := .int (lens.length : Int)) (ex_var rfl) i6 T.cl T.size z5)).imp fun vs G' _ ⟨x, ev, hx⟩ => by rw [ev, show x = _ from hx]) (by omega) (fun x => rfl) (fun G' _ => rfl) (fun i xs G' e1 hi hxs => ec_all ((ed_inD (d := .int (i : Int)) (ds := parks.map PyData.int) (EF.dv (ex_var rfl) (.int _)) (EF.dv (ex_var (v := .ref a3) rfl) (dpx d3 (eGs.trans (eS6.trans e1)))) (sh_int _) (sh_ints _)).imp fun y G' _ ⟨b, eb, hb⟩ => ?_)) (fun p xs G' h1 h2 e1 _ hxs => ⟨p, rfl, h1, by rw [upd_same, hxs]; rfl⟩)) (ex_var rfl) T.cl T.marks (by omega) fun y G7 H7 f7 g7 p7 => ?_
    · rw [eb, hb, any_int, hxs]
      unfold marksOf
      rw [List.range_succ, List.map_append, List.map_append]
      rfl
    obtain ⟨ym, rfl, ym0, ym1⟩ := p7
    have ymS := gS eS6 ym0
    have ymx : ym ≠ x := fun z => by rw [z, i6] at ym0; cases ym0
    have ym8 : (upd H7 x (.ins C dx (putF "_yard_marks" (.ref ym) (putF "_lengths" (.ref l) (putF "size" (.int (lens.length : Int)) []))))) ym = some (.lst ((marksOf lens.length parks).map V.bl)) := by rw [upd_ne ymx]; exact g7 _ _ ym1
    have eS8 : Ex BB (upd H7 x (.ins C dx (putF "_yard_marks" (.ref ym) (putF "_lengths" (.ref l) (putF "size" (.int (lens.length : Int)) []))))) := ex_off (eS6.trans (f7.trans g7)) ox
    have i8 : (upd H7 x (.ins C dx (putF "_yard_marks" (.ref ym) (putF "_lengths" (.ref l) (putF "size" (.int (lens.length : Int)) []))))) x = some (.ins C dx (putF "_yard_marks" (.ref ym) (putF "_lengths" (.ref l) (putF "size" (.int (lens.length : Int)) [])))) := upd_same
    generalize upd H7 x (.ins C dx (putF "_yard_marks" (.ref ym) (putF "_lengths" (.ref l) (putF "size" (.int (lens.length : Int)) [])))) = H8 at ym8 eS8 i8 ⊢
    have fl3 : (putF "_yard_marks" (.ref ym) (putF "_lengths" (.ref l) (putF "size" (V.int (lens.length : Int)) []))).length ≤ 3 := by have := putF_len "_yard_marks" (.ref ym) (putF "_lengths" (.ref l) (putF "size" (V.int (lens.length : Int)) [])); omega
    have z8 : (putF "_yard_marks" (.ref ym) (putF "_lengths" (.ref l) (putF "size" (V.int (lens.length : Int)) []))).lookup ("size" : Str) = some (.int (lens.length : Int)) := by rw [lookup_putF, if_neg (by decide +kernel)]; exact z5
    have mk : ∀ {H8 : Hp} {fs : List (Str × V)} {σ : L2.St}, H8 x = some (.ins C dx fs) → fs.lookup ("size" : Str) = some (.int (lens.length : Int)) → σ = [some (.ref x), some (.ref a1), some (.ref a2), some (.ref a3), v4, none, none, none, none, none] →
        EF (tLc (iRng1 (tCons (tFld K (tVar 0) "size") tNil)) (gName 8) tYes (tLst tNil) [8]) σ H8 fun v G' => ∃ p as, v = .ref p ∧ H8 p = none ∧ G' p = some (.lst ((as : List Addr).map V.ref)) ∧ as.length = lens.length ∧ as.Nodup ∧ ∀ a ∈ as, H8 a = none ∧ G' a = some (.lst []) := fun {H8 fs σ} i8 z8 es => by
      subst es
      refine ef_lcR1 (n := (lens.length : Int)) (fun i xs G' => ∃ as : List Addr, xs = as.map V.ref ∧ as.length = i ∧ as.Nodup ∧ ∀ a ∈ as, H8 a = none ∧ G' a = some (.lst [])) ((ea_one (ex_fld (v := .int (lens.length : Int)) (ex_var rfl) i8 T.cl T.size z8)).imp fun vs G' _ ⟨x, ev, hx⟩ => by rw [ev, show x = _ from hx]) (by omega) (fun x => rfl) (fun G' _ => ⟨[], rfl, rfl, .nil, fun a m => nomatch m⟩) (fun i xs G' e1 hi hxs => ec_all (ef_lst ea_nil (fun vs _ h => by rw [h]; simp) fun q vs G2 e2 h1 h2 ev => ?_)) (fun p xs G' h1 h2 e1 _ hxs => ?_)
      · obtain ⟨as, rfl, hl, hn, ha⟩ := hxs
        have hq : q ∉ as := fun m => by
          have := (ha q m).2
          rw [h1] at this
          cases this
        refine ⟨as ++ [q], by rw [List.map_append]; rfl, by rw [List.length_append, hl]; rfl, List.nodup_append.mpr ⟨hn, by simp, fun a m b mb => ?_⟩, fun a m => ?_⟩
        · have e3 : b = q := by simpa using mb
          subst e3
          exact fun z => hq (z ▸ m)
        · rcases List.mem_append.mp m with m1 | m1
          · have aq : a ≠ q := fun z => by subst z; exact hq m1
            exact ⟨(ha a m1).1, by rw [upd_ne aq]; exact e2 _ _ (ha a m1).2⟩
          · have e3 : a = q := by simpa using m1
            subst e3
            exact ⟨none_back e1 h1, by rw [upd_same, ev]⟩
      · obtain ⟨as, rfl, hl, hn, ha⟩ := hxs
        refine ⟨p, as, rfl, h1, upd_same, by rw [hl]; simp, hn, fun a m => ⟨(ha a m).1, ?_⟩⟩
        have ap : a ≠ p := fun z => by
          subst z
          have q := (ha a m).2
          rw [h2] at q
          cases q
        rw [upd_ne ap]
        exact (ha a m).2
    refine st_fld i8 (mk i8 z8 rfl) (ex_var rfl) T.cl T.east (by omega) fun y G9 H9 f9 g9 p9 => ?_
    obtain ⟨e, ea, rfl, e0, e1, le, ne, he⟩ := p9
    generalize hfs3 : putF "_yard_marks" (.ref ym) (putF "_lengths" (.ref l) (putF "size" (V.int (lens.length : Int)) [])) = fs3 at fl3 z8 i8 ⊢
    have kp : ∀ {H0 H1 H2 : Hp} {fs fs' : List (Str × V)} {b : Addr} {o : HO}, H0 x = some (.ins C dx fs) → Ex H0 H1 → Ex H1 H2 → (H0 b = some o → b ≠ x → (upd H2 x (.ins C dx fs')) b = some o) := fun h0 q1 q2 hb hn => by rw [upd_ne hn]; exact q2 _ _ (q1 _ _ hb)
    have nx : ∀ {H0 : Hp} {fs : List (Str × V)} {b : Addr}, H0 x = some (.ins C dx fs) → H0 b = none → b ≠ x := fun h0 hb z => by rw [z, h0] at hb; cases hb
    have nl : ∀ {H0 : Hp} {fs : List (Str × V)} {b : Addr} {xs : List V}, H0 x = some (.ins C dx fs) → H0 b = some (.lst xs) → b ≠ x := fun h0 hb z => by rw [z, h0] at hb; cases hb
    have ym10 := kp (fs' := putF "_east" (.ref e) fs3) i8 f9 g9 ym8 (nl i8 ym8)
    have e10 : (upd H9 x (.ins C dx (putF "_east" (.ref e) fs3))) e = some (.lst (ea.map V.ref)) := by rw [upd_ne (nx i8 e0)]; exact g9 _ _ e1
    have ea10 : ∀ a ∈ ea, (upd H9 x (.ins C dx (putF "_east" (.ref e) fs3))) a = some (.lst []) := fun a m => by rw [upd_ne (nx i8 (he a m).1)]; exact g9 _ _ (he a m).2
    have eaS : ∀ a ∈ ea, BB a = none := fun a m => gS eS8 (he a m).1
    have eS10 : Ex BB (upd H9 x (.ins C dx (putF "_east" (.ref e) fs3))) := ex_off (eS8.trans (f9.trans g9)) ox
    have i10 : (upd H9 x (.ins C dx (putF "_east" (.ref e) fs3))) x = some (.ins C dx (putF "_east" (.ref e) fs3)) := upd_same
    have eS := gS eS8 e0
    generalize upd H9 x (.ins C dx (putF "_east" (.ref e) fs3)) = H10 at ym10 e10 ea10 eS10 i10 ⊢
    have fl4 : (putF "_east" (.ref e) fs3).length ≤ 4 := by have := putF_len "_east" (.ref e) fs3; omega
    have z10 : (putF "_east" (.ref e) fs3).lookup ("size" : Str) = some (.int (lens.length : Int)) := by rw [lookup_putF, if_neg (by decide +kernel)]; exact z8
    refine st_fld i10 (mk i10 z10 rfl) (ex_var rfl) T.cl T.west (by omega) fun y G11 H11 f11 g11 p11 => ?_
    obtain ⟨w1, wa, rfl, w0, w2, lw, nw, hw⟩ := p11
    have ym12 := kp (fs' := putF "_west" (.ref w1) (putF "_east" (.ref e) fs3)) i10 f11 g11 ym10 (nl i10 ym10)
    have e12 := kp (fs' := putF "_west" (.ref w1) (putF "_east" (.ref e) fs3)) i10 f11 g11 e10 (nl i10 e10)
    have ea12 : ∀ a ∈ ea, (upd H11 x (.ins C dx (putF "_west" (.ref w1) (putF "_east" (.ref e) fs3)))) a = some (.lst []) := fun a m => kp i10 f11 g11 (ea10 a m) (nl i10 (ea10 a m))
    have w12 : (upd H11 x (.ins C dx (putF "_west" (.ref w1) (putF "_east" (.ref e) fs3)))) w1 = some (.lst (wa.map V.ref)) := by rw [upd_ne (nx i10 w0)]; exact g11 _ _ w2
    have wa12 : ∀ a ∈ wa, (upd H11 x (.ins C dx (putF "_west" (.ref w1) (putF "_east" (.ref e) fs3)))) a = some (.lst []) := fun a m => by rw [upd_ne (nx i10 (hw a m).1)]; exact g11 _ _ (hw a m).2
    have waS : ∀ a ∈ wa, BB a = none := fun a m => gS eS10 (hw a m).1
    have eS12 : Ex BB (upd H11 x (.ins C dx (putF "_west" (.ref w1) (putF "_east" (.ref e) fs3)))) := ex_off (eS10.trans (f11.trans g11)) ox
    have i12 : (upd H11 x (.ins C dx (putF "_west" (.ref w1) (putF "_east" (.ref e) fs3)))) x = some (.ins C dx (putF "_west" (.ref w1) (putF "_east" (.ref e) fs3))) := upd_same
    have wS := gS eS10 w0
    generalize upd H11 x (.ins C dx (putF "_west" (.ref w1) (putF "_east" (.ref e) fs3))) = H12 at ym12 e12 ea12 w12 wa12 eS12 i12 ⊢
    have fl5 : (putF "_west" (.ref w1) (putF "_east" (.ref e) fs3)).length ≤ 5 := by have := putF_len "_west" (.ref w1) (putF "_east" (.ref e) fs3); omega
    have fld : FLd (putF "_west" (.ref w1) (putF "_east" (.ref e) fs3)) (lens.length : Int) l ym e w1 := by subst hfs3; exact fld5.1
    generalize putF "_west" (.ref w1) (putF "_east" (.ref e) fs3) = fs5 at i12 fl5 fld ⊢
    have S0 : AddSt C H12 x lens.length parks [] dx fs5 l ym e w1 ea wa := ⟨i12, fld, ym12, e12, w12, le, lw, fun b a h => ea12 a (List.mem_of_getElem? h), fun b a h => wa12 a (List.mem_of_getElem? h), List.nodup_append.mpr ⟨ne, nw, fun a m b mb z => by
      subst z
      have q := (hw a mb).1
      rw [ea10 a m] at q
      cases q⟩⟩
    have l2 : xs2.length = js.length := by rw [dpa_len t2, List.length_map]
    refine st_forK (xs := xs2) eS12 (ex_var (v := .ref a2) rfl) (Evl.ex_l eGs s2) (fun i σ' H' => Ex BB H' ∧ AddSt C H' x lens.length parks (js.take i) dx fs5 l ym e w1 ea wa ∧ ∃ v5 v6, σ' = [some (.ref x), some (.ref a1), some (.ref a2), some (.ref a3), v4, v5, v6, none, none, none]) (fun H' e => ⟨eS12.trans e, S0.ex e, _, _, rfl⟩) (fun i σ' H' hw => hw.1) (fun i y σ' H' hi hw => ?_) (fun σ' H13 hw => ?_)
    · obtain ⟨ew, S, v5, v6, rfl⟩ := hw
      obtain ⟨d, hd, dy⟩ := dpa_get t2 hi
      rw [List.getElem?_map] at hd
      obtain ⟨⟨u, v⟩, huv, rfl⟩ := Option.map_eq_some_iff.mp hd
      obtain ⟨a, xs, rfl, hs, hxs⟩ := dp_tup dy
      have exs : xs = [.int u, .int v] := dpa_ints_eq (zs := [u, v]) hxs
      rw [exs] at hs
      have N := hJ.at huv
      refine ⟨a, [.int u, .int v], rfl, Evl.ex_t (eGs.trans ew) hs, rfl, .int u, [.int v], rfl, .int v, [], rfl, rfl, ?_⟩
      refine ⟨_, rfl, x, dx, fs5, rfl, S.ins, S.fld.no _ (by decide +kernel) (by decide +kernel) (by decide +kernel) (by decide +kernel) (by decide +kernel), _, rfl, _, rfl, x, lens.length, parks, js.take i, dx, fs5, l, ym, e, w1, ea, wa, u, v, rfl, S, N, by rw [List.length_take]; omega, fun H2 S2 hk => ⟨fun b o q => hk b o (fun m => ?_) (fun m => ?_) (ew b o q), ?_, _, _, rfl⟩⟩
      · rw [eaS b m] at q
        cases q
      · rw [waS b m] at q
        cases q
      · rw [take_next huv]
        exact S2
    obtain ⟨eS13, S, v5, v6, rfl⟩ := hw
    rw [l2, List.take_length] at S
    have sortC : ∀ {H0 : Hp} {fs : List (Str × V)} {nm : Str} {o : Addr} {as : List Addr} {f : Int → List Int} {σ : L2.St}, H0 x = some (.ins C dx fs) → NoAttr K C nm → fs.lookup nm = some (.ref o) → H0 o = some (.lst (as.map V.ref)) → as.length = lens.length → (∀ (b : Nat) a, as[b]? = some a → H0 a = some (.lst ((f (b : Int)).map V.int))) → σ = [some (.ref x), some (.ref a1), some (.ref a2), some (.ref a3), v4, v5, v6, none, none, none] →
        EF (tLc (iList K (tFld K (tVar 0) nm)) (gName 9) tYes (tCB (rSortedI K) (tCons (tVar 9) tNil)) [9]) σ H0 fun v G' => ∃ p acc, v = .ref p ∧ H0 p = none ∧ G' p = some (.lst acc) ∧ SI K H0 f lens.length acc G' := fun {H0 fs nm o as f σ} hi hn hl ho hlen ha es => by
      subst es
      refine ef_lcL (xs := as.map V.ref) (fun i acc G' => SI K H0 f i acc G') ((ex_fld (v := .ref o) (ex_var rfl) hi T.cl hn hl).imp fun v G' e p => ⟨o, p, Evl.ex_l e (Evl.sq_of ho)⟩) (by rw [List.length_map]; omega) (fun x => rfl) (fun G' _ => ⟨[], .nil, ⟨rfl, fun b x h => by simp at h⟩, fun v m => nomatch m⟩) (fun i y acc G' e1 hi2 hI => ?_) (fun p acc G' h1 h2 e1 _ hI => ⟨p, acc, rfl, h1, upd_same, ?_⟩)
      · rw [List.getElem?_map] at hi2
        obtain ⟨a, hai, rfl⟩ := Option.map_eq_some_iff.mp hi2
        refine ec_all ((ef_sortI (ns := f (i : Int)) (ex_var (v := .ref a) rfl) (Evl.sq_of (e1 _ _ (ha i a hai)))).imp fun v G2 e2 p => ?_)
        obtain ⟨p, ns', rfl, h1, h2, h3, h4⟩ := p
        exact si_step (hI.ex e2) (none_back e1 h1) h2 h3 h4
      · rw [List.length_map, hlen] at hI
        exact hI.ex (ex_in h2)
    refine st_fld S.ins (sortC S.ins T.east fld.east S.east S.le S.ae rfl) (ex_var rfl) T.cl T.east (by omega) fun y G14 H14 f14 g14 p14 => ?_
    obtain ⟨e2', acc1, rfl, ee0, ee1, ess1, D1, Sr1, F1⟩ := p14
    have freshS : ∀ {H' : Hp} {acc : List V}, Ex BB H' → (∀ v ∈ acc, ∃ a, v = V.ref a ∧ H' a = none) → ∀ a, V.ref a ∈ acc → BB a = none := fun e h a m => by
      obtain ⟨b, eb, hb⟩ := h _ m
      cases eb
      exact gS e hb
    have freshX : ∀ {H' : Hp} {fs : List (Str × V)} {acc : List V}, H' x = some (.ins C dx fs) → (∀ v ∈ acc, ∃ a, v = V.ref a ∧ H' a = none) → ∀ a, V.ref a ∈ acc → a ≠ x := fun e h a m => by
      obtain ⟨b, eb, hb⟩ := h _ m
      cases eb
      exact nx e hb
    have eS15 : Ex BB (upd H14 x (.ins C dx (putF "_east" (.ref e2') fs5))) := ex_off (eS13.trans (f14.trans g14)) ox
    have i15 : (upd H14 x (.ins C dx (putF "_east" (.ref e2') fs5))) x = some (.ins C dx (putF "_east" (.ref e2') fs5)) := upd_same
    have ym15 := kp (fs' := putF "_east" (.ref e2') fs5) S.ins f14 g14 S.marks (nl S.ins S.marks)
    have w15 := kp (fs' := putF "_east" (.ref e2') fs5) S.ins f14 g14 S.west (nl S.ins S.west)
    have aw15 : ∀ (b : Nat) a, wa[b]? = some a → (upd H14 x (.ins C dx (putF "_east" (.ref e2') fs5))) a = some (.lst ((wo js (b : Int)).map V.int)) := fun b a h => kp S.ins f14 g14 (S.aw b a h) (nl S.ins (S.aw b a h))
    have e15 : (upd H14 x (.ins C dx (putF "_east" (.ref e2') fs5))) e2' = some (.lst acc1) := by rw [upd_ne (nx S.ins ee0)]; exact g14 _ _ ee1
    have D15 : DpAll K (upd H14 x (.ins C dx (putF "_east" (.ref e2') fs5))) acc1 (ess1.map dI) := dpa_upd (freshX S.ins F1) (dpax D1 g14)
    have S1x : ∀ a, V.ref a ∈ acc1 → BB a = none := freshS eS13 F1
    have X1x : ∀ a, V.ref a ∈ acc1 → a ≠ x := freshX S.ins F1
    have eeS := gS eS13 ee0
    have eex := nx S.ins ee0
    generalize upd H14 x (.ins C dx (putF "_east" (.ref e2') fs5)) = H15 at eS15 i15 ym15 w15 aw15 e15 D15 ⊢
    have fld6 : FLd (putF "_east" (.ref e2') fs5) (lens.length : Int) l ym e2' w1 := fld.putE (by omega)
    have fl6 : (putF "_east" (.ref e2') fs5).length ≤ 6 := by have := putF_len "_east" (.ref e2') fs5; omega
    generalize putF "_east" (.ref e2') fs5 = fs6 at i15 fld6 fl6 ⊢
    refine st_fld i15 (sortC i15 T.west fld6.west w15 S.lw aw15 rfl) (ex_var rfl) T.cl T.west (by omega) fun y G16 H16 f16 g16 p16 => ?_
    obtain ⟨w2', acc2, rfl, ww0, ww1, ess2, D2, Sr2, F2⟩ := p16
    have eS17 : Ex BB (upd H16 x (.ins C dx (putF "_west" (.ref w2') fs6))) := ex_off (eS15.trans (f16.trans g16)) ox
    have ym17 := kp (fs' := putF "_west" (.ref w2') fs6) i15 f16 g16 ym15 (nl i15 ym15)
    have e17 := kp (fs' := putF "_west" (.ref w2') fs6) i15 f16 g16 e15 eex
    have w17 : (upd H16 x (.ins C dx (putF "_west" (.ref w2') fs6))) w2' = some (.lst acc2) := by rw [upd_ne (nx i15 ww0)]; exact g16 _ _ ww1
    have D17 : DpAll K (upd H16 x (.ins C dx (putF "_west" (.ref w2') fs6))) acc1 (ess1.map dI) := dpa_upd X1x (dpax D15 (f16.trans g16))
    have D18 : DpAll K (upd H16 x (.ins C dx (putF "_west" (.ref w2') fs6))) acc2 (ess2.map dI) := dpa_upd (freshX i15 F2) (dpax D2 g16)
    have S2x : ∀ a, V.ref a ∈ acc2 → BB a = none := freshS eS15 F2
    have wwS := gS eS15 ww0
    have i17 : (upd H16 x (.ins C dx (putF "_west" (.ref w2') fs6))) x = some (.ins C dx (putF "_west" (.ref w2') fs6)) := upd_same
    have fld7 : FLd (putF "_west" (.ref w2') fs6) (lens.length : Int) l ym e2' w2' := fld6.putW (by omega)
    show Q .non (upd H16 x (.ins C dx (putF "_west" (.ref w2') fs6)))
    generalize upd H16 x (.ins C dx (putF "_west" (.ref w2') fs6)) = H17 at eS17 ym17 e17 w17 D17 D18 i17 ⊢
    have hS0 : ∀ a ∈ x :: ym :: e2' :: w2' :: (adrs acc1 ++ adrs acc2), BB a = none := fun a m => by
      rcases List.mem_cons.mp m with rfl | m
      · exact ox
      rcases List.mem_cons.mp m with rfl | m
      · exact ymS
      rcases List.mem_cons.mp m with rfl | m
      · exact eeS
      rcases List.mem_cons.mp m with rfl | m
      · exact wwS
      rcases List.mem_append.mp m with m | m
      · exact S1x a (mem_adrs.mp m)
      · exact S2x a (mem_adrs.mp m)
    have hS : ∀ a ∈ l :: x :: ym :: e2' :: w2' :: (adrs acc1 ++ adrs acc2), outH H x a = none := fun a m => by
      rcases List.mem_cons.mp m with rfl | m
      · exact l0S
      · exact BBn (hS0 a m)
    refine k (pick (l :: x :: ym :: e2' :: w2' :: (adrs acc1 ++ adrs acc2)) G H17) H17 (pick_gr hS eGs0 (eBB.trans eS17)) ⟨⟨dx, _, l, ym, e2', w2', ess1, ess2, by rw [pick_in (by simp)]; exact i17, fld7, dp_mkL (xs := (marksOf lens.length parks).map V.bl) (by rw [pick_in (by simp)]; exact ym17) ?_, dp_mkL (xs := acc1) (by rw [pick_in (by simp)]; exact e17) (dpa_pick (fun a m => by simp [mem_adrs, m]) D17), dp_mkL (xs := acc2) (by rw [pick_in (by simp)]; exact w17) (dpa_pick (fun a m => by simp [mem_adrs, m]) D18), Sr1, Sr2⟩, dx, _, l, by rw [pick_in (by simp)]; exact i17, fld7.lens, dp_mkL (xs := lens.map V.int) (by rw [pick_in (List.mem_cons_self ..)]; exact eS17 _ _ BBl) (dpa_ints _)⟩
    exact dpa_bls _
end
end Kx

set_option Elab.async false
set_option linter.all false
set_option maxRecDepth 100000
set_option maxHeartbeats 4000000
/-! a range object in a variable -/
namespace Lw
open PySem PySem.Spec PyProof.Rows L2
section
variable {X : Cx} {tg : Expr}
theorem cr_range1 : CallR X (.type "range") (fun vs H Q => ∃ j, vs = [V.int j] ∧ ∀ p, H p = none → Q (.ref p) (upd H p (.rng 0 j))) := by
  intro pins s σ H vs us Q I r h
  obtain ⟨j, rfl, q⟩ := h
  obtain ⟨u1, rfl, rj⟩ := vals1 r
  obtain ⟨t, rfl⟩ := rj
  refine call_range_1 ⟨.ref s.heap.objs.size, upd H s.heap.objs.size (.rng 0 j), I.laid (t' := s.toks + 1 + 1) (fun b o e => Heap.get?_push_of_some _ e) (Nat.le_refl _) ?_, rfl, q _ (I.hok.fresh (Nat.le_refl _))⟩
  exact ⟨s.toks, t, s.toks + 1, Heap.get?_push_size _ rfl⟩
/-- for .. in r, r a range object -/
def iRngV (te : TE) : TI := fun σ H R => te σ H fun v H1 => ∃ (a : Addr) (lo hi : Int), v = .ref a ∧ H1 a = some (.rng lo hi) ∧ (-(2 ^ 62) ≤ lo ∧ lo < 2 ^ 62 ∧ -(2 ^ 62) ≤ hi ∧ hi < 2 ^ 62) ∧ R (Itr lo (hi - lo).toNat) H1
theorem pi_rngV {e : Expr} {te : TE} (he : PE X e te) : PI X tg e (iRngV te) := by
  refine ⟨fun pins s σ H R I h => ?_⟩
  refine thn (he.run pins s σ H _ I h) fun u s1 ⟨v, H1, I1, r1, a, lo, hi, ev, ha, ⟨b1, b2, b3, b4⟩, q⟩ => ?_
  subst ev
  cases (show u = Value.ref a from r1)
  obtain ⟨t1, t2, t3, ho⟩ := I1.hok a _ ha
  refine wpAny_pyIter_range (r := a) ho (small_one b1 b2 b3 b4) ?_
  refine pi_one (tk := s1.toks) I1 _ (turn_range _ lo (hi - lo).toNat) ?_ q
  have e1 : lo + ((0 : Nat) : Int) * 1 = lo := by simp
  have e2 : (((hi - lo).toNat : Nat) : Int) - ((0 : Nat) : Int) = Builtin.Range.rangeSize lo hi 1 := by rw [rangeSize_one]; split <;> omega
  show IsRangeIter _ _ (lo + ((0 : Nat) : Int) * 1) ((((hi - lo).toNat : Nat) : Int) - ((0 : Nat) : Int)) 1
  rw [e1, e2]
  exact Heap.get?_push_size _ rfl
end
end Lw

set_option Elab.async false
set_option linter.all false
set_option maxRecDepth 100000
set_option maxHeartbeats 4000000
/-! two for's: a range object, a tuple that the turn makes; a test at the end -/
namespace Lw
open PySem L2
open Evl (Ex)
section
variable {K : PySem.W.Frag} {σ : L2.St} {G H : Hp} {tr tl te : TE} {t1 : TT} {P : VP}
theorem ef_lc2T {j j1 : Nat} {vs vs1 : List Nat} {n : Int} (ys : List V) (I : Nat → Nat → List V → Hp → Prop) (h : EF tr σ G fun v G' => ∃ a, v = .ref a ∧ G' a = some (.rng 0 n)) (hn : 0 ≤ n ∧ n ≤ 1000)
    (hw : ∀ x, wipe ((wipe σ vs).set j (some x)) vs = wipe σ vs) (hw1 : ∀ x y, wipe ((wipe ((wipe σ vs).set j (some x)) vs1).set j1 (some y)) vs1 = wipe ((wipe σ vs).set j (some x)) vs1) (h0 : ∀ G', Ex G G' → I 0 0 [] G')
    (hx : ∀ (i : Nat) xs G', (i : Int) < n → I i ys.length xs G' → I (i + 1) 0 xs G')
    (hl : ∀ (i : Nat) G', Ex G G' → (i : Int) < n → EF tl ((wipe σ vs).set j (some (.int (i : Int)))) G' fun v G'' => ∃ a, v = .ref a ∧ SqT K G'' a ys)
    (hm : ∀ i k xs G' G'', Ex G' G'' → I i k xs G' → I i k xs G'')
    (hs : ∀ (i k : Nat) y xs G', Ex G G' → (i : Int) < n → ys[k]? = some y → I i k xs G' → EC t1 te ((wipe ((wipe σ vs).set j (some (.int (i : Int)))) vs1).set j1 (some y)) G' (fun G' => I i (k + 1) xs G') fun y G' => I i (k + 1) (xs ++ [y]) G')
    (hc : ∀ i k xs G', I i k xs G' → xs.length ≤ 1000000)
    (hP : ∀ p xs G', G p = none → G' p = none → Ex G G' → I n.toNat 0 xs G' → P (.ref p) (upd G' p (.lst xs))) : EF (tLc2 (iRngV tr) (gName j) tYes (iTup K tl) (gName j1) t1 te vs vs1) σ G P := fun H0 e Q q => h H0 e _ fun v G1 H1 g1 ⟨a, ev, ha⟩ => by
  refine ⟨a, 0, n, ev, g1.ok _ _ ha, ⟨by omega, by omega, by omega, by omega⟩, fun Dl hD => ?_⟩
  have en : (n - 0).toNat = n.toNat := by omega
  rw [en]
  refine ⟨fun i m H' => m = n.toNat - i ∧ i ≤ n.toNat ∧ CX2 G1 H1 Dl (I i 0) H', ⟨n.toNat, by simp, Nat.zero_le _, ?_⟩, ?_⟩
  · exact ⟨G1, [], Ex.refl _, ex_off g1.ok (none_back g1.ok hD), none_back g1.ok hD, upd_same, h0 G1 g1.up, Ex.new hD, fun _ _ h => h⟩
  · rintro i m H' ⟨rfl, hi, p⟩
    by_cases hlt : i < n.toNat
    · refine .inr ⟨hlt, fun H'' => CX2 G1 H1 Dl (I (i + 1) 0) H'', fun H'' p' => ⟨n.toNat - (i + 1), by omega, rfl, hlt, p'⟩, fun x H'' yy => ?_⟩
      obtain ⟨ey, yy⟩ := yy
      subst ey yy
      have e0 : (0 : Int) + (i : Int) = (i : Int) := Int.zero_add _
      rw [e0]
      refine ⟨hw _, tyes_go (iteT ?_)⟩
      obtain ⟨G', xs, e1, e2, gD, hd, hI, e3, hcc⟩ := p
      refine hl i G' (g1.up.trans e1) (by omega) _ e2 _ fun v G2 H2 g2 ⟨a, ea, hsl⟩ => ?_
      refine ⟨a, ea, ⟨ys, Evl.ex_t g2.ok hsl⟩, fun k m H' => m = ys.length - k ∧ k ≤ ys.length ∧ CX2 G1 H1 Dl (fun xs G3 => Ex G2 G3 ∧ I i k xs G3) H', ⟨ys.length, by simp, Nat.zero_le _, ?_⟩, ?_⟩
      · exact ⟨G2, xs, e1.trans g2.up, g2.ok, g2.2.2.2 Dl (ne_none_of hd) gD, g2.hp _ _ hd, ⟨Ex.refl _, hm _ _ _ _ _ g2.up hI⟩, e3.trans g2.hp, fun b hb gb => g2.2.2.2 b (exNe e3 hb) (hcc b hb gb)⟩
      · rintro k m H3 ⟨rfl, hk, p3⟩
        obtain ⟨G4, xs4, f1, f2, fD, fd, ⟨fe, fI⟩, f3, fc⟩ := p3
        have hsl3 := Evl.ex_t (fe.trans f2) hsl
        by_cases hkl : k < ys.length
        · refine .inr ⟨⟨ys, ys[k], hsl3, by simp [hkl]⟩, fun H'' => CX2 G1 H1 Dl (fun xs G3 => Ex G2 G3 ∧ I i (k + 1) xs G3) H'', fun H'' p' => ⟨ys.length - (k + 1), by omega, rfl, hkl, p'⟩, fun y H'' yy => ?_⟩
          obtain ⟨ey, yy⟩ := yy
          subst ey
          have hyk := yy ys hsl3
          refine ⟨hw1 _ _, ?_⟩
          refine hs i k y xs4 G4 (g1.up.trans f1) (by omega) hyk fI _ f2 (fun o H5 => match o with | some y5 => ∃ acc, H5 Dl = some (.lst acc) ∧ acc.length < sizeLine ∧ CX2 G1 H1 Dl (fun xs G3 => Ex G2 G3 ∧ I i (k + 1) xs G3) (upd H5 Dl (.lst (acc ++ [y5]))) | none => CX2 G1 H1 Dl (fun xs G3 => Ex G2 G3 ∧ I i (k + 1) xs G3) H5) (fun H5 e5 hN => ?_) (fun v5 G5 H5 g5 p5 => ?_)
          · exact ⟨G4, xs4, f1, f2.trans e5, fD, e5 _ _ fd, ⟨fe, hN⟩, f3.trans e5, fc⟩
          · have g5D : G5 Dl = none := g5.2.2.2 Dl (ne_none_of fd) fD
            exact ⟨xs4, g5.hp _ _ fd, Nat.lt_of_le_of_lt (hc _ _ _ _ fI) (by decide), ⟨G5, xs4 ++ [v5], f1.trans g5.up, ex_off g5.ok g5D, g5D, upd_same, ⟨fe.trans g5.up, p5⟩, ex_off (f3.trans g5.hp) hD, fun b hb gb => g5.2.2.2 b (exNe f3 hb) (fc b hb gb)⟩⟩
        · have ek : k = ys.length := by omega
          subst ek
          exact .inl ⟨⟨ys, hsl3, Nat.le_refl _⟩, G4, xs4, f1, f2, fD, fd, hx _ _ _ (by omega) fI, f3, fc⟩
    · have ei : i = n.toNat := by omega
      subst ei
      refine .inl ⟨Nat.le_refl _, ?_⟩
      obtain ⟨G', xs, e1, e2, gD, hd, hI, e3, hcc⟩ := p
      refine q _ (upd G' Dl (.lst xs)) H' (g1.trans ⟨e1.trans (ex_in gD), ex_know e2 hd, e3, fun a h g => ?_⟩) (hP Dl xs G' (none_back (g1.up.trans g1.ok) hD) gD (g1.up.trans e1) hI)
      rw [upd_ne (fun z => h (by rw [z]; exact hD))]
      exact hcc a h g
end
end Lw

set_option Elab.async false
set_option linter.all false
set_option maxRecDepth 100000
set_option maxHeartbeats 4000000
/-! a try's body that tells, its clause that tells the error -/
namespace Lw
open PySem L2
open Evl (Ex)
section
variable {K : PySem.W.Frag} {σ : L2.St} {G H : Hp} {te ta tb : TE} {P : VP} {D : Ends}
/-- te returns a v with P at this very heap (what it lets out is met) -/
def TR (te : TE) (σ : L2.St) (G H : Hp) (P : VP) : Prop := ∀ Q : VK, (∀ v G' H', Gr G G' H H' → P v G' → Q v H') → te σ H Q
theorem st_told {s : Str} (h : TR te σ G H P) (k : ∀ q v G' H', Gr G G' H H' → P v G' → H' q = none → D.rt (.ref q) (upd H' q (.tup [.str s, v]))) : tRet (tTup (tCons (tC (.str s)) (tCons te tNil))) D σ H :=
  h (fun v H' => [V.str s, v].length ≤ sizeLine ∧ ∀ p, H' p = none → D.rt (.ref p) (upd H' p (.tup [.str s, v]))) fun v G' H' g p => ⟨by show 2 ≤ sizeLine; decide, fun q hq => k q v G' H' g p hq⟩
theorem tr_meth1 {C a : Addr} {m : Str} {sp : Sp} {E : L2.St → XK} {i j : Nat} {y : V} (hG : Ex G H) (ho : σ[i]? = some (some (.ref a))) (hI : ∃ dx fs, G a = some (.ins C dx fs) ∧ fs.lookup m = none) (hb : σ[j]? = some (some y)) (k : ∀ Q : VK, (∀ v G' H', Gr G G' H H' → P v G' → Q v H') → sp [.ref a, y] H Q (E σ)) :
    TR (tMethX C m sp [] E (tVar i) (tCons (tVar j) tNil)) σ G H P := fun Q q => by
  obtain ⟨dx, fs, h1, h2⟩ := hI
  exact ⟨.ref a, ho, a, dx, fs, rfl, hG _ _ h1, h2, y, hb, k Q q⟩
theorem tr_meth2 {C a : Addr} {m : Str} {sp : Sp} {E : L2.St → XK} {i j : Nat} {y z : V} (hG : Ex G H) (ho : σ[i]? = some (some (.ref a))) (hI : ∃ dx fs, G a = some (.ins C dx fs) ∧ fs.lookup m = none) (hb : σ[j]? = some (some y)) (hz : ∀ (H : Hp) (Q : VK), Q z H → tb σ H Q) (k : ∀ Q : VK, (∀ v G' H', Gr G G' H H' → P v G' → Q v H') → sp [.ref a, y, z] H Q (E σ)) :
    TR (tMethX C m sp [] E (tVar i) (tCons (tVar j) (tCons tb tNil))) σ G H P := fun Q q => by
  obtain ⟨dx, fs, h1, h2⟩ := hI
  exact ⟨.ref a, ho, a, dx, fs, rfl, hG _ _ h1, h2, y, hb, hz _ _ (k Q q)⟩
theorem tr_kw1 {C a : Addr} {m : Str} {sp : Sp} {gV : List V → List V → List V} {E : L2.St → XK} {i j : Nat} {y z : V} (hG : Ex G H) (ho : σ[i]? = some (some (.ref a))) (hI : ∃ dx fs, G a = some (.ins C dx fs) ∧ fs.lookup m = none) (hb : σ[j]? = some (some y)) (hz : ∀ (H : Hp) (Q : VK), Q z H → tb σ H Q) (k : ∀ Q : VK, (∀ v G' H', Gr G G' H H' → P v G' → Q v H') → sp (gV [.ref a, y] [z]) H Q (E σ)) :
    TR (tMethKX C m sp gV E (tVar i) (tCons (tVar j) tNil) (tCons tb tNil)) σ G H P := fun Q q => by
  obtain ⟨dx, fs, h1, h2⟩ := hI
  exact ⟨.ref a, ho, a, dx, fs, rfl, hG _ _ h1, h2, y, hb, hz _ _ (k Q q)⟩
theorem tr_kw0 {C a : Addr} {m : Str} {sp : Sp} {gV : List V → List V → List V} {E : L2.St → XK} {i : Nat} {y z : V} (hG : Ex G H) (ho : σ[i]? = some (some (.ref a))) (hI : ∃ dx fs, G a = some (.ins C dx fs) ∧ fs.lookup m = none) (hy : ∀ (H : Hp) (Q : VK), Q y H → ta σ H Q) (hz : ∀ (H : Hp) (Q : VK), Q z H → tb σ H Q) (k : ∀ Q : VK, (∀ v G' H', Gr G G' H H' → P v G' → Q v H') → sp (gV [.ref a] [y, z]) H Q (E σ)) :
    TR (tMethKX C m sp gV E (tVar i) tNil (tCons ta (tCons tb tNil))) σ G H P := fun Q q => by
  obtain ⟨dx, fs, h1, h2⟩ := hI
  exact ⟨.ref a, ho, a, dx, fs, rfl, hG _ _ h1, h2, hy _ _ (hz _ _ (k Q q))⟩
theorem ea_x {x : V} {tr : TA} {xs : List V} (ha : EF ta σ G (XV x)) (hr : EA tr σ G fun vs _ => vs = xs) : EA (tCons ta tr) σ G fun vs _ => vs = x :: xs := ea_cons (Pa := XV x) mo_XV (fun vs G G' e h => h) ha hr fun y ys G' _ hy hys => by rw [show y = _ from hy, hys]
/-- what a clause tells of an error with one int -/
def errD (nm : Str) (b : Int) (r1 r2 r3 : Bool) : PyData := .tuple [.str nm, .int b, .bool r1, .bool r2, .bool r3]
theorem st_err {nm f : Str} {C a d : Addr} {b : Int} {c1 c2 c3 : V} {v1 v2 v3 : Value} {r1 r2 r3 : Bool} {i : Nat} (hG : Ex G H) (hd : G d = some (.xd [(f, .int b)])) (hi : σ[i]? = some (some (.ref a)))
    (h1 : ∀ u, RelV c1 u → u = v1) (h2 : ∀ u, RelV c2 u → u = v2) (h3 : ∀ u, RelV c3 u → u = v3) (k1 : PySem.W.kitOne K (.ref C) v1 = some r1) (k2 : PySem.W.kitOne K (.ref C) v2 = some r2) (k3 : PySem.W.kitOne K (.ref C) v3 = some r3)
    (k : ∀ v G' H', Gr G G' H H' → Dp K G' v (errD nm b r1 r2 r3) → D.rt v H') :
    tRet (tTup (tCons (tC (.str nm)) (tCons (tXf a (.ref C) (some d) C f (tVar i)) (tCons (tCB (rIsX K C a (.ref C) (some d)) (tCons (tVar i) (tCons (tC c1) tNil))) (tCons (tCB (rIsX K C a (.ref C) (some d)) (tCons (tVar i) (tCons (tC c2) tNil))) (tCons (tCB (rIsX K C a (.ref C) (some d)) (tCons (tVar i) (tCons (tC c3) tNil))) tNil)))))) D σ H := by
  have hl : List.lookup f [(f, V.int b)] = some (.int b) := by simp [List.lookup]
  refine st_ret (P := DV K (errD nm b r1 r2 r3)) hG (ef_tup (ea_x ex_c (ea_x (ef_xf (ex_var hi) hd hl) (ea_x (ef_isX (ex_var hi) hd ex_c h1 k1) (ea_x (ef_isX (ex_var hi) hd ex_c h2 k2) (ea_x (ef_isX (ex_var hi) hd ex_c h3 k3) ea_nil))))) (fun vs _ h => by rw [h]; simp) fun q vs G' _ _ _ ev => ?_) fun v G' H' g p => k v G' H' g p
  exact dp_mkT upd_same (by rw [ev]; exact .cons (.str _) (.cons (.int _) (.cons (.bl _) (.cons (.bl _) (.cons (.bl _) .nil)))))
end
end Lw

set_option Elab.async false
set_option linter.all false
set_option maxRecDepth 100000
set_option maxHeartbeats 4000000
/-! tracks that are changed; slices, sums of lists, lists of ranges -/
namespace Lw
open PySem L2
open Evl (Ex)
theorem JOk.most {n : Int} {parks : List Int} {js : List (Int × Int)} (h : JOk n parks js) : ∀ b, b ∉ parks → (eo js b).length ≤ 2 ∧ (wo js b).length ≤ 2 := by
  induction h with
  | nil => intro b _; exact ⟨by simp [eo], by simp [wo]⟩
  | snoc hj hn ih =>
    rename_i js w e
    intro b hb
    obtain ⟨h1, h2⟩ := ih b hb
    constructor
    · by_cases c : w = b
      · subst c
        rw [eo_snoc_same, List.length_append, List.length_singleton]
        have := hn.ew hb
        omega
      · rw [eo_snoc_ne js c]; exact h1
    · by_cases c : e = b
      · subst c
        rw [wo_snoc_same, List.length_append, List.length_singleton]
        have := hn.we hb
        omega
      · rw [wo_snoc_ne js c]; exact h2
theorem eo_sub {js ks : List (Int × Int)} (h : js.Sublist ks) (b : Int) : (eo js b).length ≤ (eo ks b).length := by
  unfold eo
  rw [List.length_map, List.length_map]
  exact (h.filter _).length_le
theorem wo_sub {js ks : List (Int × Int)} (h : js.Sublist ks) (b : Int) : (wo js b).length ≤ (wo ks b).length := by
  unfold wo
  rw [List.length_map, List.length_map]
  exact (h.filter _).length_le
theorem JOk.sub {n : Int} {parks : List Int} {js : List (Int × Int)} (h : JOk n parks js) : ∀ {ks : List (Int × Int)}, ks.Sublist js → JOk n parks ks := by
  induction h with
  | nil => intro ks hs; rw [List.sublist_nil.mp hs]; exact .nil
  | snoc hj hn ih =>
    rename_i js w e
    intro ks hs
    obtain ⟨l1, l2, rfl, h1, h2⟩ := List.sublist_append_iff.mp hs
    have c : l2 = [] ∨ l2 = [(w, e)] := by
      cases l2 with
      | nil => exact .inl rfl
      | cons x r =>
        have hl := h2.length_le
        have hr : r = [] := by
          cases r with
          | nil => rfl
          | cons y r => simp at hl
        subst hr
        have m := h2.subset (List.mem_cons_self (a := x) (l := []))
        right
        simpa using m
    rcases c with rfl | rfl
    · rw [List.append_nil]; exact ih h1
    · refine .snoc (ih h1) ⟨hn.lo, hn.lt, hn.hi, fun m => hn.new (h1.subset m), fun z => ?_, fun z => ?_⟩
      · have a := hn.ew z
        have b := (hj.most w z).1
        have c := eo_sub h1 w
        omega
      · have a := hn.we z
        have b := (hj.most e z).2
        have c := wo_sub h1 e
        omega
theorem JOk.parks {n : Int} {parks parks2 : List Int} {js : List (Int × Int)} (h : JOk n parks js) (hs : ∀ b, 0 ≤ b → b < n → b ∈ parks → b ∈ parks2) : JOk n parks2 js := by
  induction h with
  | nil => exact .nil
  | snoc hj hn ih =>
    have l1 := hn.lo
    have l2 := hn.lt
    have l3 := hn.hi
    exact .snoc ih ⟨hn.lo, hn.lt, hn.hi, hn.new, fun z => hn.ew fun y => z (hs _ (by omega) (by omega) y), fun z => hn.we fun y => z (hs _ (by omega) (by omega) y)⟩
def mnI (a b : Int) : Int := if b < a then b else a
def mxI (a b : Int) : Int := if b > a then b else a
/-- a block joined to all others: the joints to the first i blocks -/
def nwJ (hub : Int) : Nat → List (Int × Int)
  | 0 => []
  | i + 1 => nwJ hub i ++ (if (i : Int) = hub then [] else [(mnI hub (i : Int), mxI hub (i : Int))])
theorem nwJ_len (hub : Int) : ∀ i, (nwJ hub i).length ≤ i
  | 0 => Nat.le_refl _
  | i + 1 => by
    have := nwJ_len hub i
    unfold nwJ
    rw [List.length_append]
    split
    · simp; omega
    · simp; omega
theorem throat_ok {n : Nat} {parks : List Int} {kept : List (Int × Int)} {hub : Int} (hk : JOk (n : Int) parks kept) (hh : hub ∈ parks) (h0 : 0 ≤ hub) (h1 : hub < (n : Int)) (no : ∀ p ∈ kept, p.1 ≠ hub ∧ p.2 ≠ hub)
    (hc : (hub = 0 ∧ ∀ b : Int, 0 ≤ b → b < (n : Int) → b ∉ parks → (wo kept b).length ≠ 2) ∨ (hub = (n : Int) - 1 ∧ ∀ b : Int, 0 ≤ b → b < (n : Int) → b ∉ parks → (eo kept b).length ≠ 2)) :
    ∀ i : Nat, i ≤ n → JOk (n : Int) parks (kept ++ nwJ hub i) ∧ ∀ p ∈ nwJ hub i, (p.1 = hub ∧ p.2 < (i : Int)) ∨ (p.2 = hub ∧ p.1 < (i : Int)) := by
  intro i
  induction i with
  | zero =>
    intro _
    refine ⟨?_, fun p m => ?_⟩
    · show JOk (n : Int) parks (kept ++ [])
      rw [List.append_nil]; exact hk
    · cases m
  | succ i ih =>
    intro hi
    obtain ⟨q1, q2⟩ := ih (by omega)
    unfold nwJ
    by_cases c : (i : Int) = hub
    · rw [if_pos c, List.append_nil]
      exact ⟨q1, fun p m => by have := q2 p m; omega⟩
    · rw [if_neg c, ← List.append_assoc]
      refine ⟨?_, fun p m => ?_⟩
      · rcases hc with ⟨rfl, hw⟩ | ⟨rfl, he⟩
        · have e1 : mnI 0 (i : Int) = 0 := by unfold mnI; split <;> omega
          have e2 : mxI 0 (i : Int) = (i : Int) := by unfold mxI; split <;> omega
          rw [e1, e2]
          refine .snoc q1 ⟨by omega, by omega, by omega, fun m => ?_, fun z => absurd hh z, fun z => ?_⟩
          · rcases List.mem_append.mp m with m | m
            · exact (no _ m).1 rfl
            · have := q2 _ m
              simp only at this
              omega
          · have e3 : wo (nwJ 0 i) (i : Int) = [] := by
              unfold wo
              rw [List.map_eq_nil_iff, List.filter_eq_nil_iff]
              intro p m hp
              have e4 := of_decide_eq_true hp
              have := q2 p m
              omega
            have e5 : wo (kept ++ nwJ 0 i) (i : Int) = wo kept (i : Int) := by
              have : wo (kept ++ nwJ 0 i) (i : Int) = wo kept (i : Int) ++ wo (nwJ 0 i) (i : Int) := by
                unfold wo
                rw [List.filter_append, List.map_append]
              rw [this, e3, List.append_nil]
            rw [e5]
            exact hw _ (by omega) (by omega) z
        · have e1 : mnI ((n : Int) - 1) (i : Int) = (i : Int) := by unfold mnI; split <;> omega
          have e2 : mxI ((n : Int) - 1) (i : Int) = (n : Int) - 1 := by unfold mxI; split <;> omega
          rw [e1, e2]
          refine .snoc q1 ⟨by omega, by omega, by omega, fun m => ?_, fun z => ?_, fun z => absurd hh z⟩
          · rcases List.mem_append.mp m with m | m
            · exact (no _ m).2 rfl
            · have := q2 _ m
              simp only at this
              omega
          · have e3 : eo (nwJ ((n : Int) - 1) i) (i : Int) = [] := by
              unfold eo
              rw [List.map_eq_nil_iff, List.filter_eq_nil_iff]
              intro p m hp
              have e4 := of_decide_eq_true hp
              have := q2 p m
              omega
            have e5 : eo (kept ++ nwJ ((n : Int) - 1) i) (i : Int) = eo kept (i : Int) := by
              have : eo (kept ++ nwJ ((n : Int) - 1) i) (i : Int) = eo kept (i : Int) ++ eo (nwJ ((n : Int) - 1) i) (i : Int) := by
                unfold eo
                rw [List.filter_append, List.map_append]
              rw [this, e3, List.append_nil]
            rw [e5]
            exact he _ (by omega) (by omega) z
      · rcases List.mem_append.mp m with m | m
        · have := q2 p m
          omega
        · have e : p = (mnI hub (i : Int), mxI hub (i : Int)) := by simpa using m
          subst e
          simp only
          unfold mnI mxI
          split <;> split <;> omega
section
variable {K : PySem.W.Frag} {C : Addr} {σ : L2.St} {G G' H H' : Hp} {ta tb te tc tr : TE} {P : VP} {D : Ends}
/-- a drawn track with few joints -/
def TVB (K : PySem.W.Frag) (m : Int) : VP := fun v G => ∃ t, TrkOk t ∧ (t.lens.length : Int) ≤ m ∧ t.joints.length ≤ 2 * t.lens.length ∧ Dp K G v (dT t)
def spTrackB (K : PySem.W.Frag) : Sp := fun vs H Q _ => ∃ (G : Hp) (c : Int) (m : Int), Ex G H ∧ vs = [.int c, .int m] ∧ 2 ≤ m ∧ m ≤ 60 ∧ Ret G H (TVB K m) Q
theorem sa_trackB {c m : Int} (h1 : 2 ≤ m) (h2 : m ≤ 60) : SA (spTrackB K) [.int c, .int m] G (TVB K m) := fun H e Q _ q => ⟨G, c, m, e, rfl, h1, h2, q⟩
theorem mo_TVB {m} : Mo (TVB K m) := fun _ _ _ e ⟨t, h, l, b, d⟩ => ⟨t, h, l, b, dpx d e⟩
/-- x in, x not in a tuple of two ints -/
theorem eqV_int (a b : Int) : eqV (.int a) (.int b) = decide (a = b) := by
  by_cases h : a = b
  · subst h; simp [eqV]
  · simp [eqV, h]
theorem ex_niP {q : Int × Int} {v : V} {z : Int} (ha : EF ta σ G (XV (.int z))) (hb : EF tb σ G (XV v)) (hv : Dp K G v (dP q)) : EF (tOp (rIn K true) ta tb) σ G (XV (.bl (!decide (z = q.1 ∨ z = q.2)))) := by
  obtain ⟨t, xs, rfl, hs, hd⟩ := dp_tup hv
  have ex := dpa_ints_eq (zs := [q.1, q.2]) hd
  subst ex
  refine ef_op mo_XV mo_XV ha hb fun x y G' e hx hy => ?_
  cases (show x = _ from hx)
  cases (show y = _ from hy)
  refine fun H e2 Q k => ⟨t, _, rfl, .inr (Evl.ex_t (e.trans e2) hs), rfl, rfl, k _ G' H (.refl e2) ?_⟩
  show V.bl _ = V.bl _
  rw [if_pos rfl]
  unfold inV
  simp only [List.map_cons, List.map_nil, List.any_cons, List.any_nil, eqV_int, Bool.or_false]
  have e3 : (decide (q.1 = z) || decide (q.2 = z)) = decide (z = q.1 ∨ z = q.2) := by
    rw [Bool.eq_iff_iff]
    simp only [Bool.or_eq_true, decide_eq_true_eq]
    exact ⟨fun h => h.elim (fun h => .inl h.symm) fun h => .inr h.symm, fun h => h.elim (fun h => .inl h.symm) fun h => .inr h.symm⟩
  rw [e3]
/-- a list that stands in the heap as such -/
def LS (K : PySem.W.Frag) (ds : List PyData) : VP := fun v G => ∃ l xs, v = .ref l ∧ G l = some (.lst xs) ∧ DpAll K G xs ds
theorem mo_LS {ds : List PyData} : Mo (LS K ds) := fun v G G' e ⟨l, xs, ev, h, d⟩ => ⟨l, xs, ev, e _ _ h, dpax d e⟩
theorem LS.dp {ds : List PyData} {v : V} (h : LS K ds v G) : Dp K G v (.list ds) := by
  obtain ⟨l, xs, rfl, h, d⟩ := h
  exact dp_mkL h d
theorem EF.ls_dv {ds : List PyData} (h : EF te σ G (LS K ds)) : EF te σ G (DV K (.list ds)) := h.imp fun v G' _ p => p.dp
theorem el_cat {ls ms : List PyData} (ha : EF ta σ G (LS K ls)) (hb : EF tb σ G (LS K ms)) (hz : ls.length + ms.length ≤ 100000) : EF (tOp rCat ta tb) σ G (LS K (ls ++ ms)) :=
  ef_op mo_LS mo_LS ha hb fun x y G' e ⟨l, xs, ex, h1, d1⟩ ⟨b, ys, ey, h2, d2⟩ => fun H e2 Q k => by
    refine ⟨l, b, xs, ys, ex, ey, e2 _ _ h1, e2 _ _ h2, ?_, fun p hp => k _ _ _ (.new e2 hp) ⟨p, _, rfl, upd_same, ?_⟩⟩
    · rw [dpa_len d1, dpa_len d2]
      exact Nat.le_trans hz (by decide)
    · have e3 := ex_in (o := .lst (xs ++ ys)) (none_back e2 hp)
      exact dpa_app (dpax d1 e3) (dpax d2 e3)
where
  dpa_app {G : Hp} : ∀ {vs us : List V} {ds es : List PyData}, DpAll K G vs ds → DpAll K G us es → DpAll K G (vs ++ us) (ds ++ es)
    | _, _, _, _, .nil, h => h
    | _, _, _, _, .cons a r, h => .cons a (dpa_app r h)
theorem el_list {ds : List PyData} (ha : EF ta σ G (DV K (.list ds))) : EF (tCB (Evl.rListS K) (tCons ta tNil)) σ G (LS K ds) := (ed_list ha).imp fun v G' _ ⟨p, xs, ev, _, hp, hd⟩ => ⟨p, xs, ev, hp, hd⟩
theorem el_lst {ta : TA} {R : List V → Hp → Prop} {ds : List PyData} (h : EA ta σ G R) (hl : ds.length ≤ 1000) (hR : ∀ vs G', Ex G G' → R vs G' → DpAll K G' vs ds) : EF (tLst ta) σ G (LS K ds) := fun H e Q q =>
  h H e _ fun vs G1 H1 g1 p1 => by
    have d := hR vs G1 g1.up p1
    exact ⟨by rw [dpa_len d]; exact Nat.le_trans hl (by decide), fun p hp => q _ _ _ (g1.trans (.new g1.ok hp)) ⟨p, vs, rfl, upd_same, dpax d (ex_in (none_back g1.ok hp))⟩⟩
def rgI (n : Nat) : List Int := (List.range n).map fun b => ((b : Nat) : Int)
/-- list(range(n)) -/
theorem el_rg {n : Nat} (ha : EF ta σ G (XV (.int (n : Int)))) (hn : n ≤ 100000) : EF (tLstRg (tRg1 ta)) σ G (LS K ((rgI n).map PyData.int)) := fun H e Q q => ha H e _ fun x G1 H1 g1 hx => by
  refine ⟨(n : Int), hx, ⟨by omega, by omega, by omega, by omega, by omega⟩, fun p hp => ?_⟩
  refine q _ _ _ (g1.trans (.new g1.ok hp)) ⟨p, _, rfl, upd_same, ?_⟩
  have ev : rgV 0 (n : Int) = (rgI n).map V.int := by
    unfold rgV rgI
    have e0 : ((n : Int) - 0).toNat = n := by omega
    rw [e0, List.map_map]
    refine List.map_congr_left fun b _ => ?_
    show V.int _ = V.int _
    rw [Int.zero_add]
  rw [ev]
  exact dpa_ints _
theorem mem_rgI {n : Nat} {b : Int} : b ∈ rgI n ↔ 0 ≤ b ∧ b < (n : Int) := by
  unfold rgI
  rw [List.mem_map]
  constructor
  · rintro ⟨a, m, rfl⟩
    have := List.mem_range.mp m
    omega
  · intro h
    exact ⟨b.toNat, List.mem_range.mpr (by omega), by omega⟩
theorem rgI_len {n : Nat} : (rgI n).length = n := by unfold rgI; rw [List.length_map, List.length_range]
/-- xs[k:], k written -/
theorem cutV_from {xs : List V} {k : Nat} : cutV xs (some (k : Int)) none = xs.drop k := by
  unfold cutV
  rw [HT.sIx_nat, HT.sIx_none, List.take_of_length_le (by rw [List.length_drop]; exact Nat.le_refl _)]
  by_cases h : k ≤ xs.length
  · rw [Nat.min_eq_left h]
  · rw [Nat.min_eq_right (by omega), List.drop_of_length_le (Nat.le_refl _), List.drop_of_length_le (by omega)]
theorem cutV_to {xs : List V} {k : Nat} : cutV xs none (some (k : Int)) = xs.take k := by
  unfold cutV
  rw [HT.sIx_nat, HT.sIx_none, List.drop_zero, Nat.sub_zero]
  by_cases h : k ≤ xs.length
  · rw [Nat.min_eq_left h]
  · rw [Nat.min_eq_right (by omega), List.take_of_length_le (Nat.le_refl _), List.take_of_length_le (by omega)]
theorem dpa_drop {G : Hp} : ∀ {vs : List V} {ds : List PyData} (k : Nat), DpAll K G vs ds → DpAll K G (vs.drop k) (ds.drop k)
  | _, _, 0, h => h
  | _, _, k + 1, .nil => .nil
  | _, _, k + 1, .cons _ r => dpa_drop k r
theorem dpa_take {G : Hp} : ∀ {vs : List V} {ds : List PyData} (k : Nat), DpAll K G vs ds → DpAll K G (vs.take k) (ds.take k)
  | _, _, 0, h => .nil
  | _, _, k + 1, .nil => .nil
  | _, _, k + 1, .cons a r => .cons a (dpa_take k r)
theorem el_from {ds : List PyData} {k : Nat} (ha : EF ta σ G (DV K (.list ds))) (hb : EF tb σ G (XV (.int (k : Int)))) : EF (tSl (rSlL K) ta (tPart tb) tNoPart) σ G (LS K (ds.drop k)) := fun H e Q q => ha H e _ fun x G1 H1 g1 hx => hb H1 (g1.up.trans g1.ok) _ fun y G2 H2 g2 hy => by
  obtain ⟨a, xs, rfl, hs, hall⟩ := dp_lst hx
  obtain ⟨G3, e1, e2, g3⟩ := g1.join g2
  refine ⟨(k : Int), hy, a, xs, rfl, Evl.ex_l (e1.trans g3.ok) hs, fun p hp => ?_⟩
  refine q _ _ _ (g3.trans (.new g3.ok hp)) ⟨p, _, rfl, upd_same, ?_⟩
  rw [cutV_from]
  exact dpa_drop k (dpax hall (e1.trans (ex_in (none_back g3.ok hp))))
theorem el_to {ds : List PyData} {k : Nat} (ha : EF ta σ G (DV K (.list ds))) (hb : EF tb σ G (XV (.int (k : Int)))) : EF (tSl (rSlL K) ta tNoPart (tPart tb)) σ G (LS K (ds.take k)) := fun H e Q q => ha H e _ fun x G1 H1 g1 hx => hb H1 (g1.up.trans g1.ok) _ fun y G2 H2 g2 hy => by
  obtain ⟨a, xs, rfl, hs, hall⟩ := dp_lst hx
  obtain ⟨G3, e1, e2, g3⟩ := g1.join g2
  refine ⟨(k : Int), hy, a, xs, rfl, Evl.ex_l (e1.trans g3.ok) hs, fun p hp => ?_⟩
  refine q _ _ _ (g3.trans (.new g3.ok hp)) ⟨p, _, rfl, upd_same, ?_⟩
  rw [cutV_to]
  exact dpa_take k (dpax hall (e1.trans (ex_in (none_back g3.ok hp))))
end
end Lw

set_option Elab.async false
set_option linter.all false
set_option maxRecDepth 100000
set_option maxHeartbeats 4000000
/-! over a list that is made; lists of ints that are mapped; rows of tracks -/
namespace Lw
open PySem L2
open Evl (Ex)
section
variable {K : PySem.W.Frag} {C : Addr} {σ : L2.St} {G G' H H' : Hp} {ta tb te tc tr tl : TE} {P : VP} {D : Ends} {tu : TS} {g : TG}
theorem st_forD {xs : List V} (hG : Ex G H) (h : EF tl σ G fun v G' => ∃ a, v = .ref a ∧ SqL K G' a xs) (W : Nat → L2.St → Hp → Prop) (h0 : ∀ H', Ex H H' → W 0 σ H')
    (hs : ∀ i x σ' H' H1, xs[i]? = some x → W i σ' H' → Ex H1 H' → g x σ' H' fun σ2 H2 => tu { D with nx := fun s h => W (i + 1) s h ∧ Ex H1 h, ct := fun s h => W (i + 1) s h ∧ Ex H1 h, bk := D.nx } σ2 H2) (hd : ∀ σ' H', W xs.length σ' H' → D.nx σ' H') : tFor (iList K tl) g tu D σ H :=
  h H hG _ fun v G1 H1 g1 ⟨a, e, hx⟩ => ⟨a, e, ⟨xs, Evl.ex_l g1.ok hx⟩, for_list (fun i s h => W i s h ∧ Ex H1 h) ⟨h0 H1 g1.hp, Ex.refl _⟩ (fun i σ' H' _ w => Evl.ex_l (g1.ok.trans w.2) hx) (fun i x σ' H' hi w => hs i x σ' H' H1 hi w.1 w.2) fun σ' H' w => hd σ' H' w.1⟩
theorem el_mapI {ns : List Int} {g : Int → Int} {j : Nat} (h : EF tl σ G (DV K (dI ns))) (hn : ns.length ≤ 40000) (hw : ∀ x, wipe ((wipe σ [j]).set j (some x)) [j] = wipe σ [j]) (hs : ∀ G' z, Ex G G' → z ∈ ns → EF te ((wipe σ [j]).set j (some (.int z))) G' (XV (.int (g z)))) :
    EF (tLc (iList K tl) (gName j) tYes te [j]) σ G (LS K ((ns.map g).map PyData.int)) := by
  refine ef_lcL (xs := ns.map V.int) (fun i acc G' => DpAll K G' acc (((ns.take i).map g).map PyData.int)) (h.imp fun v G' e p => ?_) (by rw [List.length_map]; exact hn) hw (fun G' _ => .nil) (fun i x acc G' e1 hi hI => ?_) (fun p acc G' h1 h2 _ _ hI => ⟨p, acc, rfl, upd_same, ?_⟩)
  · obtain ⟨a, xs, rfl, hs, hd⟩ := dp_lst p
    have e := dpa_ints_eq hd
    subst e
    exact ⟨a, rfl, hs⟩
  · rw [List.getElem?_map] at hi
    obtain ⟨z, hz, rfl⟩ := Option.map_eq_some_iff.mp hi
    refine ec_all ((hs G' z e1 (List.mem_of_getElem? hz)).imp fun v G2 e2 p => ?_)
    rw [take_next hz, List.map_append, List.map_append]
    rw [show v = _ from p]
    exact dpa_snoc (dpax hI e2) (.int _)
  · rw [List.length_map, List.take_length] at hI
    exact dpax hI (ex_in h2)
theorem ed_t0 {t : Trk} {i : Nat} {v : V} (h : σ[i]? = some (some v)) (d : Dp K G v (dT t)) : EF (tOp (rIxT K) (tVar i) (tC (.int 0))) σ G (DV K (dI t.lens)) := ed_ixT (q := (· = 0)) (ef_var h d) (EF.iv ex_c) fun i hi => ⟨0, _, hi, rfl, fun v G' d => d⟩
theorem ed_t1 {t : Trk} {i : Nat} {v : V} (h : σ[i]? = some (some v)) (d : Dp K G v (dT t)) : EF (tOp (rIxT K) (tVar i) (tC (.int 1))) σ G (DV K (dPs t.joints)) := ed_ixT (q := (· = 1)) (ef_var h d) (EF.iv ex_c) fun i hi => ⟨1, _, hi, rfl, fun v G' d => d⟩
theorem ed_t2 {t : Trk} {i : Nat} {v : V} (h : σ[i]? = some (some v)) (d : Dp K G v (dT t)) : EF (tOp (rIxT K) (tVar i) (tC (.int 2))) σ G (DV K (dI t.parks)) := ed_ixT (q := (· = 2)) (ef_var h d) (EF.iv ex_c) fun i hi => ⟨2, _, hi, rfl, fun v G' d => d⟩
theorem ex_pow {a b : Int} (ha : EF ta σ G (XV (.int a))) (hb : EF tb σ G (XV (.int b))) (hc : CPow a b) : EF (tOp (rI CPow fun i j => .int (i ^ j.toNat)) ta tb) σ G (XV (.int (a ^ b.toNat))) := ef_op mo_XV mo_XV ha hb fun x y G' _ hx hy => by
  cases (show x = _ from hx)
  cases (show y = _ from hy)
  exact ro_I hc rfl
theorem ex_sub {a b : Int} (ha : EF ta σ G (XV (.int a))) (hb : EF tb σ G (XV (.int b))) : EF (tOp (rI0 fun i j => .int (i - j)) ta tb) σ G (XV (.int (a - b))) := ef_op mo_XV mo_XV ha hb fun x y G' _ hx hy => by
  cases (show x = _ from hx)
  cases (show y = _ from hy)
  exact ro_I0 rfl
theorem ex_mul {a b : Int} (ha : EF ta σ G (XV (.int a))) (hb : EF tb σ G (XV (.int b))) (hc : CMul a b) : EF (tOp (rI CMul fun i j => .int (i * j)) ta tb) σ G (XV (.int (a * b))) := ef_op mo_XV mo_XV ha hb fun x y G' _ hx hy => by
  cases (show x = _ from hx)
  cases (show y = _ from hy)
  exact ro_I hc rfl
theorem et_orD {t u : TT} {a b : Prop} [Decidable a] [Decidable b] (h1 : ET t σ G (· = decide a)) (h2 : ET u σ G (· = decide b)) : ET (tOr t u) σ G (· = decide (a ∨ b)) := et_or (p := (· = decide a)) (q := (· = decide b)) h1 (fun _ => h2) (fun h => (decide_eq_true (.inl (of_decide_eq_true h.symm))).symm) (fun h c hc => by
  have := of_decide_eq_false h.symm
  rw [hc]
  by_cases q : b
  · rw [decide_eq_true q, decide_eq_true (.inr q)]
  · rw [decide_eq_false q, decide_eq_false fun z => z.elim this q])
theorem et_andD {t u : TT} {a b : Prop} [Decidable a] [Decidable b] (h1 : ET t σ G (· = decide a)) (h2 : a → ET u σ G (· = decide b)) : ET (tAnd t u) σ G (· = decide (a ∧ b)) := et_and (p := (· = decide a)) (q := (· = decide b)) h1 (fun h => h2 (of_decide_eq_true h.symm)) (fun h c hc => by
  have := of_decide_eq_true h.symm
  rw [hc]
  by_cases q : b
  · rw [decide_eq_true q, decide_eq_true ⟨this, q⟩]
  · rw [decide_eq_false q, decide_eq_false fun z => q z.2]) (fun h => (decide_eq_false fun z => of_decide_eq_false h.symm z.1).symm)
theorem et_inI {a : Int} {l : List Int} (ha : EF ta σ G (XV (.int a))) (hb : EF tb σ G (DV K (dI l))) : ET (tTest (tOp (rInD K) ta tb)) σ G (· = decide (a ∈ l)) :=
  et_test ((ed_inD (d := .int a) (ds := l.map PyData.int) (EF.dv ha (.int a)) hb (sh_int _) (sh_ints _)).imp fun v _ _ ⟨b, e, hb⟩ => ⟨b, e, by rw [hb, any_int]⟩)
theorem et_ltI {a b : Int} (ha : EF ta σ G (XV (.int a))) (hb : EF tb σ G (XV (.int b))) : ET (tTest (tOp (rI0 fun i j => .bl (decide (i < j))) ta tb)) σ G (· = decide (a < b)) := et_test (ec_int (f := fun i j => decide (i < j)) (EF.iv ha) (EF.iv hb) fun x y hx hy => by rw [hx, hy])
theorem et_leI {a b : Int} (ha : EF ta σ G (XV (.int a))) (hb : EF tb σ G (XV (.int b))) : ET (tTest (tOp (rI0 fun i j => .bl (decide (i ≤ j))) ta tb)) σ G (· = decide (a ≤ b)) := et_test (ec_int (f := fun i j => decide (i ≤ j)) (EF.iv ha) (EF.iv hb) fun x y hx hy => by rw [hx, hy])
theorem et_gtI {a b : Int} (ha : EF ta σ G (XV (.int a))) (hb : EF tb σ G (XV (.int b))) : ET (tTest (tOp (rI0 fun i j => .bl (decide (i > j))) ta tb)) σ G (· = decide (a > b)) := et_test (ec_int (f := fun i j => decide (i > j)) (EF.iv ha) (EF.iv hb) fun x y hx hy => by rw [hx, hy])
theorem et_geI {a b : Int} (ha : EF ta σ G (XV (.int a))) (hb : EF tb σ G (XV (.int b))) : ET (tTest (tOp (rI0 fun i j => .bl (decide (i ≥ j))) ta tb)) σ G (· = decide (a ≥ b)) := et_test (ec_int (f := fun i j => decide (i ≥ j)) (EF.iv ha) (EF.iv hb) fun x y hx hy => by rw [hx, hy])
/-- len of data that is a list -/
theorem ex_lenD {ds : List PyData} (ha : EF ta σ G (DV K (.list ds))) : EF (tCB (Evl.rLenS K) (tCons ta tNil)) σ G (XV (.int (ds.length : Int))) := (ed_lenL ha).imp fun v _ _ ⟨z, ez, hz⟩ => by rw [ez, hz]; rfl
end
end Lw

set_option Elab.async false
set_option linter.all false
set_option maxRecDepth 100000
set_option maxHeartbeats 4000000
/-! a try with several clauses, each of which names its error -/
namespace Lw
open PySem L2
open PySem.Spec PyProof.Rows
/-- what stands behind a clause whose name is in slot i -/
def goneE (i : Nat) (D : Ends) : Ends := ⟨fun st h => D.nx (List.set st i none) h, D.rt, fun st h => D.bk (List.set st i none) h, fun st h => D.ct (List.set st i none) h⟩
/-- class, slot and suite of a clause -/
abbrev Cla := Value × Nat × (Addr → Value → Option Addr → TS)
def wCla (K : PySem.W.Frag) (W0 : WX) (D : Ends) : List Cla → WX
  | [] => W0
  | q :: r => fun c1 d1 st h1 => ∃ b, PySem.W.exmOne K c1 q.1 = some b ∧ (b = false → wCla K W0 D r c1 d1 st h1) ∧
      (b = true → ∀ e, h1 e = none → q.2.2 e c1 d1 (goneE q.2.1 D) (List.set st q.2.1 (some (.ref e))) h1)
inductive ClaOk (X : Cx) : List ExceptHandler → List Cla → Prop
  | nil : ClaOk X [] []
  | cons {x n : Str} {c : Value} {i : Nat} {ts : Addr → Value → Option Addr → TS} {b1 : Stmt} {bs : List Stmt} {p1 p2 : Pos} {hr : List ExceptHandler} {lr : List Cla}
      (hN : X.N[i]? = some n) (hL : X.env.kindOf n = some .local) (hC : Names X x c) (rest : ClaOk X hr lr)
      (hS : ∀ (e : Addr) (oe : Obj) (c1 : Value) (d1 : Option Addr) (pn : List (Addr × Obj)), Zc c1 d1 oe → (∃ vs, oe.data = .fields vs) → PSs (X.suite e ((e, oe) :: pn)) (b1 :: bs) (ts e c1 d1)) :
      ClaOk X (.ExceptHandler (some (.Name x p1)) (some n) (b1 :: bs) p2 :: hr) ((c, i, ts) :: lr)
theorem ps_tryN {X : Cx} {bd : List Stmt} {g0 : ExceptHandler} {gs : List ExceptHandler} {lr : List Cla} {pos : Pos} {tb : WX → TS} {W0 : WX} (st0 : X.stack = X.env :: X.outer) (fr0 : X.env.frame = some X.env.locals) (nd : X.N.Nodup) (tk : Takes X W0)
    (hB : ∀ (W : WX) (pn : List (Addr × Obj)) (xe : Value → Shared → Prop), Takes (X.tr pn xe) W → PassesOwn (model X.prog X.w) X.A X.env xe → PSs (X.tr pn xe) bd (tb W)) (hH : ClaOk X (g0 :: gs) lr) :
    PS X (.Try bd (g0 :: gs) [] [] pos) (fun D st h => tb (wCla X.K W0 D lr) D st h) := by
  constructor
  intro pins s0 st h D I q0
  have okX := I.ok
  have frs0 : X.A.frames = some (X.env :: X.outer) := okX.frames.trans (congrArg some st0)
  apply wpAny_Try_except
  have body := (hB (wCla X.K W0 D lr) (X.pn ++ pins) (fun e s₁ => wpAny (model X.prog X.w) X.A (noteFrame e X.env) (fun _ s₂ => wpAny (model X.prog X.w) X.A (setFlight e none) (fun _ s₃ => wpAny (model X.prog X.w) X.A (handleBy e X.env (g0 :: gs)) (SP X pins D) X.xe s₃) X.xe s₂) X.xe s₁)
    (fun u t xx => ?caught) PassesOwn.looking).run [] s0 st h D (I.toTry _) q0
  case caught =>
    obtain ⟨e, B, tI, pins1, st1, h1, c1, d1, rfl, I0, nb, up1, sky1, na, os1, ag1, w1⟩ := xx
    have I1 : Inv X pins st1 h1 tI := I0.ofTry okX
    rw [st0] at sky1
    show wpAny (model X.prog X.w) X.A (noteFrame (.ref e) X.env) _ _ _
    refine Sky.land Zc.steady frs0 fr0 sky1 fun t3 fl3 up3 => ?_
    have I3 : Inv X pins st1 h1 { t with heap := t3 } := I1.landed nb fl3.1 (up1.trans up3) os1 ag1
    obtain ⟨o3, f3, g3, z3, e3⟩ := fl3.there
    have off : e ∉ frs (X.env :: X.outer) := fun hm => by
      obtain ⟨_, o', g', no⟩ := fl3.2.2.1.mem hm
      exact no _ (by rw [g3] at g'; cases g'; exact e3)
    have eL : e ≠ X.env.locals := fun z => off (by rw [z]; exact List.mem_filterMap.mpr ⟨X.env, .head _, fr0⟩)
    have eF : e ∉ X.fs := fun hm => by
      obtain ⟨v, hv, qv⟩ := List.mem_filterMap.mp hm
      exact off (List.mem_filterMap.mpr ⟨v, .tail _ hv, qv⟩)
    have go : ∀ {hs : List ExceptHandler} {ls : List Cla}, ClaOk X hs ls → wCla X.K W0 D ls c1 d1 st1 h1 → wpAny (model X.prog X.w) X.A (handleBy (.ref e) X.env hs) (SP X pins D) X.xe { t with heap := t3 } := fun {hs ls} hk => by
      induction hk with
      | nil =>
        intro w
        apply wpAny_handleBy_nil
        obtain ⟨_, _, _, o, vs, T, oT, ts', gE, gZ, gD, gT, _⟩ := id fl3
        have fin : wpAny (model X.prog X.w) X.A (setFlight (.ref e) X.env.frame) (fun _ s4 => wpAny (model X.prog X.w) X.A (throw (.ref e) : Sem Flow) (SP X pins D) X.xe s4) X.xe { t with heap := t3 } := by
          rw [fr0]
          refine HandSPX.setFlight_upZ fl3 fun t4 k4 up4 => wpAny_throw (tk _ _ ⟨e, B, tI, pins, st1, h1, c1, d1, rfl, I1, nb, (up1.trans up3).trans up4, ?_, na, os1, ag1, w⟩)
          right; right
          rw [st0]
          exact k4
        unfold PySem.passOn
        refine wpAny_bind (wpAny_field gE gD gT ?_)
        rw [if_neg (by simp)]
        first
          | exact wpAny_bind (wpAny_pure (wpAny_bind fin))
          | exact wpAny_bind fin
      | @cons x n c i ts b1 bs p1 p2 hr lr hN hL hC rest hS ih =>
        rintro ⟨b, eb, kno, kyes⟩
        have S3 := I3.suite g3 e3 na eL eF
        have typ : PySem.W.Looks (model X.prog X.w) t3 (typeOf (.ref e)) c1 := fun A Q E s k q => wpAny_typeOf_ref (k _ _ g3) (z3.1 ▸ q)
        have mat := PySem.W.exm_one (M := model X.prog X.w) I3.kIn typ eb
        refine wpAny_handleBy_cons (codeAny_handlers_test ?_) (by intro q; cases q)
        have nm : ∀ {Q E : Value → Shared → Prop}, Q c { t with heap := t3 } → wpAny (model X.prog X.w) (X.A.mark (some (.ref e))) (eval (.Name x p1) X.env) Q E { t with heap := t3 } := by
          intro Q E q
          rcases hC with ⟨k1, k2, k3 | ⟨k3, k4, k5⟩⟩
          · exact ld_glob (X := X.suite e ((e, o3) :: (X.pn ++ pins))) S3 k1 k3 q k2
          · exact ld_blt (X := X.suite e ((e, o3) :: (X.pn ++ pins))) S3 k1 k3 k4 q k5 k2
        refine nm (mat.here ?_)
        match b, eb, kno, kyes with
        | false, _, kno, _ => exact ih (kno rfl)
        | true, _, _, kyes =>
          apply codeAny_handlers_suite_as
          refine HandSPX.lands_againZ fl3 fun t4 fl4 up4 => ?_
          obtain ⟨o4, f4, g4, z4, e4⟩ := fl4.there
          have S4 := (I1.landed nb fl4.1 ((up1.trans up3).trans up4) os1 ag1 : Inv X pins st1 h1 { t with heap := t4 }).suite g4 e4 na eL eF
          refine store_ok (X := X.suite e ((e, o4) :: (X.pn ++ pins))) (v := .ref e) S4 nd hN (.inl hL) rfl (fun t5 S5 => ?_) (.inr hL)
          have gone : ∀ {t6 : Shared} {st6 : L2.St} {h6 : Hp} {Q : Shared → Prop}, Inv (X.suite e ((e, o4) :: (X.pn ++ pins))) [] st6 h6 t6 → (∀ t7, Inv X pins (st6.set i none) h6 t7 → Q t7) →
              wpAny (model X.prog X.w) X.A (do bindName X.env n .none; unbindBehindTheSuite X.env n p2) (fun _ t7 => Q t7) X.xe t6 := fun S6 k => gone_ok (S6.unsuite okX) nd hN hL k
          refine wpAny_mono ((hS e o4 c1 d1 (X.pn ++ pins) z4 ⟨_, e4⟩).run [] t5 _ h1 _ S5 (kyes rfl e na)) (fun f t6 hsp => ?_) (fun _ _ z => z.elim)
          match f, hsp with
          | .next, ⟨st6, h6, S6, q6⟩ => exact gone S6 fun t7 I7 => ⟨_, _, I7, q6⟩
          | .brk, ⟨st6, h6, S6, q6⟩ => exact gone S6 fun t7 I7 => ⟨_, _, I7, q6⟩
          | .cont, ⟨st6, h6, S6, q6⟩ => exact gone S6 fun t7 I7 => ⟨_, _, I7, q6⟩
          | .ret u, ⟨v6, st6, h6, S6, r6, q6⟩ => exact gone S6 fun t7 I7 => ⟨_, _, _, I7, r6, q6⟩
    exact go hH w1
  refine wpAny_mono body (fun f t hsp => ?_) fun _ _ z => z
  match f, hsp with
  | .next, ⟨st1, h1, J, q⟩ => exact wpAny_execs_nil ⟨st1, h1, J.ofTry okX, q⟩
  | .brk, ⟨st1, h1, J, q⟩ => exact ⟨st1, h1, J.ofTry okX, q⟩
  | .cont, ⟨st1, h1, J, q⟩ => exact ⟨st1, h1, J.ofTry okX, q⟩
  | .ret u, ⟨v, st1, h1, J, r, q⟩ => exact ⟨v, st1, h1, J.ofTry okX, r, q⟩
/-- an error that is let out, met by the first clause -/
theorem rse_cla0 {K : PySem.W.Frag} {G H : Hp} {σ : L2.St} {D : Ends} {C : Addr} {q : Cla} {lr : List Cla} {fs : List (Str × V)} {W0 : WX} (hx : PySem.W.exmOne K (.ref C) q.1 = some true)
    (k : ∀ G' H' d a, Gr G G' H H' → H' d = none → (upd H' d (.xd fs)) a = none → q.2.2 a (.ref C) (some d) (goneE q.2.1 D) (List.set σ q.2.1 (some (.ref a))) (upd H' d (.xd fs))) : Rse C fs G H (WE (wCla K W0 D (q :: lr)) σ) :=
  fun G' H' d g hd => ⟨true, hx, (fun z => nomatch z), fun _ a ha => k G' H' d a g hd ha⟩
/-- .. by a later one -/
theorem rse_claS {K : PySem.W.Frag} {G H : Hp} {σ : L2.St} {D : Ends} {C : Addr} {q : Cla} {lr : List Cla} {fs : List (Str × V)} {W0 : WX} (hx : PySem.W.exmOne K (.ref C) q.1 = some false)
    (k : Rse C fs G H (WE (wCla K W0 D lr) σ)) : Rse C fs G H (WE (wCla K W0 D (q :: lr)) σ) :=
  fun G' H' d g hd => ⟨false, hx, (fun _ => k G' H' d g hd), fun z => nomatch z⟩
end Lw

set_option Elab.async false
set_option linter.all false
set_option maxRecDepth 100000
set_option maxHeartbeats 4000000
/-! what heading tells of a list; promises with two errors -/
namespace Lw
open PySem L2
open Evl (Ex)
inductive HR where
  | way (c : Bool)
  | bad (i : Int)
  | no (b : Int)
/-- the first number that is no block -/
def badB (n : Int) (row : List Int) : Option Int := row.find? fun b => !decide (0 ≤ b ∧ b < n)
theorem badB_none {n : Int} {row : List Int} (h : ∀ b ∈ row, 0 ≤ b ∧ b < n) : badB n row = none := by
  unfold badB
  rw [List.find?_eq_none]
  intro b m
  simp [h b m]
theorem badB_no {n : Int} {row : List Int} (h : badB n row = none) : ∀ b ∈ row, 0 ≤ b ∧ b < n := fun b m => by
  have := List.find?_eq_none.mp h b m
  simpa using this
theorem badB_at {n : Int} {row : List Int} {i : Nat} {b : Int} (hi : row[i]? = some b) (h : ∀ x ∈ row.take i, 0 ≤ x ∧ x < n) (hb : ¬ (0 ≤ b ∧ b < n)) : badB n row = some b := by
  unfold badB
  rw [List.find?_eq_some_iff_append]
  refine ⟨by simp only [Bool.not_eq_true', decide_eq_false_iff_not]; exact hb, row.take i, row.drop (i + 1), ?_, fun a m => by simp [h a m]⟩
  have hl := (List.getElem?_eq_some_iff.mp hi)
  obtain ⟨hl, e⟩ := hl
  rw [← e, ← List.drop_eq_getElem_cons hl, List.take_append_drop]
/-- the entries i and i + 1 are joined on this side -/
def okB (js : List (Int × Int)) (c : Bool) (row : List Int) (i : Nat) : Bool := match row[i]?, row[i + 1]? with
  | some a, some b => decide (b ∈ ends js a c)
  | _, _ => true
theorem okB_eq {js : List (Int × Int)} {c : Bool} {row : List Int} {i : Nat} {a b : Int} (ha : row[i]? = some a) (hb : row[i + 1]? = some b) : okB js c row i = decide (b ∈ ends js a c) := by
  unfold okB
  rw [ha, hb]
def brk (js : List (Int × Int)) (c : Bool) (row : List Int) : Option Nat := (List.range (row.length - 1)).find? fun i => !okB js c row i
theorem brk_at {js : List (Int × Int)} {c : Bool} {row : List Int} {i : Nat} (hi : i + 1 < row.length) (h0 : ∀ j, j < i → okB js c row j = true) (h : okB js c row i = false) : brk js c row = some i := by
  unfold brk
  rw [List.find?_range_eq_some]
  exact ⟨by simp [h], by simp; omega, fun j hj => by simp [h0 j hj]⟩
theorem brk_none {js : List (Int × Int)} {c : Bool} {row : List Int} (h : ∀ j, j + 1 < row.length → okB js c row j = true) : brk js c row = none := by
  unfold brk
  rw [List.find?_eq_none]
  intro j m
  have := List.mem_range.mp m
  simp [h j (by omega)]
def headC (js : List (Int × Int)) : List Int → Bool
  | a :: b :: _ => !decide ((b, a) ∈ js)
  | _ => true
def headR (n : Int) (js : List (Int × Int)) (row : List Int) : HR :=
  if row = [] then .bad 0 else match badB n row with
  | some b => .no b
  | none => match brk js (headC js row) row with
    | some i => .bad (i : Int)
    | none => .way (headC js row)
theorem headR_nil {n : Int} {js : List (Int × Int)} : headR n js [] = .bad 0 := by simp [headR]
theorem headR_no {n : Int} {js : List (Int × Int)} {row : List Int} {b : Int} (h0 : row ≠ []) (h : badB n row = some b) : headR n js row = .no b := by simp [headR, h0, h]
theorem headR_bad {n : Int} {js : List (Int × Int)} {row : List Int} {i : Nat} (h0 : row ≠ []) (h : badB n row = none) (hb : brk js (headC js row) row = some i) : headR n js row = .bad (i : Int) := by simp [headR, h0, h, hb]
theorem headR_way {n : Int} {js : List (Int × Int)} {row : List Int} (h0 : row ≠ []) (h : badB n row = none) (hb : brk js (headC js row) row = none) : headR n js row = .way (headC js row) := by simp [headR, h0, h, hb]
section
variable {K : PySem.W.Frag} {C : Addr} {σ : L2.St} {G G' H H' : Hp} {ta tb te tc tr to : TE} {P : VP} {D : Ends}
def HRet (CN CW : Addr) (G H : Hp) (r : HR) (P : Bool → VP) (Q : VK) (E : XK) : Prop := match r with
  | .way c => Ret G H (P c) Q
  | .bad i => Rse CW [("at", .int i)] G H E
  | .no b => Rse CN [("block", .int b)] G H E
/-- check_blocks, with its error -/
def spChecksX (K : PySem.W.Frag) (C CN : Addr) : Sp := fun vs H Q E => ∃ (G : Hp) (p : Addr) (n : Int) (a : Addr) (bs : List Int), Ex G H ∧ vs = [.ref p, .ref a] ∧ SizeAt C G p n ∧ SqL K G a (bs.map V.int) ∧ (badB n bs = none → Ret G H (XV .non) Q) ∧ (∀ b, badB n bs = some b → Rse CN [("block", .int b)] G H E)
def oInt : Option Nat → V
  | some i => .int (i : Int)
  | none => .non
def spFirst (K : PySem.W.Frag) (C : Addr) : Sp := fun vs H Q _ => ∃ (G : Hp) (p : Addr) (n : Nat) (parks : List Int) (js : List (Int × Int)) (a : Addr) (row : List Int) (c : Bool), Ex G H ∧ vs = [.ref p, .ref a, .str (sd c)] ∧ LayAt K C G p n parks js ∧ SqL K G a (row.map V.int) ∧ row.length ≤ 1000 ∧ (∀ b ∈ row, 0 ≤ b ∧ b < (n : Int)) ∧ Ret G H (XV (oInt (brk js c row))) Q
theorem sa_first {G : Hp} {p : Addr} {n : Nat} {parks : List Int} {js : List (Int × Int)} {a : Addr} {row : List Int} {c : Bool} (hL : LayAt K C G p n parks js) (hs : SqL K G a (row.map V.int)) (hl : row.length ≤ 1000) (hb : ∀ b ∈ row, 0 ≤ b ∧ b < (n : Int)) : SA (spFirst K C) [.ref p, .ref a, .str (sd c)] G (XV (oInt (brk js c row))) := fun H e Q _ q => ⟨G, p, n, parks, js, a, row, c, e, rfl, hL, hs, hl, hb, q⟩
def spHead (K : PySem.W.Frag) (C CN CW : Addr) : Sp := fun vs H Q E => ∃ (G : Hp) (p : Addr) (n : Nat) (parks : List Int) (js : List (Int × Int)) (a : Addr) (row : List Int), Ex G H ∧ vs = [.ref p, .ref a] ∧ LayAt K C G p n parks js ∧ SqL K G a (row.map V.int) ∧ row.length ≤ 1000 ∧ HRet CN CW G H (headR (n : Int) js row) (fun c => XV (.str (sd c))) Q E
def lenOf (lens : List Int) (b : Int) : Int := lens.getD b.toNat 0
def spWayL (K : PySem.W.Frag) (C CN CW : Addr) : Sp := fun vs H Q E => ∃ (G : Hp) (p : Addr) (lens parks : List Int) (js : List (Int × Int)) (a : Addr) (row : List Int), Ex G H ∧ vs = [.ref p, .ref a] ∧ LayL K C G p lens parks js ∧ SqL K G a (row.map V.int) ∧ row.length ≤ 1000 ∧ HRet CN CW G H (headR (lens.length : Int) js row) (fun _ => XV (.int ((row.map (lenOf lens)).sum))) Q E
theorem HRet.up {CN CW : Addr} {r : HR} {P : Bool → VP} {Q : VK} {E : XK} {G0 G1 H0 H1 : Hp} (h : HRet CN CW G0 H0 r P Q E) (g : Gr G0 G1 H0 H1) : HRet CN CW G1 H1 r P Q E := by
  cases r with
  | way c => exact fun v G' H' g' p => h v G' H' (g.trans g') p
  | bad i => exact Rse.up h g
  | no b => exact Rse.up h g
/-! statements -/
theorem st_drop2 {sp : Sp} {E : L2.St → XK} {x y : V} (hG : Ex G H) (ha : EF ta σ G (XV x)) (hb : EF tb σ G (XV y)) (k : ∀ G' H', Gr G G' H H' → sp [x, y] H' (fun _ H2 => D.nx σ H2) (E σ)) : tDrop (tCallSD sp [] E (tCons ta (tCons tb tNil))) D σ H := by
  unfold tDrop tCallSD
  refine (ea_two mo_XV mo_XV ha hb) H hG _ fun vs G1 H1 g1 ⟨u, v, ev, hu, hv⟩ => ?_
  subst ev
  rw [show u = _ from hu, show v = _ from hv]
  exact k G1 H1 g1
theorem ef_methX {C : Addr} {m : Str} {sp : Sp} {dvs : List V} {E : L2.St → XK} {tl : TA} {R : List V → Hp → Prop} {a : Addr} (ho : EF to σ G (XV (.ref a))) (hI : ∃ dx fs, G a = some (.ins C dx fs) ∧ fs.lookup m = none) (h : EA tl σ G R)
    (hr : ∀ vs G', Ex G G' → R vs G' → SA sp (.ref a :: (vs ++ dvs)) G' P) : EF (tMethX C m sp dvs E to tl) σ G P := fun H e Q q =>
  ho H e _ fun x G1 H1 g1 p1 => by
    obtain ⟨dx, fs, h1, h2⟩ := hI
    cases (show x = .ref a from p1)
    refine ⟨a, dx, fs, rfl, g1.hp _ _ (e _ _ h1), h2, h H1 (g1.up.trans g1.ok) _ fun vs G2 H2 g2 p2 => ?_⟩
    exact hr vs G2 g2.up p2 H2 g2.ok Q (E σ) fun v G3 H3 g3 p3 => q v G3 H3 ((g2.low g1.hp).trans g3) p3
theorem et_notN {v : V} (ha : EF ta σ G (XV v)) (hb : EF tb σ G (XV .non)) : ET (tTest (tOp (fun x y H Q => y = .non ∧ Q (.bl (!decide (x = .non))) H) ta tb)) σ G (· = !decide (v = .non)) := et_test (ef_op mo_XV mo_XV ha hb fun x y G' _ hx hy => by
  cases (show x = v from hx)
  cases (show y = .non from hy)
  exact fun H e Q k => ⟨rfl, k _ G' H (.refl e) ⟨_, rfl, rfl⟩⟩)
theorem mo_PLs {l : List Int} : Mo (PLs K l) := fun v G G' e ⟨m, h1, h2, h3⟩ => ⟨m, h1, h2, dpx h3 e⟩
theorem ex_niPL {z : Int} {l : List Int} (ha : EF ta σ G (XV (.int z))) (hb : EF tb σ G (PLs K l)) : EF (tOp (rNotInD K) ta tb) σ G (BV (· = !decide (z ∈ l))) := ef_op mo_XV mo_PLs ha hb fun x y G' _ hx hy => by
  cases (show x = _ from hx)
  obtain ⟨m, h1, _, h3⟩ := hy
  refine fun H e Q k => ⟨.int z, m.map PyData.int, .int _, dpx h3 e, sh_int _, sh_ints _, k _ G' H (.refl e) ⟨_, rfl, ?_⟩⟩
  rw [any_int]
  congr 1
  exact decide_eq_decide.mpr h1.mem_iff
end
end Lw

set_option Elab.async false
set_option linter.all false
set_option maxRecDepth 100000
set_option maxHeartbeats 8000000
namespace Kx
open PySem L2 Lw
open Evl (Ex)
abbrev s_BadWay_init : Stmt := inClass (top 7) 0
theorem sc_BadWay_init : FnScope ["self", "at"] ["self", "at"] (defScope s_BadWay_init) := ⟨rfl, rfl, rfl, by decide +kernel, rfl, by decide +kernel, by decide +kernel⟩
abbrev s_first_break : Stmt := top 14
theorem sc_first_break : FnScope ["layout", "blocks", "side", "at"] ["layout", "blocks", "side"] (defScope s_first_break) := ⟨rfl, rfl, rfl, by decide +kernel, rfl, by decide +kernel, by decide +kernel⟩
abbrev s_heading : Stmt := top 13
theorem sc_heading : FnScope ["layout", "way", "side", "at"] ["layout", "way"] (defScope s_heading) := ⟨rfl, rfl, rfl, by decide +kernel, rfl, by decide +kernel, by decide +kernel⟩
abbrev s_BadLength_init : Stmt := inClass (top 3) 0
theorem sc_BadLength_init : FnScope ["self", "length"] ["self", "length"] (defScope s_BadLength_init) := ⟨rfl, rfl, rfl, by decide +kernel, rfl, by decide +kernel, by decide +kernel⟩
section
variable {P : Program} {w : World} {K : PySem.W.Frag} {mg : Str → Option Value} {base : Heap} {C CN CW : Addr} {f : Addr} {fd : FuncData}
theorem ok_bw (T : OexC K C) (hno : PySem.W.findIn K (.ref C) "at" = some none) (F : Fun K "__init__" "BadWay.__init__" s_BadWay_init f fd) : FnOk P w K mg base CX0 1 f fd ["self", "at"] (spIni1 C "at") := by
  refine F.ok sc_BadWay_init (fun vs H Q E h => ?_) (fun cdv A outer s H vs Q E hr h => ?_)
  · obtain ⟨a, y, rfl, _⟩ := h
    rfl
  · obtain ⟨a, y, rfl, ha, k⟩ := h
    refine ⟨_, pss_one (ps_ost (pv 0) (pv 1)), ?_⟩
    exact ⟨_, rfl, _, rfl, a, C, rfl, T, hno, .inl ⟨ha, fun d hd hn => k d hd hn⟩⟩
theorem ok_bl (T : OexC K C) (hno : PySem.W.findIn K (.ref C) "length" = some none) (F : Fun K "__init__" "BadLength.__init__" s_BadLength_init f fd) : FnOk P w K mg base CX0 1 f fd ["self", "length"] (spIni1 C "length") := by
  refine F.ok sc_BadLength_init (fun vs H Q E h => ?_) (fun cdv A outer s H vs Q E hr h => ?_)
  · obtain ⟨a, y, rfl, _⟩ := h
    rfl
  · obtain ⟨a, y, rfl, ha, k⟩ := h
    refine ⟨_, pss_one (ps_ost (pv 0) (pv 1)), ?_⟩
    exact ⟨_, rfl, _, rfl, a, C, rfl, T, hno, .inl ⟨ha, fun d hd hn => k d hd hn⟩⟩
theorem ok_checksX (F : Fun K "check_blocks" "check_blocks" s_check_blocks f fd) (Cc : CalX P w K mg base "check_block" 3 ["layout", "block"] (spCheckX C CN)) : FnOk P w K mg base (L2.CX P w) 4 f fd ["layout", "blocks"] (spChecksX K C CN) := by
  obtain ⟨f1, fd1, G_check_block, m_check_block, k_check_block, b_check_block⟩ := Cc
  refine F.okX sc_check_blocks (fun vs H Q E h => ?_) (fun cdv A outer s H vs Q E hr h => ?_)
  · obtain ⟨G, p, n, a, bs, _, rfl, _⟩ := h
    rfl
  · obtain ⟨G, p, n, a, bs, hG, rfl, hs, ha, k0, k1⟩ := h
    refine ⟨_, (pss_one (ps_for (passes_of rfl) rfl (pi_list (pv 1)) (pg_name (i := 2) sc_check_blocks.nd rfl (by first | exact Or.inl rfl | exact Or.inr rfl))
 (pss_one (ps_expr (pe_callSD G_check_block (hr.mono (by decide)) rfl m_check_block k_check_block b_check_block .nil (fun σ => passAt (takes_of rfl rfl rfl rfl) σ) (pa_cons (pv 0) (pa_cons (pv 2) pa_nil))))))), ?_⟩
    refine st_forK (xs := bs.map V.int) hG (ex_var (v := .ref a) rfl) ha (fun i σ H' => Ex H H' ∧ (∀ x ∈ bs.take i, 0 ≤ x ∧ x < n) ∧ ∃ v, σ = [some (.ref p), some (.ref a), v]) (fun H' e => ⟨e, (fun x m => nomatch m), _, rfl⟩) (fun i σ' H' hw => hG.trans hw.1) (fun i x σ' H' hi hw => ?_) (fun σ' H' hw => ?_)
    · obtain ⟨e, hl, v, rfl⟩ := hw
      rw [List.getElem?_map] at hi
      obtain ⟨b, hb1, rfl⟩ := Option.map_eq_some_iff.mp hi
      refine st_checkX (hG.trans e) (ex_var (v := .ref p) rfl) (ex_var (v := .int b) rfl) hs (fun hb H2 g => ⟨e.trans g, ?_, _, rfl⟩) (fun hb => (k1 b (badB_at hb1 hl hb)).up (Gr.same hG e))
      intro x m
      rw [take_next hb1] at m
      rcases List.mem_append.mp m with m | m
      · exact hl x m
      · rw [List.mem_singleton.mp m]; exact hb
    · obtain ⟨e, hl, v, rfl⟩ := hw
      rw [List.length_map, List.take_length] at hl
      exact k0 (badB_none hl) _ G H' (.same hG e) rfl
theorem ok_first (T : Cl K C) (B : Blt mg) (F : Fun K "first_break" "first_break" s_first_break f fd) (Cb : CalMX P w K mg base C "branches" 5 ["self", "block", "side"] (spAskSX K C CN (sBranch K))) : FnOk P w K mg base CX0 6 f fd ["layout", "blocks", "side"] (spFirst K C) := by
  obtain ⟨f2, fd2, G_branches, M_branches, b_branches⟩ := Cb
  have cL := T.cl
  have m_len := B.len
  have m_range := B.range
  refine F.ok sc_first_break (fun vs H Q E h => ?_) (fun cdv A outer s H vs Q E hr h => ?_)
  · obtain ⟨G, p, n, parks, js, a, row, c, _, rfl, _⟩ := h
    rfl
  · obtain ⟨G, p, n, parks, js, a, row, c, hG, rfl, hL, hs, hl, hb, k⟩ := h
    refine ⟨_, (pss_cons (ps_for PassesOwn.never rfl (pi_range1 rfl m_range (pa_cons (pe_op op_sub (pe_callB call_len_seq (by rfl) m_len PySem.boot_len (pa_cons (pv 1) pa_nil)) pe_int) pa_nil)) (pg_name (i := 3) sc_first_break.nd rfl (by first | exact Or.inl rfl | exact Or.inr rfl))
 (pss_one (ps_if (pt_cmpR (op_notInD (hu65 hr)) (pe_ix ix_list (pv 1) (pe_op op_add (pv 3) pe_int) (fun _ _ => rfl)) (pe_meth (pv 0) cL M_branches G_branches (hr.mono (by decide)) b_branches .nil passL (pa_cons (pe_ix ix_list (pv 1) (pv 3) (fun _ _ => rfl)) (pa_cons (pv 2) pa_nil))) (by rfl))
 (pss_one (ps_ret (pv 3))) pss_nil)))
 (pss_one (ps_ret pe_non))), ?_⟩
    have ix : ∀ {σ : L2.St} {i : Nat} {z : Int} {te : TE}, σ[1]? = some (some (.ref a)) → row[i]? = some z → EF te σ G (XV (.int (i : Int))) → EF (tOp (rIxL K) (tVar 1) te) σ G (XV (.int z)) := fun h1 hz he => ex_ixL (ex_var h1) he rfl hs (by rw [List.getElem?_map, hz]; rfl)
    refine st_forR1 (n := (row.length : Int) - 1) hG ((ea_one (ex_sub (ex_lenL (ex_var (v := .ref a) rfl) hs) (ex_c (v := .int 1)))).imp fun vs _ _ ⟨x, ev, hx⟩ => by rw [ev, show x = _ from hx, List.length_map]) (by omega) (by omega) (fun i σ H' => Ex H H' ∧ (∀ j, j < i → okB js c row j = true) ∧ ∃ v, σ = [some (.ref p), some (.ref a), some (.str (sd c)), v]) (fun H' e => ⟨e, (fun j hj => absurd hj (Nat.not_lt_zero j)), _, rfl⟩) (fun i σ' H' hi hw => ?_) (fun σ' H' hw => ?_)
    · obtain ⟨e, h0, v, rfl⟩ := hw
      obtain ⟨x, hx⟩ : ∃ x, row[i]? = some x := ⟨_, List.getElem?_eq_getElem (by omega)⟩
      obtain ⟨y, hy⟩ : ∃ y, row[i + 1]? = some y := ⟨_, List.getElem?_eq_getElem (by omega)⟩
      have bx := hb x (List.mem_of_getElem? hx)
      have oe := okB_eq (js := js) (c := c) hx hy
      refine st_if (p := (· = !decide (y ∈ ends js x c))) (hG.trans e) (et_test (ex_niPL (z := y) (ix rfl hy (ex_add (ex_var (v := .int (i : Int)) rfl) (ex_c (v := .int 1)))) (ef_meth (ex_var (v := .ref p) rfl) (hL.meth (by decide +kernel)) (ea_two mo_XV mo_XV (ix rfl hx (ex_var rfl)) (ex_var (v := .str (sd c)) rfl)) fun vs G' e' ⟨u, v2, ev, hu, hv⟩ => by rw [ev, show u = _ from hu, show v2 = _ from hv]; exact sa_askSX (P := sBranch K) c (hL.ex e') bx.1 bx.2))) (fun h H2 e2 => ?_) (fun h H2 e2 => ?_)
      · have hn : okB js c row i = false := by rw [oe]; simpa using h.symm
        refine st_ret (P := XV (.int (i : Int))) ((hG.trans e).trans e2) (ex_var rfl) fun v2 G2 H3 g p2 => k v2 G2 H3 ((Gr.same hG (e.trans e2)).trans g) ?_
        rw [brk_at (by omega) h0 hn]
        exact p2
      · refine ⟨e.trans e2, fun j hj => ?_, _, rfl⟩
        by_cases hji : j = i
        · subst hji
          rw [oe]
          simpa using h.symm
        · exact h0 j (by omega)
    · obtain ⟨e, h0, v, rfl⟩ := hw
      dsimp only
      refine st_ret (P := XV .non) (hG.trans e) ex_c fun v2 G2 H3 g p2 => k v2 G2 H3 ((Gr.same hG e).trans g) ?_
      rw [brk_none fun j hj => h0 j (by omega)]
      exact p2
end
end Kx

set_option Elab.async false
set_option linter.all false
set_option maxRecDepth 100000
set_option maxHeartbeats 8000000
namespace Kx
open PySem L2 Lw
open Evl (Ex)
section
variable {P : Program} {w : World} {K : PySem.W.Frag} {mg : Str → Option Value} {base : Heap} {C CN CW : Addr} {f : Addr} {fd : FuncData}
theorem ok_head {fW : Addr} {fdW : FuncData} (T : Cl K C) (B : Blt mg) (Z_BadWay : Err P w K mg base "BadWay" CW fW fdW ["self", "at"] (spIni1 CW "at")) (F : Fun K "heading" "heading" s_heading f fd) (Ck : CalX P w K mg base "check_blocks" 4 ["layout", "blocks"] (spChecksX K C CN))
    (Cj : CalMX P w K mg base C "joined" 4 ["self", "west", "east"] (spJoinX K C CN)) (Cf : Cal P w K mg base "first_break" 6 ["layout", "blocks", "side"] (spFirst K C)) : FnOk P w K mg base (L2.CX P w) 7 f fd ["layout", "way"] (spHead K C CN CW) := by
  obtain ⟨f1, fd1, G_check_blocks, m_check_blocks, k_check_blocks, b_check_blocks⟩ := Ck
  obtain ⟨f2, fd2, G_joined, M_joined, b_joined⟩ := Cj
  obtain ⟨f3, fd3, G_first_break, m_first_break, k_first_break, b_first_break⟩ := Cf
  have cL := T.cl
  have m_len := B.len
  refine F.okX sc_heading (fun vs H Q E h => ?_) (fun cdv A outer s H vs Q E hr h => ?_)
  · obtain ⟨G, p, n, parks, js, a, row, _, rfl, _⟩ := h
    rfl
  · obtain ⟨G, p, n, parks, js, a, row, hG, rfl, hL, hs, hl, k⟩ := h
    refine ⟨_, (pss_cons (ps_if (pt_cmpR op_eq (pe_callB call_len_seq (by rfl) m_len PySem.boot_len (pa_cons (pv 1) pa_nil)) pe_int (nomark _))
 (pss_one (ps_raise rfl (takes_of rfl rfl rfl rfl) (pmk_oex Z_BadWay.cls Z_BadWay.ini Z_BadWay.tI Z_BadWay.fn (hr.mono (by decide)) Z_BadWay.bnd .nil pass0 (by rfl) Z_BadWay.gl (pa_cons pe_int pa_nil)))) pss_nil)
 (pss_cons (ps_expr (pe_callSD G_check_blocks (hr.mono (by decide)) rfl m_check_blocks k_check_blocks b_check_blocks .nil (fun σ => passAt (takes_of rfl rfl rfl rfl) σ) (pa_cons (pv 0) (pa_cons (pv 1) pa_nil))))
 (pss_cons (ps_if (pt_cmpR op_eq (pe_callB call_len_seq (by rfl) m_len PySem.boot_len (pa_cons (pv 1) pa_nil)) pe_int (nomark _))
 (pss_one (ps_ret pe_str)) pss_nil)
 (pss_cons (ps_set (i := 2) sc_heading.nd rfl (by first | exact Or.inl rfl | exact Or.inr rfl) (pe_ifExp (pt_val (pe_methX (pv 0) cL M_joined G_joined (hr.mono (by decide)) b_joined .nil (fun σ => passAt (takes_of rfl rfl rfl rfl) σ) (pa_cons (pe_ix ix_list (pv 1) pe_int (fun _ _ => rfl)) (pa_cons (pe_ix ix_list (pv 1) pe_int (fun _ _ => rfl)) pa_nil)))) pe_str pe_str))
 (pss_cons (ps_set (i := 3) sc_heading.nd rfl (by first | exact Or.inl rfl | exact Or.inr rfl) (pe_call G_first_break (hr.mono (by decide)) rfl m_first_break k_first_break b_first_break .nil pass0 (pa_cons (pv 0) (pa_cons (pv 1) (pa_cons (pv 2) pa_nil)))))
 (pss_cons (ps_if (pt_cmpR op_notN (pv 3) pe_non (nomark _))
 (pss_one (ps_raise rfl (takes_of rfl rfl rfl rfl) (pmk_oex Z_BadWay.cls Z_BadWay.ini Z_BadWay.tI Z_BadWay.fn (hr.mono (by decide)) Z_BadWay.bnd .nil pass0 (by rfl) Z_BadWay.gl (pa_cons (pv 3) pa_nil)))) pss_nil)
 (pss_one (ps_ret (pv 2))))))))), ?_⟩
    have ln : ∀ {σ : L2.St} {G' : Hp} {z : Int}, Ex G G' → σ[1]? = some (some (.ref a)) → ET (tTest (tOp rEq (tCB (Evl.rLenS K) (tCons (tVar 1) tNil)) (tC (.int z)))) σ G' (· = decide ((row.length : Int) = z)) := fun e h => et_eqI ((ex_lenL (ex_var h) (Evl.ex_l e hs)).imp fun v _ _ p => by rw [show v = _ from p, List.length_map]; rfl) ex_c
    refine st_if hG (ln (Ex.refl G) rfl) (fun c0 H1 e1 => ?_) (fun c0 H1 e1 => ?_)
    · have c := of_decide_eq_true c0.symm
      have er : row = [] := List.length_eq_zero_iff.mp (by omega)
      subst er
      rw [headR_nil] at k
      exact mk_one (hG.trans e1) ex_c fun G' H2 d g hd => k G' H2 d ((Gr.same hG e1).trans g) hd
    · have c := of_decide_eq_false c0.symm
      have hne : row ≠ [] := fun z => c (by rw [z]; rfl)
      refine st_drop2 (hG.trans e1) (ex_var (v := .ref p) rfl) (ex_var (v := .ref a) rfl) fun G1 H2 g1 => ⟨G1, p, n, a, row, g1.ok, rfl, hL.size.ex g1.up, Evl.ex_l g1.up hs, fun hb v G2 H3 g2 _ => ?main, fun b hb => ?err⟩
      case err =>
        rw [headR_no hne hb] at k
        exact Rse.up k ((Gr.same hG e1).trans g1)
      dsimp only
      have hin := badB_no hb
      have gA := ((Gr.same hG e1).trans g1).trans g2
      refine st_if gA.ok (ln gA.up rfl) (fun c1 H4 e4 => ?_) (fun c1 H4 e4 => ?_)
      · have cc := of_decide_eq_true c1.symm
        obtain ⟨x, rfl⟩ := List.length_eq_one_iff.mp (show row.length = 1 by omega)
        rw [headR_way hne hb (by rfl)] at k
        exact st_ret (P := XV (.str eastS)) (gA.ok.trans e4) ex_c fun v2 G5 H5 g5 p5 => k v2 G5 H5 ((gA.then e4).trans g5) p5
      · have cc := of_decide_eq_false c1.symm
        obtain ⟨x, y, r, rfl⟩ : ∃ x y r, row = x :: y :: r := by
          match row with
          | [] => exact absurd rfl hne
          | [x] => exact absurd rfl cc
          | x :: y :: r => exact ⟨x, y, r, rfl⟩
        iterate 1
          have bx := hin x (by simp)
          have b_y := hin y (by simp)
          have gB := gA.then e4
          have hs2 := Evl.ex_l gA.up hs
          refine st_asg (P := XV (.str (sd (headC js (x :: y :: r))))) gB.ok (ef_if (p := (· = decide ((y, x) ∈ js))) (et_B (EF.bl (ef_methX (P := XV (.bl (decide ((y, x) ∈ js)))) (ex_var (v := .ref p) rfl) (hL.ex gA.up |>.meth (by decide +kernel)) (ea_two mo_XV mo_XV (ex_ixL (i := 1) (v := .int y) (ex_var (v := .ref a) rfl) (ex_c (v := .int 1)) rfl hs2 rfl) (ex_ixL (i := 0) (v := .int x) (ex_var (v := .ref a) rfl) (ex_c (v := .int 0)) rfl hs2 rfl)) fun vs G' e' ⟨u, v2, ev, hu, hv⟩ => ?_) rfl)) (fun h => ?_) (fun h => ?_)) fun v5 G5 H5 g5 p5 => ?_
          · rw [ev, show u = _ from hu, show v2 = _ from hv]
            exact fun H e Q E q => ⟨G', p, n, parks, js, y, x, e, rfl, hL.ex (gA.up.trans e'), fun _ _ => q, fun z => absurd b_y z, fun _ z => absurd bx z⟩
          · have hh : headC js (x :: y :: r) = false := by show (!decide ((y, x) ∈ js)) = _; rw [← h]; rfl
            rw [hh]
            exact ex_c
          · have hh : headC js (x :: y :: r) = true := by show (!decide ((y, x) ∈ js)) = _; rw [← h]; rfl
            rw [hh]
            exact ex_c
          cases (show v5 = _ from p5)
          have gC := gB.trans g5
          refine st_asg (P := XV (oInt (brk js (headC js (x :: y :: r)) (x :: y :: r)))) gC.ok (ex_call3 (ex_var (v := .ref p) rfl) (ex_var (v := .ref a) rfl) (ex_var (v := .str (sd (headC js (x :: y :: r)))) rfl) fun G' e' => sa_first (hL.ex (gC.up.trans e')) (Evl.ex_l (gC.up.trans e') hs) hl hin) fun v6 G6 H6 g6 p6 => ?_
          cases (show v6 = _ from p6)
          have gD := gC.trans g6
          have tst : ET (tTest (tOp (fun x y H Q => y = .non ∧ Q (.bl (!decide (x = .non))) H) (tVar 3) (tC .non))) [some (.ref p), some (.ref a), some (.str (sd (headC js (x :: y :: r)))), some (oInt (brk js (headC js (x :: y :: r)) (x :: y :: r)))] G6 (· = !decide (oInt (brk js (headC js (x :: y :: r)) (x :: y :: r)) = .non)) := et_notN (ex_var rfl) ex_c
          dsimp only
          refine st_if gD.ok tst (fun h H7 e7 => ?_) (fun h H7 e7 => ?_)
          · cases hk : brk js (headC js (x :: y :: r)) (x :: y :: r) with
            | none => rw [hk] at h; exact absurd h (by decide +kernel)
            | some i =>
              rw [headR_bad hne hb hk] at k
              exact mk_one (gD.ok.trans e7) (ex_var (v := .int (i : Int)) rfl) fun G' H2 d g hd => k G' H2 d ((gD.then e7).trans g) hd
          · cases hk : brk js (headC js (x :: y :: r)) (x :: y :: r) with
            | some i => rw [hk] at h; exact absurd h (by simp [oInt])
            | none =>
              rw [headR_way hne hb hk] at k
              exact st_ret (P := XV (.str (sd (headC js (x :: y :: r))))) (gD.ok.trans e7) (ex_var rfl) fun v2 G5 H5 g5 p5 => k v2 G5 H5 ((gD.then e7).trans g5) p5
end
end Kx

set_option Elab.async false
set_option linter.all false
set_option maxRecDepth 100000
set_option maxHeartbeats 4000000
/-! lists that are cut and turned; pairs in lists of pairs -/
namespace Lw
open PySem L2
open Evl (Ex)
theorem headC_at {js : List (Int × Int)} {row : List Int} (h : 1 < row.length) : ∃ x y, row[0]? = some x ∧ row[1]? = some y ∧ headC js row = !decide ((y, x) ∈ js) := by
  match row, h with
  | x :: y :: r, _ => exact ⟨x, y, rfl, rfl, rfl⟩
theorem headC_short {js : List (Int × Int)} {row : List Int} (h : ¬ 1 < row.length) : headC js row = true := by
  match row, h with
  | [], _ => rfl
  | [x], _ => rfl
  | x :: y :: r, h => exact absurd (by simp) h
section
variable {K : PySem.W.Frag} {C : Addr} {σ : L2.St} {G G' H H' : Hp} {ta tb te tc tr to : TE} {P : VP} {D : Ends}
theorem ef_pairI {a b : Int} (ha : EF ta σ G (XV (.int a))) (hb : EF tb σ G (XV (.int b))) : EF (tTup (tCons ta (tCons tb tNil))) σ G (DV K (dP (a, b))) := ef_tup (ea_two mo_XV mo_XV ha hb) (fun vs G' ⟨x, y, ev, _⟩ => by rw [ev]; simp) fun q vs G' _ _ _ ⟨x, y, ev, hx, hy⟩ => dp_mkT upd_same (by rw [ev, hx, hy]; exact .cons (.int _) (.cons (.int _) .nil))
theorem et_inP {p : Int × Int} {js : List (Int × Int)} (ha : EF ta σ G (DV K (dP p))) (hb : EF tb σ G (DV K (dPs js))) : ET (tTest (tOp (rInD K) ta tb)) σ G (· = decide (p ∈ js)) :=
  et_test ((ed_inD (d := dP p) (ds := js.map dP) ha hb (sh_pair _) (sh_pairs _)).imp fun v _ _ ⟨b, e, hb⟩ => ⟨b, e, by rw [hb, any_pair]⟩)
theorem et_niP {p : Int × Int} {js : List (Int × Int)} (ha : EF ta σ G (DV K (dP p))) (hb : EF tb σ G (DV K (dPs js))) : ET (tTest (tOp (rNotInD K) ta tb)) σ G (· = !decide (p ∈ js)) :=
  et_test ((ed_niD (d := dP p) (ds := js.map dP) ha hb (sh_pair _) (sh_pairs _)).imp fun v _ _ ⟨b, e, hb⟩ => ⟨b, e, by rw [hb, any_pair]⟩)
/-- what a clause tells, as it is wanted -/
theorem ef_errD {nm : Str} {b : Int} {r1 r2 r3 : Bool} (hb : EF tb σ G (XV (.int b))) : EF (tTup (tCons (tC (.str nm)) (tCons tb (tCons (tC (.bl r1)) (tCons (tC (.bl r2)) (tCons (tC (.bl r3)) tNil)))))) σ G (DV K (errD nm b r1 r2 r3)) :=
  ef_tup (ea_x ex_c (ea_x hb (ea_x ex_c (ea_x ex_c (ea_x ex_c ea_nil))))) (fun vs _ h => by rw [h]; simp) fun q vs G' _ _ _ ev => dp_mkT upd_same (by rw [ev]; exact .cons (.str _) (.cons (.int _) (.cons (.bl _) (.cons (.bl _) (.cons (.bl _) .nil)))))
/-- list(reversed(a list)) -/
theorem el_rev {ds : List PyData} (ha : EF ta σ G (DV K (.list ds))) : EF (tLstRev K ta) σ G (LS K ds.reverse) := fun H e Q q => ha H e _ fun x G1 H1 g1 hx => by
  obtain ⟨a, xs, rfl, hs, hd⟩ := dp_lst hx
  refine ⟨a, xs, rfl, Evl.ex_l g1.ok hs, fun p2 h2 => q _ _ _ (g1.trans (.new g1.ok h2)) ⟨p2, xs.reverse, rfl, upd_same, dpa_rev (dpax hd (ex_in (none_back g1.ok h2)))⟩⟩
where
  dpa_rev {G : Hp} : ∀ {vs : List V} {ds : List PyData}, DpAll K G vs ds → DpAll K G vs.reverse ds.reverse
    | _, _, .nil => .nil
    | _, _, .cons (v := v) (d := d) a r => by
      rw [List.reverse_cons, List.reverse_cons]
      exact dpa_snoc (dpa_rev r) a
/-- a list of ints that is in the heap, of which p holds -/
def RL (K : PySem.W.Frag) (p : List Int → Prop) : VP := fun v G => ∃ row : List Int, p row ∧ LS K (row.map PyData.int) v G
theorem mo_RL {p : List Int → Prop} : Mo (RL K p) := fun v G G' e ⟨row, h, l⟩ => ⟨row, h, mo_LS _ _ _ e l⟩
theorem LS.rl {p : List Int → Prop} {row : List Int} (h : EF te σ G (LS K (row.map PyData.int))) (hp : p row) : EF te σ G (RL K p) := h.imp fun v _ _ l => ⟨row, hp, l⟩
theorem RL.sq {p : List Int → Prop} {v : V} (h : RL K p v G) : ∃ a row, v = .ref a ∧ p row ∧ SqL K G a (row.map V.int) := by
  obtain ⟨row, hp, l, xs, rfl, hl, hd⟩ := h
  exact ⟨l, row, rfl, hp, by rw [← dpa_ints_eq hd]; exact Evl.sq_of hl⟩
/-- a list of ints, of which p holds -/
def WL (K : PySem.W.Frag) (p : List Int → Prop) : VP := fun v G => ∃ a row, v = .ref a ∧ p row ∧ SqL K G a (row.map V.int)
theorem mo_WL {p : List Int → Prop} : Mo (WL K p) := fun v G G' e ⟨a, row, ev, hp, hs⟩ => ⟨a, row, ev, hp, Evl.ex_l e hs⟩
theorem EF.wl {p : List Int → Prop} (h : EF te σ G (RL K p)) : EF te σ G (WL K p) := h.imp fun v _ _ l => l.sq
theorem dv_row {a : Addr} {row : List Int} (h : SqL K G a (row.map V.int)) : Dp K G (.ref a) (dI row) := .lst h (dpa_ints row)
/-- two lists of ints behind one another -/
theorem er_cat {p q s : List Int → Prop} (ha : EF ta σ G (RL K p)) (hb : EF tb σ G (RL K q)) (h : ∀ x y, p x → q y → s (x ++ y)) (hz : ∀ x y, p x → q y → x.length + y.length ≤ 10000) : EF (tOp rCat ta tb) σ G (RL K s) :=
  ef_op mo_RL mo_RL ha hb fun u v G' e ⟨x, px, l, xs, ex, h1, d1⟩ ⟨y, py, b, ys, ey, h2, d2⟩ => fun H e2 Q k => by
    have z := hz x y px py
    refine ⟨l, b, xs, ys, ex, ey, e2 _ _ h1, e2 _ _ h2, ?_, fun r hr => k _ _ _ (.new e2 hr) ⟨x ++ y, h _ _ px py, r, _, rfl, upd_same, ?_⟩⟩
    · rw [dpa_len d1, dpa_len d2, List.length_map, List.length_map]
      exact Nat.le_trans z (by decide)
    · have e3 := ex_in (o := .lst (xs ++ ys)) (none_back e2 hr)
      rw [List.map_append]
      rw [dpa_ints_eq d1, dpa_ints_eq d2, ← List.map_append, ← List.map_append]
      exact dpa_ints _
theorem er_from {row : List Int} {k : Nat} {p : List Int → Prop} (ha : EF ta σ G (DV K (dI row))) (hb : EF tb σ G (XV (.int (k : Int)))) (hp : p (row.drop k)) : EF (tSl (rSlL K) ta (tPart tb) tNoPart) σ G (RL K p) := LS.rl (by have h := el_from (k := k) ha hb; rw [← List.map_drop] at h; exact h) hp
theorem er_to {row : List Int} {k : Nat} {p : List Int → Prop} (ha : EF ta σ G (DV K (dI row))) (hb : EF tb σ G (XV (.int (k : Int)))) (hp : p (row.take k)) : EF (tSl (rSlL K) ta tNoPart (tPart tb)) σ G (RL K p) := LS.rl (by have h := el_to (k := k) ha hb; rw [← List.map_take] at h; exact h) hp
theorem er_rev {p q : List Int → Prop} (ha : EF ta σ G (RL K p)) (h : ∀ x, p x → q x.reverse) : EF (tLstRev K ta) σ G (RL K q) := fun H e Q k => ha H e _ fun v G1 H1 g1 ⟨row, hp, l, xs, ev, hl, hd⟩ => by
  subst ev
  refine ⟨l, xs, rfl, Evl.sq_of (g1.ok _ _ hl), fun p2 h2 => k _ _ _ (g1.trans (.new g1.ok h2)) ⟨row.reverse, h _ hp, p2, xs.reverse, rfl, upd_same, ?_⟩⟩
  rw [dpa_ints_eq hd, ← List.map_reverse]
  exact dpa_ints _
/-- a display of ints that are known only somewhat -/
theorem er_lst1 {p : Int → Prop} {q : List Int → Prop} (ha : EF ta σ G (IV p)) (h : ∀ z, p z → q [z]) : EF (tLst (tCons ta tNil)) σ G (RL K q) := ef_lst (ea_one ha) (fun vs _ ⟨x, ev, _⟩ => by rw [ev]; simp) fun r vs G' _ _ _ ⟨x, ev, z, ez, pz⟩ => ⟨[z], h z pz, r, vs, rfl, upd_same, by rw [ev, ez]; exact dpa_ints [z]⟩
theorem er_lst2 {p p' : Int → Prop} {q : List Int → Prop} (ha : EF ta σ G (IV p)) (hb : EF tb σ G (IV p')) (h : ∀ z w, p z → p' w → q [z, w]) : EF (tLst (tCons ta (tCons tb tNil))) σ G (RL K q) := ef_lst (ea_two mo_IV mo_IV ha hb) (fun vs _ ⟨x, y, ev, _⟩ => by rw [ev]; simp) fun r vs G' _ _ _ ⟨x, y, ev, ⟨z, ez, pz⟩, ⟨u, eu, pu⟩⟩ => ⟨[z, u], h z u pz pu, r, vs, rfl, upd_same, by rw [ev, ez, eu]; exact dpa_ints [z, u]⟩
theorem er_nil {q : List Int → Prop} (h : q []) : EF (tLst tNil) σ G (RL K q) := ef_lst ea_nil (fun vs _ ev => by rw [ev]; simp) fun r vs G' _ _ _ ev => ⟨[], h, r, vs, rfl, upd_same, by rw [ev]; exact .nil⟩
end
end Lw

set_option Elab.async false
set_option linter.all false
set_option maxRecDepth 100000
set_option maxHeartbeats 4000000
/-! a track in which each block is joined to the next -/
namespace Lw
open PySem L2
open Evl (Ex)
def lineJ (m : Nat) : List (Int × Int) := (List.range m).map fun b : Nat => ((b : Int), (b : Int) + 1)
theorem lineJ_succ (m : Nat) : lineJ (m + 1) = lineJ m ++ [((m : Int), (m : Int) + 1)] := by
  unfold lineJ
  rw [List.range_succ, List.map_append]
  rfl
theorem lineJ_len (m : Nat) : (lineJ m).length = m := by unfold lineJ; rw [List.length_map, List.length_range]
theorem lineJ_mem {m : Nat} {p : Int × Int} (h : p ∈ lineJ m) : p.1 < (m : Int) ∧ p.2 ≤ (m : Int) := by
  unfold lineJ at h
  obtain ⟨b, hb, rfl⟩ := List.mem_map.mp h
  have := List.mem_range.mp hb
  constructor
  · show (b : Int) < m
    omega
  · show (b : Int) + 1 ≤ m
    omega
theorem lineJ_ok (n : Int) (parks : List Int) : ∀ m : Nat, (m : Int) < n → JOk n parks (lineJ m) := by
  intro m
  induction m with
  | zero => intro _; exact .nil
  | succ m ih =>
    intro h
    rw [lineJ_succ]
    refine .snoc (ih (by omega)) ⟨by omega, by omega, by omega, fun z => ?_, fun _ => ?_, fun _ => ?_⟩
    · have := (lineJ_mem z).1
      simp only at this
      omega
    · have : eo (lineJ m) (m : Int) = [] := by
        unfold eo
        rw [List.map_eq_nil_iff, List.filter_eq_nil_iff]
        intro p hp hd
        have e := of_decide_eq_true hd
        have := (lineJ_mem hp).1
        omega
      rw [this]
      simp
    · have : wo (lineJ m) ((m : Int) + 1) = [] := by
        unfold wo
        rw [List.map_eq_nil_iff, List.filter_eq_nil_iff]
        intro p hp hd
        have e := of_decide_eq_true hd
        have := (lineJ_mem hp).2
        omega
      rw [this]
      simp
section
variable {K : PySem.W.Frag} {C : Addr} {σ : L2.St} {G G' H H' : Hp} {ta tb te tc tr to : TE} {P : VP} {D : Ends}
theorem ex_negX {a : Int} (ha : EF ta σ G (XV (.int a))) : EF (tUn (rU fun i => .int (-i)) ta) σ G (XV (.int (-a))) := fun H e Q q => ha H e _ fun x G1 H1 g1 p => ⟨a, p, q _ G1 H1 g1 rfl⟩
theorem ef_lineJ {ta : TA} {j : Nat} {n : Int} {te : TE} (h : EA ta σ G fun us _ => us = [.int n]) (hn : 0 ≤ n ∧ n ≤ 900) (hw : ∀ x, wipe ((wipe σ [j]).set j (some x)) [j] = wipe σ [j]) (he : ∀ (i : Nat) G', Ex G G' → (i : Int) < n → EF te ((wipe σ [j]).set j (some (.int (i : Int)))) G' (DV K (dP ((i : Int), (i : Int) + 1)))) :
    EF (tLc (iRng1 ta) (gName j) tYes te [j]) σ G (DV K (dPs (lineJ n.toNat))) :=
  ef_lcR1 (n := n) (fun i xs G' => DpAll K G' xs ((lineJ i).map dP)) h ⟨hn.1, by omega⟩ hw (fun G' _ => .nil) (fun i xs G' e1 hi hx => ec_all ((he i G' e1 hi).imp fun v G2 e2 hv => by rw [lineJ_succ, List.map_append]; exact dpa_snoc (dpax hx e2) hv)) fun p xs G' h1 h2 _ _ hx => dp_mkL upd_same (dpax hx (ex_in h2))
end
end Lw

set_option Elab.async false
set_option linter.all false
set_option maxRecDepth 100000
set_option maxHeartbeats 4000000
/-! a new object whose __init__ may let an error out, at the caller's slots -/
namespace Lw
open PySem L2
open Evl (Ex)
/-- the heap with a new object without fields -/
def newO (H : Hp) (C x dx : Addr) : Hp := upd (upd H dx (.own x)) x (.ins C dx [])
/-- C(..), args read: the promise of __init__ at a new object -/
def askX (C : Addr) (sp : Sp) (vs : V → List V) (Er : XK) (H : Hp) (Q : VK) : Prop := ∀ x dx, H x = none → H dx = none → dx ≠ x → sp (vs (.ref x)) (newO H C x dx) (fun v H2 => v = .non ∧ Q (.ref x) H2) Er
section
variable {X : Cx} {CX : CXT} {k : Nat} {f C : Addr} {fd : FuncData} {ps : List Str} {sp : Sp} {σ : L2.St} {H : Hp}
theorem made_X {Er : XK} {pins : List (Addr × Obj)} {s : Shared} {Q : VK} {us : List Value} {kw : List (Str × Value)} {gU : Value → List Value} {gW : V → List V} (M : Mk X.K C f) (F : FnOk X.prog X.w X.K X.mg X.base CX k f fd ps sp) (hr : Room (k + 1) X.A)
    (hB : ∀ (t : Shared) (o : Value), X.K.In t.heap → BindsTo t fd ⟨o :: us, kw⟩ (ps.zip (gU o))) (hR : ∀ a : Addr, Vals (gW (.ref a)) (gU (.ref a))) (px : PassesAt CX X σ Er) (I : Inv X pins σ H s) (h : askX C sp gW Er H Q) :
    wpAny (model X.prog X.w) X.A (call (.ref C) us kw) (EP X pins σ Q) X.xe s := by
  have asked := h (s.heap.objs.size + 1) (s.heap.objs.size) (I.hok.fresh (Nat.le_succ _)) (I.hok.fresh (Nat.le_refl _)) (Nat.ne_of_lt (Nat.lt_succ_self _))
  have In := Inv.made (C := C) I
  have ran := F.run _ X.stack _ _ ⟨Value.ref (s.heap.objs.size + 1) :: us, kw⟩ (gU (.ref (s.heap.objs.size + 1))) (gW (.ref (s.heap.objs.size + 1))) _ Er (hr.make C us kw) (In.env0.make C us kw) (hB _ _ In.kIn) (hR _) asked
  apply wpAny_call
  refine make_map (f := f) I.kIn M.makes M.init (beq_iff_eq.mp M.fn) (codeAny_mono ran fun out t ho => ?_)
  match out, ho with
  | .error e, ho => exact px pins _ _ e t In ho
  | .ok (.ret u), ho =>
    obtain ⟨v, H', I3, rv, ev, q3⟩ := In.after ho
    subst ev
    exact ⟨rv, ⟨V.ref (s.heap.objs.size + 1), H', I3, rfl, q3⟩⟩
  | .ok .next, ho => exact ho.elim
  | .ok .brk, ho => exact ho.elim
  | .ok .cont, ho => exact ho.elim
variable {E : L2.St → XK} {x : Str} {p pos : Pos} {e : Expr} {es : List Expr} {t tk : TA}
/-- C(e, ..), what is left out having the values dvs -/
def tNewX (C : Addr) (sp : Sp) (dvs : List V) (E : L2.St → XK) (t : TA) : TE := fun σ H Q => t σ H fun vs H1 => askX C sp (fun o => o :: (vs ++ dvs)) (E σ) H1 Q
theorem pe_newX {n : Nat} {dvs : List V} {ds : List Value} (M : Mk X.K C f) (F : FnOk X.prog X.w X.K X.mg X.base CX k f fd ps sp) (hr : Room (k + 1) X.A) (hg : Gl X x) (hm : X.mg x = some (.ref C)) (hb : Binds X.K fd ps ds) (hd : Vals dvs ds) (px : ∀ σ, PassesAt CX X σ (E σ)) (ha : PA X (e :: es) t)
    (h1 : (x == ("__debug__" : Str)) = false := by decide) (h2 : starEach (e :: es) X.env = (false, eval e X.env) :: starEach es X.env := by rfl) (h3 : (backTo pos (starEach es X.env)).any (·.1) = false := by rfl) : PE X (.Call (.Name x p) (e :: es) [] pos) (tNewX C sp dvs E t) := by
  constructor
  intro pins s σ H Q I h
  refine wpAny_Call_Name_kw (ld_glob I hg hm ?_ h1)
  refine PySem.W.callWith_K (h₀ := X.base) I.ok.mod.kin M.kp (thn (ha.run pos pins s σ H _ I h) ?_) h2 h3
  rintro us s1 ⟨vs, H1, I1, r, q⟩
  have ask0 := q (s1.heap.objs.size + 1) (s1.heap.objs.size) (I1.hok.fresh (Nat.le_succ _)) (I1.hok.fresh (Nat.le_refl _)) (Nat.ne_of_lt (Nat.lt_succ_self _))
  have hl := F.len _ _ _ _ ask0
  have rl := r.length
  have dl := hd.length
  refine ⟨I1.kIn, made_X (gU := fun o => o :: (us ++ ds)) M F hr (fun t o hk => hb t (o :: us) hk ?_) (gW := fun o => o :: (vs ++ dvs)) (fun a => .cons (show RelV (.ref a) (.ref a) from rfl) (r.append hd)) (px σ) I1 q⟩
  simp only [List.length_cons, List.length_append] at hl ⊢
  omega
/-- C(e, .., k = v, ..) -/
def tNewKX (C : Addr) (n m : Nat) (sp : Sp) (gV : List V → List V → List V) (E : L2.St → XK) (t tk : TA) : TE := fun σ H Q => t σ H fun vs H1 => tk σ H1 fun zs H2 => vs.length = n ∧ zs.length = m ∧ askX C sp (fun o => gV (o :: vs) zs) (E σ) H2 Q
theorem pe_newKX {n : Nat} {ks : List Str} {kws : List Keyword} {g : List Value → List Value → List Value} {gV : List V → List V → List V} (M : Mk X.K C f) (F : FnOk X.prog X.w X.K X.mg X.base CX k f fd ps sp) (hr : Room (k + 1) X.A) (hg : Gl X x) (hm : X.mg x = some (.ref C)) (hb : KBn X.K fd ps (n + 1) ks g gV)
    (px : ∀ σ, PassesAt CX X σ (E σ)) (ha : PA X (e :: es) t) (hkw : PK X kws tk) (h0 : (backToKw pos (keywordEach kws X.env)).all (·.1.isSome) = true := by rfl) (hks : (backToKw pos (keywordEach kws X.env)).filterMap (·.1) = ks := by rfl)
    (h1 : (x == ("__debug__" : Str)) = false := by decide) (h2 : starEach (e :: es) X.env = (false, eval e X.env) :: starEach es X.env := by rfl)
    (h3 : ((backTo pos (starEach (e :: es) X.env)).any (·.1) || (backToKw pos (keywordEach kws X.env)).any (·.1.isNone)) = false := by rfl) : PE X (.Call (.Name x p) (e :: es) kws pos) (tNewKX C n ks.length sp gV E t tk) := by
  constructor
  intro pins s σ H Q I h
  refine wpAny_Call_Name_kw (ld_glob I hg hm ?_ h1)
  refine PySem.W.callWith_KW (h₀ := X.base) I.ok.mod.kin M.kp h0 (thn (ha.run pos pins s σ H _ I h) ?_) h3 h2
  rintro us s1 ⟨vs, H1, I1, r, q⟩
  refine thn (hkw.run pos pins s1 σ H1 _ I1 q) ?_
  rintro ws s2 ⟨zs, H2, I2, rz, l1, l2, q2⟩
  refine ⟨I2.kIn, ?_⟩
  rw [hks]
  exact made_X (gU := fun o => g (o :: us) ws) M F hr (fun t o hk => hb.to t (o :: us) ws hk (by rw [List.length_cons, ← r.length, l1]) (rz.length.symm.trans l2)) (gW := fun o => gV (o :: vs) zs) (fun a => hb.rel (.cons (show RelV (.ref a) (.ref a) from rfl) r) rz) (px σ) I2 q2
end
end Lw

set_option Elab.async false
set_option linter.all false
set_option maxRecDepth 100000
set_option maxHeartbeats 4000000
/-! what the checks of a layout say; yards as a list or as a tuple -/
namespace Lw
open PySem L2
open Evl (Ex)
inductive LV where
  | ok
  | len (z : Int)
  | no (b : Int)
  | bad (w e : Int)
  | crowd (b : Int) (c : Bool)
/-- what is wrong with the next joint -/
def jbad (n : Int) (parks : List Int) (js : List (Int × Int)) (p : Int × Int) : LV :=
  if ¬ (0 ≤ p.1 ∧ p.1 < n) then .no p.1 else if ¬ (0 ≤ p.2 ∧ p.2 < n) then .no p.2 else if p.1 ≥ p.2 ∨ p ∈ js then .bad p.1 p.2
  else if p.1 ∉ parks ∧ (eo js p.1).length = 2 then .crowd p.1 true else if p.2 ∉ parks ∧ (wo js p.2).length = 2 then .crowd p.2 false else .ok
def jver (n : Int) (parks : List Int) (js : List (Int × Int)) : List (Int × Int) → LV
  | [] => .ok
  | p :: r => match jbad n parks js p with
    | .ok => jver n parks (js ++ [p]) r
    | v => v
def ver (lens : List Int) (parks : List Int) (js : List (Int × Int)) : LV := match lens.find? fun z => decide (z < 1) with
  | some z => .len z
  | none => match badB (lens.length : Int) parks with
    | some b => .no b
    | none => jver (lens.length : Int) parks [] js
theorem find_at {p : Int → Bool} {row : List Int} {i : Nat} {b : Int} (hi : row[i]? = some b) (h : ∀ x ∈ row.take i, p x = false) (hb : p b = true) : row.find? p = some b := by
  rw [List.find?_eq_some_iff_append]
  refine ⟨hb, row.take i, row.drop (i + 1), ?_, fun a m => by simp [h a m]⟩
  obtain ⟨hl, e⟩ := List.getElem?_eq_some_iff.mp hi
  rw [← e, ← List.drop_eq_getElem_cons hl, List.take_append_drop]
theorem find_no {p : Int → Bool} {row : List Int} (h : ∀ x ∈ row, p x = false) : row.find? p = none := by
  rw [List.find?_eq_none]
  intro b m
  simp [h b m]
theorem jbad_new {n : Int} {parks : List Int} {js : List (Int × Int)} {p : Int × Int} (h : jbad n parks js p = .ok) : JNew n parks js p.1 p.2 := by
  unfold jbad at h
  split at h
  · cases h
  · split at h
    · cases h
    · split at h
      · cases h
      · split at h
        · cases h
        · split at h
          · cases h
          · rename_i h1 h2 h3 h4 h5
            have h1 := Classical.not_not.mp h1
            have h2 := Classical.not_not.mp h2
            exact ⟨h1.1, by omega, h2.2, fun z => h3 (.inr z), fun z y => h4 ⟨z, y⟩, fun z y => h5 ⟨z, y⟩⟩
theorem jver_step {n : Int} {parks : List Int} {js : List (Int × Int)} {i : Nat} {p : Int × Int} (hp : js[i]? = some p) : jver n parks (js.take i) (js.drop i) = match jbad n parks (js.take i) p with
    | .ok => jver n parks (js.take (i + 1)) (js.drop (i + 1))
    | v => v := by
  obtain ⟨hl, e⟩ := List.getElem?_eq_some_iff.mp hp
  have e1 : js.drop i = p :: js.drop (i + 1) := by rw [← e]; exact List.drop_eq_getElem_cons hl
  have e2 : js.take (i + 1) = js.take i ++ [p] := by rw [← e, List.take_succ_eq_append_getElem hl]
  rw [e1, e2]
  show (match jbad n parks (js.take i) p with | .ok => jver n parks (js.take i ++ [p]) (js.drop (i + 1)) | v => v) = _
  rfl
theorem jver_ok {n : Int} {parks : List Int} : ∀ {r js : List (Int × Int)}, JOk n parks js → jver n parks js r = .ok → JOk n parks (js ++ r)
  | [], js, h, _ => by rw [List.append_nil]; exact h
  | p :: r, js, h, e => by
    have e' : (match jbad n parks js p with | .ok => jver n parks (js ++ [p]) r | v => v) = .ok := e
    cases hb : jbad n parks js p with
    | ok =>
      rw [hb] at e'
      have := jver_ok (r := r) (.snoc h (jbad_new hb)) e'
      rw [List.append_assoc] at this
      exact this
    | len z => rw [hb] at e'; cases e'
    | no z => rw [hb] at e'; cases e'
    | bad z y => rw [hb] at e'; cases e'
    | crowd z y => rw [hb] at e'; cases e'
theorem ver_ok {lens parks : List Int} {js : List (Int × Int)} (h : ver lens parks js = .ok) : (∀ z ∈ lens, 1 ≤ z) ∧ (∀ b ∈ parks, 0 ≤ b ∧ b < (lens.length : Int)) ∧ JOk (lens.length : Int) parks js := by
  unfold ver at h
  cases hl : lens.find? fun z => decide (z < 1) with
  | some z => rw [hl] at h; cases h
  | none =>
    rw [hl] at h
    cases hb : badB (lens.length : Int) parks with
    | some b => simp only [hb] at h; cases h
    | none =>
      simp only [hb] at h
      refine ⟨fun z m => ?_, badB_no hb, ?_⟩
      · have := List.find?_eq_none.mp hl z m
        simp at this
        omega
      · have := jver_ok (r := js) (.nil (n := (lens.length : Int)) (parks := parks)) h
        rwa [List.nil_append] at this
/-- yards: a list or a tuple -/
def YdAt (K : PySem.W.Frag) (G : Hp) (a : Addr) (parks : List Int) : Prop := SqL K G a (parks.map V.int) ∨ SqT K G a (parks.map V.int)
theorem YdAt.ex {K : PySem.W.Frag} {G G' : Hp} {a : Addr} {parks : List Int} (h : YdAt K G a parks) (e : Ex G G') : YdAt K G' a parks := h.imp (Evl.ex_l e) (Evl.ex_t e)
/-- an error let out, whatever is known -/
def RseH (C : Addr) (fs : List (Str × V)) (H : Hp) (E : XK) : Prop := ∀ H' d, Ex H H' → H' d = none → E (.ref C) (some d) (upd H' d (.xd fs))
theorem RseH.rse {C : Addr} {fs : List (Str × V)} {G H : Hp} {E : XK} (h : RseH C fs H E) : Rse C fs G H E := fun G' H' d g hd => h H' d g.hp hd
theorem Rse.rh {C : Addr} {fs : List (Str × V)} {G H : Hp} {E : XK} (h : Rse C fs G H E) (e : Ex G H) : RseH C fs H E := fun H' d e' hd => h G H' d (.same e e') hd
theorem RseH.up {C : Addr} {fs : List (Str × V)} {H H' : Hp} {E : XK} (h : RseH C fs H E) (e : Ex H H') : RseH C fs H' E := fun H2 d e' hd => h H2 d (e.trans e') hd
/-- the addresses of the four classes -/
structure CCs where
  L : Addr
  N : Addr
  J : Addr
  E : Addr
def LV.rse (cc : CCs) (H : Hp) (E : XK) : LV → Prop
  | .ok => True
  | .len z => RseH cc.L [("length", .int z)] H E
  | .no b => RseH cc.N [("block", .int b)] H E
  | .bad w e => RseH cc.J [("east", .int e), ("west", .int w)] H E
  | .crowd b c => RseH cc.E [("side", .str (sd c)), ("block", .int b)] H E
theorem LV.rse.up {cc : CCs} {H H' : Hp} {E : XK} {v : LV} (h : v.rse cc H E) (e : Ex H H') : v.rse cc H' E := by
  cases v with
  | ok => trivial
  | len z => exact RseH.up h e
  | no z => exact RseH.up h e
  | bad w z => exact RseH.up h e
  | crowd w z => exact RseH.up h e
/-- an own __init__ that stores two fields -/
def spIni2 (C : Addr) (f1 f2 : Str) : Sp := fun vs H Q _ => ∃ (a : Addr) (y1 y2 : V), vs = [.ref a, y1, y2] ∧ H a = some (exo a C none) ∧ ∀ d, H d = none → d ≠ a → Q .non (upd (upd H d (exd d [(f2, y2), (f1, y1)])) a (exo a C (some d)))
section
variable {K : PySem.W.Frag} {C : Addr} {σ : L2.St} {G G' H H' : Hp} {ta tb te tc tr to : TE} {P : VP} {D : Ends} {tl : TE} {g : TG} {tu : TS}
/-- raise C(e1, e2) -/
theorem mk_two {f1 f2 : Str} {y1 y2 : V} {Q : XK} (hG : Ex G H) (h1 : EF ta σ G (XV y1)) (h2 : EF tb σ G (XV y2)) (k : RseH C [(f2, y2), (f1, y1)] H Q) : tMkO C (spIni2 C f1 f2) [] (tCons ta (tCons tb tNil)) σ H Q :=
  (ea_two mo_XV mo_XV h1 h2) H hG _ fun vs G1 H1 g1 ⟨x, y, ev, hx, hy⟩ => by
    subst ev
    rw [show x = y1 from hx, show y = y2 from hy]
    refine ⟨by simp, fun a ha => ⟨a, y1, y2, rfl, upd_same, fun d hd hn => ⟨rfl, d, [(f2, y2), (f1, y1)], upd_same, ?_, ?_, ?_⟩⟩⟩
    · rw [upd_ne hn]
      exact upd_same
    · rw [upd_ne hn] at hd
      exact hd
    · rw [heap_new ha hn]
      rw [upd_ne hn] at hd
      exact k H1 d g1.hp hd
/-- raise C(e) -/
theorem mk_oneH {f1 : Str} {y1 : V} {Q : XK} (hG : Ex G H) (h1 : EF ta σ G (XV y1)) (k : RseH C [(f1, y1)] H Q) : tMkO C (spIni1 C f1) [] (tCons ta tNil) σ H Q := mk_one hG h1 fun G' H' d g hd => k H' d g.hp hd
theorem st_forT {xs : List V} {a : Addr} (hG : Ex G H) (h : EF tl σ G (XV (.ref a))) (hx : SqT K G a xs) (W : Nat → L2.St → Hp → Prop) (h0 : ∀ H', Ex H H' → W 0 σ H') (hl : ∀ i σ' H', W i σ' H' → Ex G H')
    (hs : ∀ i x σ' H', xs[i]? = some x → W i σ' H' → g x σ' H' fun σ2 H2 => tu { D with nx := W (i + 1), ct := W (i + 1), bk := D.nx } σ2 H2) (hd : ∀ σ' H', W xs.length σ' H' → D.nx σ' H') : tFor (iTup K tl) g tu D σ H :=
  h H hG _ fun v G1 H1 g1 e => ⟨a, e, ⟨xs, Evl.ex_t (hG.trans g1.hp) hx⟩, for_tup W (h0 H1 g1.hp) (fun i σ' H' _ w => Evl.ex_t (hl i σ' H' w) hx) hs hd⟩
/-- x in yards -/
theorem inV_ints (b : Int) : ∀ l : List Int, inV (.int b) (l.map V.int) = decide (b ∈ l) := fun l => by
  unfold inV
  induction l with
  | nil => rfl
  | cons x l ih =>
    rw [List.map_cons, List.any_cons, ih, Lw.eqV_int]
    rw [Bool.eq_iff_iff]
    simp only [Bool.or_eq_true, decide_eq_true_eq, List.mem_cons]
    exact ⟨fun h => h.elim (fun h => .inl h.symm) .inr, fun h => h.elim (fun h => .inl h.symm) .inr⟩
theorem ex_inY {a : Addr} {b : Int} {parks : List Int} (ha : EF ta σ G (XV (.int b))) (hb : EF tb σ G (XV (.ref a))) (hy : YdAt K G a parks) : EF (tOp (rIn K false) ta tb) σ G (XV (.bl (decide (b ∈ parks)))) :=
  ef_op mo_XV mo_XV ha hb fun x y G' e1 hx hz => by
    cases (show x = _ from hx)
    cases (show y = _ from hz)
    refine fun H e2 Q k => ⟨a, parks.map V.int, rfl, hy.ex (e1.trans e2), rfl, ?_, k _ G' H (.refl e2) ?_⟩
    · rw [List.all_eq_true]
      intro v m
      obtain ⟨z, _, rfl⟩ := List.mem_map.mp m
      rfl
    · show V.bl _ = V.bl _
      rw [if_neg (by simp), inV_ints]
end
/-- check_blocks of yards, with its error -/
def spChecksY (K : PySem.W.Frag) (C CN : Addr) : Sp := fun vs H Q E => ∃ (G : Hp) (p : Addr) (n : Int) (a : Addr) (bs : List Int), Ex G H ∧ vs = [.ref p, .ref a] ∧ SizeAt C G p n ∧ YdAt K G a bs ∧ (badB n bs = none → Ret G H (XV .non) Q) ∧ (∀ b, badB n bs = some b → RseH CN [("block", .int b)] H E)
def spAddX (C : Addr) (cc : CCs) : Sp := fun vs H Q E => ∃ (x : Addr) (n : Nat) (parks : List Int) (js : List (Int × Int)) (dx : Addr) (fs : List (Str × V)) (l ym e w : Addr) (ea wa : List Addr) (u v : Int), vs = [.ref x, .int u, .int v] ∧ AddSt C H x n parks js dx fs l ym e w ea wa ∧ js.length ≤ 900 ∧ (jbad (n : Int) parks js (u, v)).rse cc H E ∧
  (jbad (n : Int) parks js (u, v) = .ok → ∀ H', AddSt C H' x n parks (js ++ [(u, v)]) dx fs l ym e w ea wa → (∀ a o, a ∉ ea → a ∉ wa → H a = some o → H' a = some o) → Q .non H')
def spInitY (K : PySem.W.Frag) (C : Addr) (cc : CCs) : Sp := fun vs H Q E => ∃ (G : Hp) (x dx : Addr) (lens : List Int) (js : List (Int × Int)) (parks : List Int) (a1 a2 a3 : Addr), vs = [.ref x, .ref a1, .ref a2, .ref a3] ∧ Ex G H ∧ G x = none ∧ H x = some (.ins C dx []) ∧
  Dp K G (.ref a1) (dI lens) ∧ Dp K G (.ref a2) (dPs js) ∧ YdAt K G a3 parks ∧ lens.length ≤ 200 ∧ js.length ≤ 900 ∧ (ver lens parks js).rse cc (outH H x) E ∧
  (ver lens parks js = .ok → ∀ G' H', Gr G G' (outH H x) H' → LayL K C G' x lens parks js → Q .non H')
end Lw

set_option Elab.async false
set_option linter.all false
set_option maxRecDepth 100000
set_option maxHeartbeats 4000000
/-! a layout that may be refused, made; tuples of data -/
namespace Lw
open PySem L2
open Evl (Ex)
section
variable {K : PySem.W.Frag} {C : Addr} {σ : L2.St} {G G' H H' : Hp} {ta tb te tc tr to : TE} {P : VP} {D : Ends} {cc : CCs}
theorem ex_newO {H : Hp} {C x dx : Addr} (hx : H x = none) (hd : H dx = none) : Ex H (outH (newO H C x dx) x) := fun a o ha => by
  unfold newO
  rw [out_ne (ne_of_none ha hx), upd_ne (ne_of_none ha hx), upd_ne (ne_of_none ha hd)]
  exact ha
theorem nw_ask {E : XK} {lens parks : List Int} {js : List (Int × Int)} {a1 a2 a3 : Addr} {Q : VK} (hG : Ex G H) (d1 : Dp K G (.ref a1) (dI lens)) (d2 : Dp K G (.ref a2) (dPs js)) (d3 : YdAt K G a3 parks) (n2 : lens.length ≤ 200) (hj : js.length ≤ 900) (kE : (ver lens parks js).rse cc H E)
    (kok : ver lens parks js = .ok → ∀ x G' H', Gr G G' H H' → LayL K C G' x lens parks js → Q (.ref x) H') : askX C (spInitY K C cc) (fun o => [o, .ref a1, .ref a2, .ref a3]) E H Q := fun x dx hx hd hn => by
  have ex2 := ex_newO (C := C) hx hd
  refine ⟨G, x, dx, lens, js, parks, a1, a2, a3, rfl, hG.trans (ex2.trans out_ex), none_back hG hx, upd_same, d1, d2, d3, n2, hj, kE.up ex2, fun hok G' H' g hL => ⟨rfl, kok hok x G' H' (g.low ex2) hL⟩⟩
/-- Layout(a, b, yards=c) -/
theorem nw_kx {E : L2.St → XK} {lens parks : List Int} {js : List (Int × Int)} {a1 a2 : Addr} {Q : VK} (hG : Ex G H) (h1 : EF ta σ G (XV (.ref a1))) (h2 : EF tb σ G (XV (.ref a2))) (h3 : EF tc σ G fun v G' => ∃ a3, v = .ref a3 ∧ YdAt K G' a3 parks) (d1 : Dp K G (.ref a1) (dI lens)) (d2 : Dp K G (.ref a2) (dPs js)) (n2 : lens.length ≤ 200) (hj : js.length ≤ 900)
    (kE : (ver lens parks js).rse cc H (E σ)) (kok : ver lens parks js = .ok → ∀ x G' H', Gr G G' H H' → LayL K C G' x lens parks js → Q (.ref x) H') : tNewKX C 2 1 (spInitY K C cc) (fun vs zs => vs ++ zs) E (tCons ta (tCons tb tNil)) (tCons tc tNil) σ H Q :=
  (ea_two mo_XV mo_XV h1 h2) H hG _ fun vs G1 H1 g1 ⟨x, y, ev, hx, hy⟩ => (ea_one h3) H1 (hG.trans g1.hp) _ fun zs G2 H2 g2 ⟨z, ez, a3, ea, hz⟩ => by
    subst ev ez ea
    rw [show x = _ from hx, show y = _ from hy]
    have gg := g2.low g1.hp
    exact ⟨rfl, rfl, nw_ask g2.ok (dpx d1 g2.up) (dpx d2 g2.up) hz n2 hj (kE.up gg.hp) fun hok x G' H' g hL => kok hok x G' H' (gg.trans g) hL⟩
/-- Layout(a, b) -/
theorem nw_x {E : L2.St → XK} {lens : List Int} {js : List (Int × Int)} {a1 a2 aY : Addr} {Q : VK} (hG : Ex G H) (h1 : EF ta σ G (XV (.ref a1))) (h2 : EF tb σ G (XV (.ref a2))) (hY : ∀ G, SqT K G aY []) (d1 : Dp K G (.ref a1) (dI lens)) (d2 : Dp K G (.ref a2) (dPs js)) (n2 : lens.length ≤ 200) (hj : js.length ≤ 900)
    (kE : (ver lens [] js).rse cc H (E σ)) (kok : ver lens [] js = .ok → ∀ x G' H', Gr G G' H H' → LayL K C G' x lens [] js → Q (.ref x) H') : tNewX C (spInitY K C cc) [.ref aY] E (tCons ta (tCons tb tNil)) σ H Q :=
  (ea_two mo_XV mo_XV h1 h2) H hG _ fun vs G1 H1 g1 ⟨x, y, ev, hx, hy⟩ => by
    subst ev
    rw [show x = _ from hx, show y = _ from hy]
    exact nw_ask (parks := []) (hG.trans g1.hp) d1 d2 (.inr (hY G)) n2 hj (kE.up g1.hp) fun hok x G' H' g hL => kok hok x G' H' (g.low g1.hp) hL
def rTupOf (K : PySem.W.Frag) : List V → Hp → VK → Prop := fun xs H Q => ∃ p ys, xs = [.ref p] ∧ ((SqL K H p ys ∧ ∀ l, H l = none → Q (.ref l) (upd H l (.tup ys))) ∨ (SqT K H p ys ∧ Q (.ref p) H))
theorem call_tupK {X : Cx} {K : PySem.W.Frag} (h : X.K = K) : CallR X (.type "tuple") (rTupOf K) := by subst h; exact call_tuple_of
theorem call_lenK {X : Cx} {K : PySem.W.Frag} (h : X.K = K) : CallR X (.builtin "len") (Evl.rLenS K) := by subst h; exact call_len_seq
/-- tuple(a list) -/
theorem ef_tupOf {a : Addr} {parks : List Int} (ha : EF ta σ G (XV (.ref a))) (hs : SqL K G a (parks.map V.int)) : EF (tCB (rTupOf K) (tCons ta tNil)) σ G fun v G' => ∃ a3, v = .ref a3 ∧ YdAt K G' a3 parks := fun H e Q q => ha H e _ fun x G1 H1 g1 p => by
  cases (show x = _ from p)
  exact ⟨a, parks.map V.int, rfl, .inl ⟨Evl.ex_l (g1.up.trans g1.ok) hs, fun l hl => q _ _ _ (g1.trans (.new g1.ok hl)) ⟨l, rfl, .inr (Evl.st_of upd_same)⟩⟩⟩
/-- t + u, tuples -/
theorem ef_catT {xs ys : List V} (ha : EF ta σ G fun v G' => ∃ p, v = .ref p ∧ G' p = some (.tup xs)) (hb : EF tb σ G fun v G' => ∃ p, v = .ref p ∧ G' p = some (.tup ys)) (h1 : xs ≠ []) (h2 : ys ≠ []) (h3 : xs.length + ys.length ≤ 1000) (h : ∀ p G', G' p = some (.tup (xs ++ ys)) → P (.ref p) G') : EF (tOp (rCatT K) ta tb) σ G P :=
  ef_op (Pa := fun v G' => ∃ p, v = .ref p ∧ G' p = some (.tup xs)) (Pb := fun v G' => ∃ p, v = .ref p ∧ G' p = some (.tup ys)) (fun v G G' e ⟨p, ev, hp⟩ => ⟨p, ev, e _ _ hp⟩) (fun v G G' e ⟨p, ev, hp⟩ => ⟨p, ev, e _ _ hp⟩) ha hb fun x y G' e ⟨p, ex, hp⟩ ⟨q, ey, hq⟩ => fun H e2 Q k =>
    ⟨p, q, xs, ys, ex, ey, Evl.st_of (e2 _ _ hp), Evl.st_of (e2 _ _ hq), h1, Nat.le_trans h3 (by decide), fun z => absurd z h2, fun _ r hr => k _ _ _ (.new e2 hr) (h r _ upd_same)⟩
/-- data in a row -/
theorem ea_dnil {α : Type} {p : α → Prop} {l : α} (h : p l) : EA tNil σ G fun vs G' => ∃ l, p l ∧ DpAll K G' vs [] := fun H e _ q => q [] G H (.refl e) ⟨l, h, .nil⟩
theorem ea_done {α : Type} {p : α → Prop} {f : α → PyData} (ha : EF ta σ G fun v G' => ∃ l, p l ∧ Dp K G' v (f l)) : EA (tCons ta tNil) σ G fun vs G' => ∃ l, p l ∧ DpAll K G' vs [f l] := (ea_one ha).imp fun vs G' _ ⟨x, ev, l, hl, hd⟩ => ⟨l, hl, by rw [ev]; exact .cons hd .nil⟩
theorem ea_dcons {α : Type} {p : α → Prop} {ds : α → List PyData} {d : PyData} {tl : TA} (ha : EF ta σ G (DV K d)) (hr : EA tl σ G fun vs G' => ∃ l, p l ∧ DpAll K G' vs (ds l)) : EA (tCons ta tl) σ G fun vs G' => ∃ l, p l ∧ DpAll K G' vs (d :: ds l) :=
  ea_cons mo_DV (fun vs G G' e ⟨l, hl, hd⟩ => ⟨l, hl, dpax hd e⟩) ha hr fun x xs G' _ hx ⟨l, hl, hd⟩ => ⟨l, hl, .cons hx hd⟩
theorem ef_tupD {α : Type} {p : α → Prop} {ds : α → List PyData} {tl : TA} (h : EA tl σ G fun vs G' => ∃ l, p l ∧ DpAll K G' vs (ds l)) (hl : ∀ l, (ds l).length ≤ 1000) : EF (tTup tl) σ G fun v G' => ∃ l, p l ∧ Dp K G' v (.tuple (ds l)) :=
  ef_tup h (fun vs G' ⟨l, _, hd⟩ => by rw [dpa_len hd]; exact hl l) fun q vs G' _ _ hq ⟨l, hl, hd⟩ => ⟨l, hl, dp_mkT upd_same (dpax hd (ex_in hq))⟩
end
/-- what is told of a layout, or of its error -/
def vD (lens parks : List Int) (l : List (Int × Int)) : LV → PyData
  | .ok => .tuple [.str "layout", .int (lens.length : Int), dI lens, .list ((marksOf lens.length parks).map PyData.bool), dPs l]
  | .len z => errD "BadLength" z true true false
  | .no b => errD "NoBlock" b true true false
  | .bad w e => .tuple [.str "BadJoint", .int w, .int e, .bool true, .bool true, .bool false]
  | .crowd b c => .tuple [.str "CrowdedEnd", .int b, .str (sd c), .bool true, .bool true, .bool false]
def TD (K : PySem.W.Frag) (lens parks : List Int) (js : List (Int × Int)) : VP := fun v G => ∃ l : List (Int × Int), (ver lens parks js = .ok → l.Perm js ∧ l.Pairwise lexLe) ∧ Dp K G v (vD lens parks l (ver lens parks js))
theorem mo_TD {K : PySem.W.Frag} {lens parks : List Int} {js : List (Int × Int)} : Mo (TD K lens parks js) := fun v G G' e ⟨l, h, d⟩ => ⟨l, h, dpx d e⟩
theorem td_same {K : PySem.W.Frag} {lens parks : List Int} {js : List (Int × Int)} {v w : V} {G : Hp} (n2 : lens.length ≤ 200) (hj : js.length ≤ 900) (h1 : TD K lens parks js v G) (h2 : TD K lens parks js w G) : ∃ d, Dp K G v d ∧ Dp K G w d ∧ Okb 3 d := by
  obtain ⟨l, hl, d1⟩ := h1
  obtain ⟨m, hm, d2⟩ := h2
  cases hv : ver lens parks js with
  | ok =>
    rw [hv] at d1 d2
    have e : l = m := sort_uniq ((hl hv).1.trans (hm hv).1.symm) (hl hv).2 (hm hv).2
    subst e
    refine ⟨_, d1, d2, ?_⟩
    have ll := (hl hv).1.length_eq
    unfold vD Okb
    refine ⟨by simp, fun d m => ?_⟩
    simp only [List.mem_cons, List.not_mem_nil, or_false] at m
    rcases m with rfl | rfl | rfl | rfl | rfl
    · simp [Okb]
    · simp [Okb]
    · unfold dI Okb
      refine ⟨by rw [List.length_map]; omega, fun d m => ?_⟩
      obtain ⟨q, _, rfl⟩ := List.mem_map.mp m
      simp [Okb]
    · unfold Okb
      refine ⟨by rw [List.length_map, marks_len]; omega, fun d m => ?_⟩
      obtain ⟨q, _, rfl⟩ := List.mem_map.mp m
      simp [Okb]
    · unfold dPs Okb
      refine ⟨by rw [List.length_map]; omega, fun d m => ?_⟩
      obtain ⟨q, _, rfl⟩ := List.mem_map.mp m
      unfold dP Okb
      exact ⟨by simp, fun d m => by simp at m; rcases m with rfl | rfl <;> simp [Okb]⟩
  | len z => rw [hv] at d1 d2; exact ⟨_, d1, d2, by unfold vD errD Okb; exact ⟨by simp, fun d m => by simp at m; rcases m with rfl | rfl | rfl | rfl <;> simp [Okb]⟩⟩
  | no z => rw [hv] at d1 d2; exact ⟨_, d1, d2, by unfold vD errD Okb; exact ⟨by simp, fun d m => by simp at m; rcases m with rfl | rfl | rfl | rfl <;> simp [Okb]⟩⟩
  | bad z y => rw [hv] at d1 d2; exact ⟨_, d1, d2, by unfold vD Okb; exact ⟨by simp, fun d m => by simp at m; rcases m with rfl | rfl | rfl | rfl | rfl <;> simp [Okb]⟩⟩
  | crowd z y => rw [hv] at d1 d2; exact ⟨_, d1, d2, by unfold vD Okb; exact ⟨by simp, fun d m => by simp at m; rcases m with rfl | rfl | rfl | rfl | rfl <;> simp [Okb]⟩⟩
end Lw

set_option Elab.async false
set_option linter.all false
set_option maxRecDepth 100000
set_option maxHeartbeats 4000000
/-! three new lists that are changed -/
namespace Lw
open PySem L2
open Evl (Ex)
def rIns : V → List V → Hp → VK → Prop := fun x vs H Q => ∃ (l : Addr) (xs : List V) (i : Int) (y : V), x = .ref l ∧ vs = [.int i, y] ∧ H l = some (.lst xs) ∧ xs.length < sizeLine ∧ 0 ≤ i ∧ i < 2 ^ 63 ∧ Q .non (upd H l (.lst (xs.take i.toNat ++ [y] ++ xs.drop i.toNat)))
structure Fr3 (H : Hp) (la ja pa : Addr) : Prop where
  l : H la = none
  j : H ja = none
  p : H pa = none
  lj : la ≠ ja
  lp : la ≠ pa
  jp : ja ≠ pa
/-- lengths, joints and yards as they stand now -/
structure C3 (K : PySem.W.Frag) (G H : Hp) (la ja pa : Addr) (n J0 P0 b : Nat) (H1 Gk : Hp) (ls : List Int) (vj : List V) (js : List (Int × Int)) (ps : List Int) : Prop where
  g : Gr G Gk H H1
  kl : Gk la = none
  kj : Gk ja = none
  kp : Gk pa = none
  hl : H1 la = some (.lst (ls.map V.int))
  hj : H1 ja = some (.lst vj)
  hp : H1 pa = some (.lst (ps.map V.int))
  d : DpAll K Gk vj (js.map dP)
  ln : ls.length = n
  j0 : J0 ≤ js.length
  j1 : js.length ≤ J0 + b
  p0 : P0 ≤ ps.length
  p1 : ps.length ≤ P0 + b
def CS (K : PySem.W.Frag) (G H : Hp) (la ja pa : Addr) (n J0 P0 b : Nat) (H1 : Hp) : Prop := ∃ Gk ls vj js ps, C3 K G H la ja pa n J0 P0 b H1 Gk ls vj js ps
section
variable {K : PySem.W.Frag} {σ : L2.St} {G G' H H' H1 H2 Gk : Hp} {la ja pa : Addr} {n J0 P0 b b' : Nat} {ls ps : List Int} {vj : List V} {js : List (Int × Int)} {ta tb te ti tc : TE} {P : VP} {D : Ends}
theorem C3.up (h : C3 K G H la ja pa n J0 P0 b H1 Gk ls vj js ps) (e : Ex H1 H2) : C3 K G H la ja pa n J0 P0 b H2 Gk ls vj js ps := { h with g := h.g.then e, hl := e _ _ h.hl, hj := e _ _ h.hj, hp := e _ _ h.hp }
theorem CS.up (h : CS K G H la ja pa n J0 P0 b H1) (e : Ex H1 H2) : CS K G H la ja pa n J0 P0 b H2 := by
  obtain ⟨Gk, ls, vj, js, ps, h⟩ := h
  exact ⟨Gk, ls, vj, js, ps, h.up e⟩
theorem CS.wide (h : CS K G H la ja pa n J0 P0 b H1) (e : b ≤ b') : CS K G H la ja pa n J0 P0 b' H1 := by
  obtain ⟨Gk, ls, vj, js, ps, h⟩ := h
  exact ⟨Gk, ls, vj, js, ps, { h with j1 := by have := h.j1; omega, p1 := by have := h.p1; omega }⟩
theorem C3.lenJ (h : C3 K G H la ja pa n J0 P0 b H1 Gk ls vj js ps) : vj.length = js.length := by rw [dpa_len h.d, List.length_map]
theorem C3.exJ (h : C3 K G H la ja pa n J0 P0 b H1 Gk ls vj js ps) : Ex (upd Gk ja (.lst vj)) H1 := ex_know h.g.ok h.hj
theorem C3.exP (h : C3 K G H la ja pa n J0 P0 b H1 Gk ls vj js ps) : Ex (upd Gk pa (.lst (ps.map V.int))) H1 := ex_know h.g.ok h.hp
/-- a pair put into the joints -/
theorem st_insJ {at' : Int} (fr : Fr3 H la ja pa) (h : C3 K G H la ja pa n J0 P0 b H1 Gk ls vj js ps) (h0 : 0 ≤ at') (h1 : at' < 100000) (hz : J0 + b < 900) (ho : σ[3]? = some (some (.ref ja))) (hat : σ[10]? = some (some (.int at'))) (hT : TR te σ Gk H1 fun v G' => ∃ p, Dp K G' v (dP p))
    (k : ∀ H2, CS K G H la ja pa n J0 P0 (b + 1) H2 → D.nx σ H2) : tDrop (tBM K "list" rIns (tVar 3) (tCons (tVar 10) (tCons te tNil))) D σ H1 := by
  refine ⟨.ref ja, ho, .inl ⟨rfl, vj, Evl.sq_of h.hj⟩, .int at', hat, hT _ fun v G2 H2 g ⟨p, hp⟩ => ?_⟩
  have h2j := g.hp _ _ h.hj
  have lv := h.lenJ
  have j1 := h.j1
  refine ⟨ja, vj, at', v, rfl, rfl, h2j, Nat.lt_of_le_of_lt (m := 900) (by omega) (by decide), h0, by omega, ?_⟩
  have gA := h.g.trans g
  have kj := g.2.2.2 ja (ne_none_of h.hj) h.kj
  refine k _ ⟨G2, ls, vj.take at'.toNat ++ [v] ++ vj.drop at'.toNat, js.take at'.toNat ++ [p] ++ js.drop at'.toNat, ps, gA.put fr.j kj, g.2.2.2 la (ne_none_of h.hl) h.kl, kj, g.2.2.2 pa (ne_none_of h.hp) h.kp, by rw [upd_ne fr.lj]; exact g.hp _ _ h.hl, upd_same, by rw [upd_ne fr.jp.symm]; exact g.hp _ _ h.hp, ?_, h.ln, ?_, ?_, h.p0, ?_⟩
  · have d2 := dpax h.d g.up
    rw [List.map_append, List.map_append, List.map_take, List.map_drop]
    exact dpa_cat (dpa_cat (dpa_take _ d2) (.cons hp .nil)) (dpa_drop _ d2)
  · have := h.j0
    simp only [List.length_append, List.length_take, List.length_drop, List.length_singleton]
    omega
  · simp only [List.length_append, List.length_take, List.length_drop, List.length_singleton]
    omega
  · have := h.p1
    omega
where
  dpa_cat {G : Hp} : ∀ {vs us : List V} {ds es : List PyData}, DpAll K G vs ds → DpAll K G us es → DpAll K G (vs ++ us) (ds ++ es)
    | _, _, _, _, .nil, h => h
    | _, _, _, _, .cons a r, h => .cons a (dpa_cat r h)
/-- an int put into the yards -/
theorem st_insP {z : Int} (fr : Fr3 H la ja pa) (h : C3 K G H la ja pa n J0 P0 b H1 Gk ls vj js ps) (hz : P0 + b < 900) (ho : σ[4]? = some (some (.ref pa))) (hT : TR ti σ Gk H1 (IV fun z => 0 ≤ z ∧ z < 100000)) (hv : ∀ G, EF te σ G (XV (.int z)))
    (k : ∀ H2, CS K G H la ja pa n J0 P0 (b + 1) H2 → D.nx σ H2) : tDrop (tBM K "list" rIns (tVar 4) (tCons ti (tCons te tNil))) D σ H1 := by
  refine ⟨.ref pa, ho, .inl ⟨rfl, _, Evl.sq_of h.hp⟩, hT _ fun v G2 H2 g ⟨i, ei, hi⟩ => hv G2 H2 g.ok _ fun u G3 H3 g3 pu => ?_⟩
  subst ei
  rw [show u = _ from pu]
  have g := g.trans g3
  have p1 := h.p1
  refine ⟨pa, ps.map V.int, i, .int z, rfl, rfl, g.hp _ _ h.hp, Nat.lt_of_le_of_lt (m := 900) (by rw [List.length_map]; omega) (by decide), hi.1, by omega, ?_⟩
  have gA := h.g.trans g
  have kp := g.2.2.2 pa (ne_none_of h.hp) h.kp
  refine k _ ⟨G3, ls, vj, js, ps.take i.toNat ++ [z] ++ ps.drop i.toNat, gA.put fr.p kp, g.2.2.2 la (ne_none_of h.hl) h.kl, g.2.2.2 ja (ne_none_of h.hj) h.kj, kp, by rw [upd_ne fr.lp]; exact g.hp _ _ h.hl, by rw [upd_ne fr.jp]; exact g.hp _ _ h.hj, ?_, dpax h.d g.up, h.ln, h.j0, by have := h.j1; omega, ?_, ?_⟩
  · rw [upd_same, List.map_append, List.map_append, List.map_take, List.map_drop]
    rfl
  · have := h.p0
    simp only [List.length_append, List.length_take, List.length_drop, List.length_singleton]
    omega
  · simp only [List.length_append, List.length_take, List.length_drop, List.length_singleton]
    omega
/-- a length put to another one -/
theorem st_setL {i : Nat} (fr : Fr3 H la ja pa) (h : C3 K G H la ja pa n J0 P0 b H1 Gk ls vj js ps) (hi : i < n) (ho : σ[2]? = some (some (.ref la))) (h7 : σ[7]? = some (some (.int (i : Int)))) (hT : EF te σ Gk (IV fun _ => True)) (k : ∀ H2, CS K G H la ja pa n J0 P0 b H2 → D.nx σ H2) :
    tAsg te (gSub (tVar 2) (tVar 7) rSetL) D σ H1 := hT H1 h.g.ok _ fun v G2 H2 g ⟨z, ez, _⟩ => by
  subst ez
  refine ⟨.ref la, ho, .int (i : Int), h7, la, ls.map V.int, (i : Int), i, rfl, rfl, g.hp _ _ h.hl, ixN_nat (by rw [List.length_map, h.ln]; exact hi), ?_⟩
  have gA := h.g.trans g
  have kl := g.2.2.2 la (ne_none_of h.hl) h.kl
  exact k _ ⟨G2, ls.set i z, vj, js, ps, gA.put fr.l kl, kl, g.2.2.2 ja (ne_none_of h.hj) h.kj, g.2.2.2 pa (ne_none_of h.hp) h.kp, by rw [upd_same, List.map_set], by rw [upd_ne fr.lj.symm]; exact g.hp _ _ h.hj, by rw [upd_ne fr.lp.symm]; exact g.hp _ _ h.hp, dpax h.d g.up, by rw [List.length_set]; exact h.ln, h.j0, h.j1, h.p0, h.p1⟩
theorem EF.tr {P : VP} (h : EF te σ Gk P) (e : Ex Gk H1) : TR te σ Gk H1 P := fun Q q => h H1 e Q q
/-- .. what is known of a list being of no use later -/
theorem EF.trJ {P P' : VP} (h : EF te σ (upd Gk ja (.lst vj)) P') (e : Ex Gk H1) (e2 : Ex (upd Gk ja (.lst vj)) H1) (hP : ∀ v G', P' v G' → P v Gk) : TR te σ Gk H1 P := fun Q q => h H1 e2 Q fun v G2 H2 g p => q v Gk H2 (.same e g.hp) (hP v G2 p)
end
end Lw

set_option Elab.async false
set_option linter.all false
set_option maxRecDepth 100000
set_option maxHeartbeats 4000000
/-! len(set(..)), list.count, any, or; f(.., k = v) with errors; a list that is changed -/
namespace Lw
open PySem PySem.Spec PyProof.Rows L2
open Evl (Ex)
def metN (ns : List Int) : Nat := (firstMet (fun i => ns.getD i 0) ns.length).length
def tLenSetD (K : PySem.W.Frag) (ta : TE) : TE := fun σ H Q => ta σ H fun x H1 => ∃ (l : Addr) (ns : List Int), x = .ref l ∧ SqL K H1 l (ns.map V.int) ∧ ns.length ≤ 4000 ∧ Q (.int (metN ns : Nat)) H1
theorem pe_lenSetD {X : Cx} {a : Expr} {ta : TE} {p p2 q pos : Pos} (hg : Gl X "len") (hm : X.mg "len" = none) (hg2 : Gl X "set") (hm2 : X.mg "set" = none) (ha : PE X a ta) (hc : X.calm = true := by rfl)
    (na : starEach [a] X.env = (false, eval a X.env) :: starEach [] X.env := by rfl) : PE X (.Call (.Name "len" p) [.Call (.Name "set" p2) [a] [] q] [] pos) (tLenSetD X.K ta) := by
  refine ⟨fun pins s σ H Q I h => ?_⟩
  refine Call_ (ld_blt I hg hm boot_len ?_)
  refine PyProof.Rows.callWith_builtin1 (PyProof.Rows.args_cons ?_ rfl) rfl rfl
  refine Call_ (ld_blt I hg2 hm2 boot_set ?_)
  refine PyProof.Rows.callWith_type1 (PyProof.Rows.args_cons (thn (ha.run pins s σ H _ I h) fun v s1 ⟨x, H1, I1, r1, q1⟩ => PyProof.Rows.args_nil ?_) na) na rfl
  obtain ⟨l, ns, rfl, hq, hl, q1⟩ := q1
  cases r1
  obtain ⟨its, r, pl, hz⟩ := I1.list hq
  have hlen : its.toArray.size = ns.length := by rw [List.size_toArray, ← r.length, List.length_map]
  refine call_set_list (I1.ok.hd hc) pl.isList (by simpa using RZ.intsAre_vals r) (by rw [hlen]; unfold scanBound; omega) fun h' tk hS hk => ?_
  refine PyProof.Rows.args_nil ?_
  rw [hlen] at hS
  have hle := firstMet_length_le (fun i => ns.getD i 0) ns.length
  obtain ⟨o, es, ep, t, ho, hex, hd, _, _, _, hf, hn⟩ := hS
  have I2 : Inv X pins σ H1 { s1 with heap := h', toks := tk } := I1.kept fun b o e => hk b o (Heap.lt_size e) e
  exact call_len_set ho hex hd hf (by rw [hn] <;> omega) ⟨.int (metN ns : Nat), H1, I2.tok _, ⟨_, by rw [hn]; rfl⟩, q1⟩
theorem met_nd (ns : List Int) : ∀ i, i ≤ ns.length → ((firstMet (fun i => ns.getD i 0) i).length = i ↔ (ns.take i).Nodup)
  | 0, _ => by simp [firstMet_zero]
  | i + 1, h => by
    have ih := met_nd ns i (by omega)
    have hle := firstMet_length_le (fun i => ns.getD i 0) i
    have e1 : ns.getD i 0 = ns[i] := by rw [List.getD_eq_getElem?_getD, List.getElem?_eq_getElem (by omega)]; rfl
    have e2 : ns.take (i + 1) = ns.take i ++ [ns[i]] := by rw [List.take_add_one, List.getElem?_eq_getElem (by omega)]; rfl
    have e3 : (List.range i).map (fun i => ns.getD i 0) = ns.take i := by
      apply List.ext_getElem
      · simp; omega
      · intro k h1 h2
        simp only [List.length_map, List.length_range] at h1
        simp only [List.getElem_map, List.getElem_range, List.getElem_take]
        rw [List.getD_eq_getElem?_getD, List.getElem?_eq_getElem (by omega)]; rfl
    have an := firstMet_any (fun i => ns.getD i 0) i ns[i]
    rw [e3] at an
    rw [firstMet_succ, e2]
    unfold step_dedup
    simp only [e1]
    rw [an]
    by_cases hb : ((ns.take i).any (· == ns[i])) = true
    · rw [if_pos hb]
      refine ⟨fun z => by omega, fun z => ?_⟩
      obtain ⟨y, hy, ey⟩ := List.any_eq_true.mp hb
      have ey2 : y = ns[i] := eq_of_beq ey
      rw [List.nodup_append] at z
      exact absurd ey2 (z.2.2 y hy ns[i] (by simp))
    · rw [if_neg hb, List.length_append, List.length_singleton, List.nodup_append]
      have hno : ∀ a ∈ ns.take i, ∀ b ∈ [ns[i]], a ≠ b := fun a ha b hb2 e => hb (List.any_eq_true.mpr ⟨a, ha, by rw [e, List.mem_singleton.mp hb2]; exact beq_self_eq_true _⟩)
      refine ⟨fun z => ⟨ih.mp (by omega), List.nodup_cons.mpr ⟨List.not_mem_nil, List.nodup_nil⟩, hno⟩, fun z => by have := ih.mpr z.1; omega⟩
theorem metN_iff (ns : List Int) : metN ns = ns.length ↔ ns.Nodup := by
  have h := met_nd ns ns.length (Nat.le_refl _)
  rw [List.take_length] at h
  exact h
theorem count_nd (ns : List Int) : (ns.filter fun z => decide (1 < ((ns.count z : Nat) : Int))).length = 0 ↔ ns.Nodup := by
  rw [List.length_eq_zero_iff, List.filter_eq_nil_iff, List.nodup_iff_count]
  refine ⟨fun h z => ?_, fun h z _ => by have := h z; simp; omega⟩
  by_cases m : z ∈ ns
  · have := h z m
    simp at this
    omega
  · rw [List.count_eq_zero_of_not_mem m]; omega
section
variable {X : Cx} {CX : CXT} {k : Nat} {f C : Addr} {fd : FuncData} {ps ks : List Str} {sp : Sp} {E : L2.St → XK} {x : Str} {p pos : Pos} {e o : Expr} {es : List Expr} {kws : List Keyword} {ta : TE} {t tk : TA} {g : List Value → List Value → List Value} {gV : List V → List V → List V}
def tCallKX (sp : Sp) (gV : List V → List V → List V) (E : L2.St → XK) (t tk : TA) : TE := fun σ H Q => t σ H fun vs H1 => tk σ H1 fun zs H2 => sp (gV vs zs) H2 Q (E σ)
theorem pe_callKX (F : FnOk X.prog X.w X.K X.mg X.base CX k f fd ps sp) (hr : Room k X.A) (hg : Gl X x) (hm : X.mg x = some (.ref f)) (hk : PySem.W.keepIn X.K (.ref f) = true) (hb : KBinds X.K fd ps ks g gV) (hx : ∀ σ, PassesAt CX X σ (E σ)) (ha : PA X (e :: es) t) (hkw : PK X kws tk)
    (hall : (backToKw pos (keywordEach kws X.env)).all (·.1.isSome) = true := by rfl) (hks : (backToKw pos (keywordEach kws X.env)).filterMap (·.1) = ks := by rfl) (hst : starEach (e :: es) X.env = (false, eval e X.env) :: starEach es X.env := by rfl) (hdb : (x == ("__debug__" : Str)) = false := by decide)
    (hpl : ((backTo pos (starEach (e :: es) X.env)).any (·.1) || (backToKw pos (keywordEach kws X.env)).any (·.1.isNone)) = false := by rfl) :
    PE X (.Call (.Name x p) (e :: es) kws pos) (tCallKX sp gV E t tk) := by
  refine ⟨fun pins s σ H Q I h => wpAny_Call_Name_kw (ld_glob I hg hm ?_ hdb)⟩
  refine PySem.W.callWith_KW (first := []) (h₀ := X.base) I.ok.mod.kin hk hall (thn (ha.run pos pins s σ H _ I h) fun us s2 ⟨vs, H2, I2, r, q2⟩ => ?_) hpl hst
  refine thn (hkw.run pos pins s2 σ H2 _ I2 q2) fun ws s3 ⟨zs, H3, I3, rz, q3⟩ => ⟨I3.kIn, ?_⟩
  rw [hks]
  exact run_kwX F hr hb (hx σ) I3 r rz q3
end
section
variable {K : PySem.W.Frag} {σ : L2.St} {G G' H H' H1 H2 Gk : Hp} {q : Addr} {b : Nat} {ta tb te ti tc tl tl0 : TE} {P : VP} {D : Ends}
theorem eb_or {p r s : Bool → Prop} (h1 : EF ta σ G (BV p)) (h2 : p false → EF tb σ G (BV r)) (ht : p true → s true) (hf : p false → ∀ b, r b → s b) : EF (tOrV ta tb) σ G (BV s) := fun H e Q k => h1 H e _ fun v G1 H1 g1 hv => by
  obtain ⟨z, ez, pz⟩ := hv
  refine ⟨z, ez, ?_⟩
  cases z
  · rw [if_neg Bool.false_ne_true]
    exact h2 pz H1 (g1.up.trans g1.ok) _ fun u G2 H2 g2 ⟨c, ec, hc⟩ => k u G2 H2 (((Gr.same e g1.hp).trans g2)) ⟨c, ec, hf pz c hc⟩
  · rw [if_pos rfl]
    exact k _ G1 H1 g1 ⟨true, rfl, ht pz⟩
theorem ex_any {bs : List Bool} (h : EF ta σ G (DV K (.list (bs.map PyData.bool)))) : EF (tCB (rAny K) (tCons ta tNil)) σ G (BV (· = bs.any id)) := fun H e Q k => h H e _ fun v G1 H1 g1 d => by
  obtain ⟨a, xs, rfl, hs, hd⟩ := dp_lst d
  rw [dpa_bls_eq hd] at hs
  exact ⟨a, bs, rfl, Evl.ex_l g1.ok hs, k _ G1 H1 g1 ⟨_, rfl, rfl⟩⟩
theorem ex_count {ns : List Int} {z : Int} {a : Addr} (ha : EF ta σ G (XV (.ref a))) (hs : SqL K G a (ns.map V.int)) (hz : EF tb σ G (XV (.int z))) : EF (tBM K "list" (rCntI K) ta (tCons tb tNil)) σ G (XV (.int (ns.count z : Nat))) := fun H e Q k => ha H e _ fun v G1 H1 g1 p1 => by
  cases (show v = _ from p1)
  refine ⟨.inl ⟨rfl, _, Evl.ex_l (g1.up.trans g1.ok) hs⟩, hz H1 (g1.up.trans g1.ok) _ fun u G2 H2 g2 p2 => ?_⟩
  cases (show u = _ from p2)
  exact ⟨a, ns, z, rfl, rfl, Evl.ex_l (g2.up.trans g2.ok) hs, k _ G2 H2 ((Gr.same e g1.hp).trans g2) rfl⟩
theorem ex_lenSet {ns : List Int} (h : EF ta σ G (DV K (dI ns))) (hl : ns.length ≤ 4000) : EF (tLenSetD K ta) σ G (XV (.int (metN ns : Nat))) := fun H e Q k => h H e _ fun v G1 H1 g1 d => by
  obtain ⟨a, xs, rfl, hs, hd⟩ := dp_lst d
  rw [dpa_ints_eq hd] at hs
  exact ⟨a, ns, rfl, Evl.ex_l g1.ok hs, hl, k _ G1 H1 g1 rfl⟩
/-- an int that is read, whatever else the heap holds -/
def EH (te : TE) (σ : L2.St) (H1 : Hp) (p : Int → Prop) : Prop := ∀ H2, Ex H1 H2 → ∀ Q : VK, (∀ z H3, Ex H2 H3 → p z → Q (.int z) H3) → te σ H2 Q
theorem EF.eh {p : Int → Prop} (h : EF te σ G (IV p)) (e : Ex G H1) : EH te σ H1 p := fun H2 e2 Q q => h H2 (e.trans e2) Q fun v G' H' g ⟨z, ez, pz⟩ => by rw [ez]; exact q z H' g.hp pz
/-- a new list of ints as it stands now -/
structure OX (G H : Hp) (q : Addr) (b : Nat) (H1 Gk : Hp) (ls : List Int) : Prop where
  g : Gr G Gk H H1
  kq : Gk q = none
  hq : H1 q = some (.lst (ls.map V.int))
  len : ls.length ≤ b
def OW (G H : Hp) (q : Addr) (b : Nat) (H1 : Hp) : Prop := ∃ Gk ls, OX G H q b H1 Gk ls
theorem OW.up (h : OW G H q b H1) (e : Ex H1 H2) : OW G H q b H2 := by
  obtain ⟨Gk, ls, h⟩ := h
  exact ⟨Gk, ls, h.g.then e, h.kq, e _ _ h.hq, h.len⟩
theorem OW.wide {b' : Nat} (h : OW G H q b H1) (e : b ≤ b') : OW G H q b' H1 := by
  obtain ⟨Gk, ls, h⟩ := h
  exact ⟨Gk, ls, h.g, h.kq, h.hq, Nat.le_trans h.len e⟩
theorem OX.ex {ls : List Int} (h : OX G H q b H1 Gk ls) : Ex (upd Gk q (.lst (ls.map V.int))) H1 := ex_know h.g.ok h.hq
theorem st_ins1 {i : Nat} {p : Int → Prop} (fr : H q = none) (h : OW G H q b H1) (hb : b < 900) (ho : σ[i]? = some (some (.ref q))) (hi : ∀ Gk ls, OX G H q b H1 Gk ls → EH ti σ H1 fun z => 0 ≤ z ∧ z < 100000) (hv : ∀ Gk ls, OX G H q b H1 Gk ls → EH te σ H1 p)
    (k : ∀ H2, OW G H q (b + 1) H2 → D.nx σ H2) : tDrop (tBM K "list" rIns (tVar i) (tCons ti (tCons te tNil))) D σ H1 := by
  obtain ⟨Gk, ls, h⟩ := h
  refine ⟨.ref q, ho, .inl ⟨rfl, _, Evl.sq_of h.hq⟩, hi Gk ls h H1 (Ex.refl _) _ fun z H2 e2 hz => hv Gk ls h H2 e2 _ fun y H3 e3 _ => ?_⟩
  have e13 := e2.trans e3
  have hl := h.len
  refine ⟨q, ls.map V.int, z, .int y, rfl, rfl, e13 _ _ h.hq, Nat.lt_of_le_of_lt (m := 900) (by rw [List.length_map]; omega) (by decide), hz.1, by omega, ?_⟩
  refine k _ ⟨Gk, ls.take z.toNat ++ [y] ++ ls.drop z.toNat, (h.g.then e13).put fr h.kq, h.kq, ?_, ?_⟩
  · rw [upd_same, List.map_append, List.map_append, List.map_take, List.map_drop]
    rfl
  · simp only [List.length_append, List.length_take, List.length_drop, List.length_singleton]
    omega
/-- the list's own facts, once it is handed on -/
theorem OW.know (hG : Ex G H) (fr : H q = none) (h : OW G H q b H1) : ∃ (G' : Hp) (ls : List Int), Gr G G' H H1 ∧ G' q = some (.lst (ls.map V.int)) ∧ ls.length ≤ b := by
  obtain ⟨Gk, ls, h⟩ := h
  exact ⟨_, ls, h.g.know hG fr h.hq, upd_same, h.len⟩
/-- two for's over a list of lists -/
theorem ef_lc2L {j j1 : Nat} {vs vs1 : List Nat} (xs0 : List V) (ys : Nat → List V) (I : Nat → Nat → List V → Hp → Prop) (h : EF tl0 σ G fun v G' => ∃ a, v = .ref a ∧ SqL K G' a xs0)
    (hw : ∀ x, wipe ((wipe σ vs).set j (some x)) vs = wipe σ vs) (hw1 : ∀ x y, wipe ((wipe ((wipe σ vs).set j (some x)) vs1).set j1 (some y)) vs1 = wipe ((wipe σ vs).set j (some x)) vs1) (h0 : ∀ G', Ex G G' → I 0 0 [] G')
    (hx : ∀ (i : Nat) xs G', i < xs0.length → I i (ys i).length xs G' → I (i + 1) 0 xs G')
    (hl : ∀ (i : Nat) x G', Ex G G' → xs0[i]? = some x → EF tl ((wipe σ vs).set j (some x)) G' fun v G'' => ∃ a, v = .ref a ∧ SqL K G'' a (ys i))
    (hm : ∀ i k xs G' G'', Ex G' G'' → I i k xs G' → I i k xs G'')
    (hs : ∀ (i k : Nat) x y xs G', Ex G G' → xs0[i]? = some x → (ys i)[k]? = some y → I i k xs G' → EF te ((wipe ((wipe σ vs).set j (some x)) vs1).set j1 (some y)) G' fun y G' => I i (k + 1) (xs ++ [y]) G')
    (hc : ∀ i k xs G', I i k xs G' → xs.length ≤ 1000000)
    (hP : ∀ p xs G', G p = none → G' p = none → Ex G G' → I xs0.length 0 xs G' → P (.ref p) (upd G' p (.lst xs))) : EF (tLc2 (iList K tl0) (gName j) tYes (iList K tl) (gName j1) tYes te vs vs1) σ G P := fun H0 e Q q => h H0 e _ fun v G1 H1 g1 ⟨a0, ev, hs0⟩ => by
  refine ⟨a0, ev, ⟨xs0, Evl.ex_l g1.ok hs0⟩, fun Dl hD => ?_⟩
  refine ⟨fun i m H' => m = xs0.length - i ∧ i ≤ xs0.length ∧ CX2 G1 H1 Dl (I i 0) H', ⟨xs0.length, by simp, Nat.zero_le _, ?_⟩, ?_⟩
  · exact ⟨G1, [], Ex.refl _, ex_off g1.ok (none_back g1.ok hD), none_back g1.ok hD, upd_same, h0 G1 g1.up, Ex.new hD, fun _ _ h => h⟩
  · rintro i m H' ⟨rfl, hi, p⟩
    obtain ⟨G', xs, e1, e2, gD, hd, hI, e3, hcc⟩ := p
    have hs1 := Evl.ex_l (e1.trans e2) hs0
    by_cases hlt : i < xs0.length
    · refine .inr ⟨⟨xs0, xs0[i], hs1, by simp [hlt]⟩, fun H'' => CX2 G1 H1 Dl (I (i + 1) 0) H'', fun H'' p' => ⟨xs0.length - (i + 1), by omega, rfl, hlt, p'⟩, fun x H'' yy => ?_⟩
      obtain ⟨ey, yy⟩ := yy
      subst ey
      have hxi := yy xs0 hs1
      refine ⟨hw _, tyes_go (iteT ?_)⟩
      refine hl i x G' (g1.up.trans e1) hxi _ e2 _ fun v G2 H2 g2 ⟨a, ea, hsl⟩ => ?_
      refine ⟨a, ea, ⟨ys i, Evl.ex_l g2.ok hsl⟩, fun k m H' => m = (ys i).length - k ∧ k ≤ (ys i).length ∧ CX2 G1 H1 Dl (fun xs G3 => Ex G2 G3 ∧ I i k xs G3) H', ⟨(ys i).length, by simp, Nat.zero_le _, ?_⟩, ?_⟩
      · exact ⟨G2, xs, e1.trans g2.up, g2.ok, g2.2.2.2 Dl (ne_none_of hd) gD, g2.hp _ _ hd, ⟨Ex.refl _, hm _ _ _ _ _ g2.up hI⟩, e3.trans g2.hp, fun b hb gb => g2.2.2.2 b (exNe e3 hb) (hcc b hb gb)⟩
      · rintro k m H3 ⟨rfl, hk, p3⟩
        obtain ⟨G4, xs4, f1, f2, fD, fd, ⟨fe, fI⟩, f3, fc⟩ := p3
        have hsl3 := Evl.ex_l (fe.trans f2) hsl
        by_cases hkl : k < (ys i).length
        · refine .inr ⟨⟨ys i, (ys i)[k], hsl3, by simp [hkl]⟩, fun H'' => CX2 G1 H1 Dl (fun xs G3 => Ex G2 G3 ∧ I i (k + 1) xs G3) H'', fun H'' p' => ⟨(ys i).length - (k + 1), by omega, rfl, hkl, p'⟩, fun y H'' yy => ?_⟩
          obtain ⟨ey, yy⟩ := yy
          subst ey
          have hyk := yy (ys i) hsl3
          refine ⟨hw1 _ _, ?_⟩
          refine tyes_go (iteT ?_)
          refine hs i k x y xs4 G4 (g1.up.trans f1) hxi hyk fI _ f2 _ fun v5 G5 H5 g5 p5 => ?_
          have g5D : G5 Dl = none := g5.2.2.2 Dl (ne_none_of fd) fD
          exact ⟨xs4, g5.hp _ _ fd, Nat.lt_of_le_of_lt (hc _ _ _ _ fI) (by decide), ⟨G5, xs4 ++ [v5], f1.trans g5.up, ex_off g5.ok g5D, g5D, upd_same, ⟨fe.trans g5.up, p5⟩, ex_off (f3.trans g5.hp) hD, fun b hb gb => g5.2.2.2 b (exNe f3 hb) (fc b hb gb)⟩⟩
        · have ek : k = (ys i).length := by omega
          subst ek
          exact .inl ⟨⟨ys i, hsl3, Nat.le_refl _⟩, G4, xs4, f1, f2, fD, fd, hx _ _ _ hlt fI, f3, fc⟩
    · have ei : i = xs0.length := by omega
      subst ei
      refine .inl ⟨⟨xs0, hs1, Nat.le_refl _⟩, ?_⟩
      refine q _ (upd G' Dl (.lst xs)) H' (g1.trans ⟨e1.trans (ex_in gD), ex_know e2 hd, e3, fun a h g => ?_⟩) (hP Dl xs G' (none_back (g1.up.trans g1.ok) hD) gD (g1.up.trans e1) hI)
      rw [upd_ne (fun z => h (by rw [z]; exact hD))]
      exact hcc a h g
end
/-- a list that grows: its data -/
def DSt (K : PySem.W.Frag) (G H H' : Hp) (q : Addr) (L : List PyData) : Prop := ∃ G' vs, Gr G G' H H' ∧ G' q = none ∧ H' q = some (.lst vs) ∧ DpAll K G' vs L
theorem DSt.ok {K : PySem.W.Frag} {G H H1 : Hp} {q : Addr} {L : List PyData} (h : DSt K G H H1 q L) : Ex G H1 := by
  obtain ⟨G', vs, g, _⟩ := h
  exact g.up.trans g.ok
theorem DSt.up {K : PySem.W.Frag} {G H H1 H2 : Hp} {q : Addr} {L : List PyData} (h : DSt K G H H1 q L) (e : Ex H1 H2) : DSt K G H H2 q L := by
  obtain ⟨G', vs, g, gq, hq, hd⟩ := h
  exact ⟨G', vs, g.then e, gq, e _ _ hq, hd⟩
section
variable {K : PySem.W.Frag}
theorem st_dapp {σ : L2.St} {G H H1 : Hp} {D : Ends} {te : TE} {q : Addr} {L : List PyData} {x : PyData} {i : Nat} (hqH : H q = none) (hR : DSt K G H H1 q L) (hz : L.length < 1000) (ho : σ[i]? = some (some (.ref q))) (h : ∀ G', Ex G G' → EF te σ G' fun v G2 => Dp K G2 v x) (k : ∀ H2, DSt K G H H2 q (L ++ [x]) → D.nx σ H2) : tDrop (tBM K "list" rAppend (tVar i) (tCons te tNil)) D σ H1 := by
  obtain ⟨G', vs, g, gq, hq, hd⟩ := hR
  refine st_app (P := fun v G2 => Dp K G2 v x) g.ok hq (ex_var ho) (h G' g.up) (by rw [dpa_len hd]; exact hz) fun v Gb Hb gb pv => k _ ?_
  have gbq : Gb q = none := gb.2.2.2 q (ne_none_of hq) gq
  exact ⟨Gb, vs ++ [v], (g.trans gb).put hqH gbq, gbq, upd_same, dpa_snoc (dpax hd gb.up) pv⟩
end
end Lw

set_option Elab.async false
set_option linter.all false
set_option maxRecDepth 100000
set_option maxHeartbeats 4000000
/-! what can be reached; layouts that are good -/
namespace Lw
open PySem L2
open Evl (Ex)
def inR (js : List (Int × Int)) (heads shut prev : List Int) (b : Int) : Bool := (decide (b ∈ heads) || (wo js b).any fun w => decide (w ∈ prev)) && !decide (b ∈ shut)
def rchN (js : List (Int × Int)) (heads shut : List Int) : Nat → List Int
  | 0 => []
  | i + 1 => rchN js heads shut i ++ (if inR js heads shut (rchN js heads shut i) (i : Int) = true then [(i : Int)] else [])
theorem rch_lt (js : List (Int × Int)) (heads shut : List Int) : ∀ i, ∀ b ∈ rchN js heads shut i, 0 ≤ b ∧ b < (i : Int)
  | 0, b, m => nomatch m
  | i + 1, b, m => by
    unfold rchN at m
    rcases List.mem_append.mp m with m | m
    · have := rch_lt js heads shut i b m; omega
    · split at m
      · have := List.mem_singleton.mp m; omega
      · exact nomatch m
theorem rch_len (js : List (Int × Int)) (heads shut : List Int) : ∀ i, (rchN js heads shut i).length ≤ i
  | 0 => Nat.le_refl _
  | i + 1 => by
    unfold rchN
    have := rch_len js heads shut i
    rw [List.length_append]
    split <;> simp <;> omega
def cutR (n : Nat) (js : List (Int × Int)) (hs es sh : List Int) : Bool := !(es.any fun g => decide (g ∈ rchN js hs sh n))
def cutD (n : Nat) (js : List (Int × Int)) (hs es sh : List Int) : PyData := match badB (n : Int) (hs ++ es ++ sh) with
  | some b => errD "NoBlock" b true true false
  | none => .tuple [.str "told", .bool (cutR n js hs es sh)]
theorem badB_app (n : Int) (a b : List Int) : badB n (a ++ b) = (badB n a).or (badB n b) := by
  unfold badB
  rw [List.find?_append]
theorem marks_set {n i : Nat} {R : List Int} {v : Bool} (hi : i < n) (hR : ∀ b ∈ R, b < (i : Int)) : (marksOf n R).set i v = marksOf n (R ++ (if v = true then [(i : Int)] else [])) := by
  apply List.ext_getElem?
  intro k
  rw [List.getElem?_set]
  by_cases hk : k < n
  · rw [marks_at hk]
    by_cases e : i = k
    · subst e
      rw [if_pos rfl, if_pos (by rw [marks_len]; exact hi)]
      have hn : (i : Int) ∉ R := fun m => by have := hR _ m; omega
      cases v <;> simp [hn, marks_at hk]
    · rw [if_neg e, marks_at hk]
      have e2 : ¬ (k : Int) = (i : Int) := by omega
      cases v <;> simp [e2, marks_at hk]
  · by_cases e : i = k
    · omega
    · rw [if_neg e, List.getElem?_eq_none (by rw [marks_len]; omega), List.getElem?_eq_none (by rw [marks_len]; omega)]
theorem marks_nil (n : Nat) : marksOf n [] = List.replicate n false := by
  unfold marksOf
  apply List.ext_getElem
  · simp
  · intro k h1 h2
    simp
theorem marks_rch {n i : Nat} {js : List (Int × Int)} {hs sh : List Int} (hi : i < n) : (marksOf n (rchN js hs sh i)).set i (inR js hs sh (rchN js hs sh i) (i : Int)) = marksOf n (rchN js hs sh (i + 1)) := marks_set hi fun b m => (rch_lt _ _ _ _ b m).2
theorem jbad_of {n : Int} {parks : List Int} {js : List (Int × Int)} {p : Int × Int} (h : JNew n parks js p.1 p.2) : jbad n parks js p = .ok := by
  have h1 := h.lo
  have h2 := h.lt
  have h3 := h.hi
  unfold jbad
  rw [if_neg (fun z => z ⟨h1, by omega⟩), if_neg (fun z => z ⟨by omega, h3⟩), if_neg (fun z => z.elim (fun y => by omega) h.new), if_neg (fun z => h.ew z.1 z.2), if_neg (fun z => h.we z.1 z.2)]
theorem jver_of {n : Int} {parks : List Int} : ∀ {r js : List (Int × Int)}, JOk n parks (js ++ r) → jver n parks js r = .ok
  | [], js, _ => rfl
  | p :: r, js, h => by
    have hn : JNew n parks ((js ++ p :: r).take js.length) p.1 p.2 := h.at (i := js.length) (by simp)
    rw [List.take_left] at hn
    show (match jbad n parks js p with | .ok => jver n parks (js ++ [p]) r | v => v) = .ok
    rw [jbad_of hn]
    exact jver_of (r := r) (js := js ++ [p]) (by rw [List.append_assoc]; exact h)
theorem ver_of {lens parks : List Int} {js : List (Int × Int)} (h1 : ∀ z ∈ lens, 1 ≤ z) (h2 : ∀ b ∈ parks, 0 ≤ b ∧ b < (lens.length : Int)) (h3 : JOk (lens.length : Int) parks js) : ver lens parks js = .ok := by
  unfold ver
  rw [find_no (fun x m => by have := h1 x m; exact decide_eq_false (by omega)), badB_none h2]
  exact jver_of (js := []) h3
section
variable {K : PySem.W.Frag} {σ : L2.St} {G H : Hp} {C : Addr} {cc : CCs}
theorem ef_makeY {E : XK} {t tk : TA} {lens : List Int} {js : List (Int × Int)} {parks : List Int} (h : EA t σ G fun vs G' => ∃ a1 a2, vs = [.ref a1, .ref a2] ∧ Dp K G' (.ref a1) (dI lens) ∧ Dp K G' (.ref a2) (dPs js)) (hk : EA tk σ G fun zs G' => ∃ a3, zs = [.ref a3] ∧ YdAt K G' a3 parks)
    (n2 : lens.length ≤ 200) (hl : ∀ z ∈ lens, 1 ≤ z) (hp : ∀ b ∈ parks, 0 ≤ b ∧ b < (lens.length : Int)) (hJ : JOk (lens.length : Int) parks js) (hj : js.length ≤ 900) :
    EF (tMakeK C 2 1 (spInitY K C cc) (fun vs zs => vs ++ zs) E t tk) σ G fun v G' => ∃ x, v = .ref x ∧ LayL K C G' x lens parks js := fun H e Q q =>
  h H e _ fun vs G1 H1 g1 ⟨a1, a2, ev, d1, d2⟩ => hk H1 (g1.up.trans g1.ok) _ fun zs G2 H2 g2 ⟨a3, ez, d3⟩ => by
    obtain ⟨G3, f1, f2, g3⟩ := g1.join g2
    subst ev ez
    have hv := ver_of hl hp hJ
    refine ⟨rfl, rfl, fun x dx hx hdx hne => ?_⟩
    have ex2 : Ex H2 (outH (upd (upd H2 dx (.own x)) x (.ins C dx [])) x) := fun a o ha => by
      rw [out_ne (ne_of_none ha hx), upd_ne (ne_of_none ha hx), upd_ne (ne_of_none ha hdx)]
      exact ha
    refine ⟨G3, x, dx, lens, js, parks, a1, a2, a3, rfl, g3.ok.trans (ex2.trans out_ex), none_back g3.ok hx, upd_same, dpx d1 f1, dpx d2 f1, d3.ex f2, n2, hj, by rw [hv]; trivial, fun _ G' H' g hL => ⟨rfl, ?_⟩⟩
    exact q _ G' H' (g3.trans (g.low ex2)) ⟨x, rfl, hL⟩
theorem ef_makeN {E : XK} {t : TA} {lens : List Int} {js : List (Int × Int)} {aY : Addr} (hY : ∀ G, SqT K G aY []) (h : EA t σ G fun vs G' => ∃ a1 a2, vs = [.ref a1, .ref a2] ∧ Dp K G' (.ref a1) (dI lens) ∧ Dp K G' (.ref a2) (dPs js))
    (n2 : lens.length ≤ 200) (hl : ∀ z ∈ lens, 1 ≤ z) (hJ : JOk (lens.length : Int) [] js) (hj : js.length ≤ 900) :
    EF (tMake C (spInitY K C cc) [.ref aY] E t) σ G fun v G' => ∃ x, v = .ref x ∧ LayL K C G' x lens [] js := fun H e Q q =>
  h H e _ fun vs G1 H1 g1 ⟨a1, a2, ev, d1, d2⟩ => by
    subst ev
    have hv := ver_of (parks := []) hl (fun b m => nomatch m) hJ
    intro x dx hx hdx hne
    have ex2 : Ex H1 (outH (upd (upd H1 dx (.own x)) x (.ins C dx [])) x) := fun a o ha => by
      rw [out_ne (ne_of_none ha hx), upd_ne (ne_of_none ha hx), upd_ne (ne_of_none ha hdx)]
      exact ha
    refine ⟨G1, x, dx, lens, js, [], a1, a2, aY, rfl, g1.ok.trans (ex2.trans out_ex), none_back g1.ok hx, upd_same, d1, d2, .inr (hY _), n2, hj, by rw [hv]; trivial, fun _ G' H' g hL => ⟨rfl, ?_⟩⟩
    exact q _ G' H' (g1.trans (g.low ex2)) ⟨x, rfl, hL⟩
end
def skipJ (m : Nat) : List (Int × Int) := (List.range m).map fun b : Nat => ((b : Int), (b : Int) + 2)
theorem skipJ_succ (m : Nat) : skipJ (m + 1) = skipJ m ++ [((m : Int), (m : Int) + 2)] := by
  unfold skipJ
  rw [List.range_succ, List.map_append]; rfl
theorem skipJ_len (m : Nat) : (skipJ m).length = m := by unfold skipJ; rw [List.length_map, List.length_range]
theorem mem_skipJ {m : Nat} {a b : Int} : (a, b) ∈ skipJ m ↔ 0 ≤ a ∧ a < (m : Int) ∧ b = a + 2 := by
  unfold skipJ
  rw [List.mem_map]
  refine ⟨fun ⟨k, hk, e⟩ => ?_, fun ⟨h0, h1, h2⟩ => ⟨a.toNat, List.mem_range.mpr (by omega), ?_⟩⟩
  · have hk := List.mem_range.mp hk
    obtain ⟨rfl, rfl⟩ := Prod.mk.inj e
    exact ⟨by omega, by omega, rfl⟩
  · have : ((a.toNat : Nat) : Int) = a := by omega
    rw [this, h2]
theorem mem_lineJ {m : Nat} {a b : Int} : (a, b) ∈ lineJ m ↔ 0 ≤ a ∧ a < (m : Int) ∧ b = a + 1 := by
  unfold lineJ
  rw [List.mem_map]
  refine ⟨fun ⟨k, hk, e⟩ => ?_, fun ⟨h0, h1, h2⟩ => ⟨a.toNat, List.mem_range.mpr (by omega), ?_⟩⟩
  · have hk := List.mem_range.mp hk
    obtain ⟨rfl, rfl⟩ := Prod.mk.inj e
    exact ⟨by omega, by omega, rfl⟩
  · have : ((a.toNat : Nat) : Int) = a := by omega
    rw [this, h2]
theorem one_le {l : List Int} {c : Int} (hn : l.Nodup) (h : ∀ x ∈ l, x = c) : l.length ≤ 1 := by
  cases l with
  | nil => simp
  | cons x r =>
    cases r with
    | nil => simp
    | cons y r =>
      have e1 := h x (by simp)
      have e2 := h y (by simp)
      rw [List.nodup_cons] at hn
      exact absurd (by rw [e1, e2]; simp) hn.1
theorem eo_app (a b : List (Int × Int)) (z : Int) : eo (a ++ b) z = eo a z ++ eo b z := by simp [eo, List.filter_append]
theorem wo_app (a b : List (Int × Int)) (z : Int) : wo (a ++ b) z = wo a z ++ wo b z := by simp [wo, List.filter_append]
/-- the long layout's joints -/
def longJ (n : Nat) : List (Int × Int) := lineJ (n - 1) ++ skipJ (n - 2)
theorem long_ok (n : Nat) (parks : List Int) : JOk (n : Int) parks (longJ n) := by
  unfold longJ
  by_cases h2 : n = 0
  · subst h2
    exact .nil
  have hl : JOk (n : Int) parks (lineJ (n - 1)) := lineJ_ok _ _ _ (by omega)
  have all : ∀ m, m ≤ n - 2 → JOk (n : Int) parks (lineJ (n - 1) ++ skipJ m) := fun m => by
    induction m with
    | zero => intro _; rw [show skipJ 0 = [] from rfl, List.append_nil]; exact hl
    | succ m ih =>
      intro hm
      rw [skipJ_succ, ← List.append_assoc]
      have nd := fun b => jok_nd hl b
      refine .snoc (ih (by omega)) ⟨by omega, by omega, by omega, fun z => ?_, fun _ z => ?_, fun _ z => ?_⟩
      · rcases List.mem_append.mp z with z | z
        · have := mem_lineJ.mp z; omega
        · have := mem_skipJ.mp z; omega
      · rw [eo_app, List.length_append] at z
        have a1 : (eo (lineJ (n - 1)) (m : Int)).length ≤ 1 := one_le (c := (m : Int) + 1) (nd _).1 fun x hx => by have := mem_lineJ.mp (mem_eo.mp hx); omega
        have a2 : eo (skipJ m) (m : Int) = [] := List.eq_nil_iff_forall_not_mem.mpr fun x hx => by have := mem_skipJ.mp (mem_eo.mp hx); omega
        rw [a2] at z
        simp at z
        omega
      · rw [wo_app, List.length_append] at z
        have a1 : (wo (lineJ (n - 1)) ((m : Int) + 2)).length ≤ 1 := one_le (c := (m : Int) + 1) (nd _).2.1 fun x hx => by have := mem_lineJ.mp (mem_wo.mp hx); omega
        have a2 : wo (skipJ m) ((m : Int) + 2) = [] := List.eq_nil_iff_forall_not_mem.mpr fun x hx => by have := mem_skipJ.mp (mem_wo.mp hx); omega
        rw [a2] at z
        simp at z
        omega
  exact all _ (Nat.le_refl _)
theorem mem_longJ {n : Nat} {a b : Int} : (a, b) ∈ longJ n ↔ 0 ≤ a ∧ ((a < ((n - 1 : Nat) : Int) ∧ b = a + 1) ∨ (a < ((n - 2 : Nat) : Int) ∧ b = a + 2)) := by
  unfold longJ
  rw [List.mem_append, mem_lineJ, mem_skipJ]
  omega
theorem long_cut {n : Nat} {c : Int} (h0 : 1 ≤ c) (h1 : c + 1 < (n : Int) - 1) : cutR n (longJ n) [0] [(n : Int) - 1] [c, c + 1] = true := by
  have all : ∀ i, ∀ b ∈ rchN (longJ n) [0] [c, c + 1] i, b < c := fun i => by
    induction i with
    | zero => exact fun b m => nomatch m
    | succ i ih =>
      intro b m
      unfold rchN at m
      rcases List.mem_append.mp m with m | m
      · exact ih b m
      · split at m
        · rename_i hh
          have e := List.mem_singleton.mp m
          subst e
          unfold inR at hh
          simp only [Bool.and_eq_true, Bool.or_eq_true, decide_eq_true_eq, List.any_eq_true, Bool.not_eq_true', decide_eq_false_iff_not, List.mem_cons, List.not_mem_nil, or_false] at hh
          obtain ⟨h2, h3⟩ := hh
          rcases h2 with h2 | ⟨w, hw, hp⟩
          · omega
          · have := ih w hp
            have hj := mem_longJ.mp (mem_wo.mp hw)
            omega
        · exact nomatch m
  unfold cutR
  have hn : ((n : Int) - 1) ∉ rchN (longJ n) [0] [c, c + 1] n := fun m => by have := all n _ m; omega
  simp [hn]
theorem long_open {n : Nat} {c : Int} (h0 : 1 ≤ c) (h1 : c < (n : Int) - 1) : cutR n (longJ n) [0] [(n : Int) - 1] [c] = false := by
  have all : ∀ i, i ≤ n → ∀ b, 0 ≤ b → b < (i : Int) → b ≠ c → b ∈ rchN (longJ n) [0] [c] i := fun i => by
    induction i with
    | zero => exact fun _ b h1 h2 => by omega
    | succ i ih =>
      intro hi b hb0 hb1 hc
      unfold rchN
      by_cases e : b = (i : Int)
      · refine List.mem_append.mpr (.inr ?_)
        have hh : inR (longJ n) [0] [c] (rchN (longJ n) [0] [c] i) (i : Int) = true := by
          unfold inR
          simp only [Bool.and_eq_true, Bool.or_eq_true, decide_eq_true_eq, List.any_eq_true, Bool.not_eq_true', decide_eq_false_iff_not, List.mem_cons, List.not_mem_nil, or_false]
          refine ⟨?_, by omega⟩
          by_cases i0 : i = 0
          · exact .inl (by omega)
          · right
            by_cases ec : (i : Int) - 1 = c
            · exact ⟨(i : Int) - 2, mem_wo.mpr (mem_longJ.mpr (by omega)), ih (by omega) _ (by omega) (by omega) (by omega)⟩
            · exact ⟨(i : Int) - 1, mem_wo.mpr (mem_longJ.mpr (by omega)), ih (by omega) _ (by omega) (by omega) (by omega)⟩
        rw [if_pos hh, e]
        simp
      · exact List.mem_append.mpr (.inl (ih (by omega) b hb0 (by omega) hc))
  have hn : ((n : Int) - 1) ∈ rchN (longJ n) [0] [c] n := all n (Nat.le_refl _) _ (by omega) (by omega) (by omega)
  unfold cutR
  simp [hn]
end Lw

set_option Elab.async false
set_option linter.all false
set_option maxRecDepth 100000
set_option maxHeartbeats 4000000
/-! == by an own __eq__ that may say no -/
namespace Lw
open PySem PySem.Spec L2
open Evl (Ex)
/-- the type of the other side -/
inductive OTy (H : Hp) : V → Value → Prop where
  | non : OTy H .non (.type "NoneType")
  | bl (b : Bool) : OTy H (.bl b) (.type "bool")
  | int (i : Int) : OTy H (.int i) (.type "int")
  | str (x : Str) : OTy H (.str x) (.type "str")
  | lst {a : Addr} {xs : List V} (e : H a = some (.lst xs)) : OTy H (.ref a) (.type "list")
  | tup {a : Addr} {xs : List V} (e : H a = some (.tup xs)) : OTy H (.ref a) (.type "tuple")
  | ins {a C dx : Addr} {fs : List (Str × V)} (e : H a = some (.ins C dx fs)) : OTy H (.ref a) (.ref C)
def rEqOwn (K : PySem.W.Frag) (C : Addr) (sp : Sp) (E : XK) : R2 := fun x y H Q => ∃ a dx fs t, x = .ref a ∧ H a = some (.ins C dx fs) ∧ OTy H y t ∧ PySem.W.notFirst K C t = true ∧ sp [.ref a, y] H (fun v H2 => ∃ b, v = .bl b ∧ Q (.bl b) H2) E
section
variable {X : Cx} {CX : CXT} {k : Nat} {f C : Addr} {fd : FuncData} {ps : List Str} {sp : Sp} {E : XK}
theorem oty_looks {pins : List (Addr × Obj)} {σ : L2.St} {H : Hp} {s : Shared} {x : V} {u t : Value} (I : Inv X pins σ H s) (rx : RelV x u) (ty : OTy H x t) : PySem.W.Looks (model X.prog X.w) s.heap (typeOf u) t := by
  cases ty with
  | non => cases (show u = Value.none from rx); exact PySem.W.Looks.of_pure rfl
  | bl b => cases (show u = Value.bool b from rx); exact PySem.W.Looks.of_pure rfl
  | int i => obtain ⟨t, q⟩ := (show ∃ t, u = Value.int i t from rx); cases q; exact PySem.W.Looks.of_pure rfl
  | str y => obtain ⟨t, q⟩ := (show ∃ t, u = Value.str y t from rx); cases q; exact PySem.W.Looks.of_pure rfl
  | @lst a xs e =>
    cases (show u = Value.ref a from rx)
    obtain ⟨_, _, n, _, h1⟩ := (show ObjOk X.prog X.w H s.heap a (.lst xs) from I.hok a _ e)
    exact (PySem.W.Looks.ld h1).andThen .now
  | @tup a xs e =>
    cases (show u = Value.ref a from rx)
    obtain ⟨_, _, _, o, h1, h2, _⟩ := (show ObjOk X.prog X.w H s.heap a (.tup xs) from I.hok a _ e)
    exact h2 ▸ (PySem.W.Looks.ld h1).andThen .now
  | @ins a C dx fs e =>
    cases (show u = Value.ref a from rx)
    obtain ⟨m, J, _⟩ := ins_get I.hok e
    obtain ⟨od, J, _⟩ := J.look
    exact J.type
theorem op_eqOwn (hs : PySem.W.findIn X.K (.ref C) "__eq__" = some (some (.ref f))) (hf : PySem.W.isFn X.K (.ref f) = true) (F : FnOk X.prog X.w X.K X.mg X.base CX k f fd ps sp) (hr : Room k X.A) (hb : Binds X.K fd ps []) (hx : Passes CX X E) : OpR X (compareOp .Eq) (rEqOwn X.K C sp E) := by
  intro pins s σ H x y v u Q I rx ry h
  obtain ⟨a, dx, fs, t, rfl, ha, ty, hn, hsp⟩ := h
  cases rx
  show wpAny (model X.prog X.w) X.A (richCompare .Eq (.ref a) u) (EP X pins σ Q) X.xe s
  have lk := oty_looks I ry ty
  obtain ⟨mA, J, _⟩ := ins_get I.hok ha
  obtain ⟨od, J, _⟩ := J.look
  obtain ⟨m, hF⟩ := I.fr
  refine PySem.W.cmp_K (op := .Eq) (tb := t) hr.units0 hF I.ok.mod.kin J lk hn hs hf ?_
  have hl := F.len _ _ _ _ hsp
  have r2 : Vals [V.ref a, y] [Value.ref a, u] := .cons rfl (.cons ry .nil)
  refine wpAny_call (codeAny_mono (F.run X.A X.stack s H ⟨[.ref a, u], []⟩ [.ref a, u] [.ref a, y] _ E hr I.env0 (by
    have := hb s [.ref a, u] I.kIn (by simpa using hl)
    simpa using this) r2 hsp) fun r s' hq => ?_)
  cases r with
  | error e => exact hx pins σ H s e s' I hq
  | ok fl =>
    cases fl with
    | ret w =>
      obtain ⟨z, H', I', rz, b, ez, q⟩ := I.after hq
      subst ez
      cases rz
      exact ⟨.bl b, H', I', rfl, q⟩
    | next => exact False.elim hq
    | brk => exact False.elim hq
    | cont => exact False.elim hq
end
/-- lists of ints, in order, are one list -/
theorem int_uniq : ∀ {l m : List Int}, l.Perm m → l.Pairwise (· ≤ ·) → m.Pairwise (· ≤ ·) → l = m
  | [], m, h, _, _ => by simpa using h.symm
  | x :: l, [], h, _, _ => by simpa using h
  | x :: l, y :: m, h, hl, hm => by
    have e : x = y := by
      have h1 : y ∈ x :: l := h.mem_iff.mpr (by simp)
      have h2 : x ∈ y :: m := h.mem_iff.mp (by simp)
      rcases List.mem_cons.mp h1 with h1 | h1
      · exact h1.symm
      rcases List.mem_cons.mp h2 with h2 | h2
      · exact h2
      have a1 := (List.pairwise_cons.mp hl).1 y h1
      have a2 := (List.pairwise_cons.mp hm).1 x h2
      omega
    subst e
    rw [int_uniq (List.perm_cons x |>.mp h) (List.pairwise_cons.mp hl).2 (List.pairwise_cons.mp hm).2]
def srtI (l : List Int) : List Int := l.mergeSort fun a b => decide (a ≤ b)
theorem srtI_perm (l : List Int) : (srtI l).Perm l := List.mergeSort_perm l _
theorem srtI_sorted (l : List Int) : (srtI l).Pairwise (· ≤ ·) := by
  have := List.pairwise_mergeSort (le := fun a b : Int => decide (a ≤ b)) (fun a b c h1 h2 => by simp at *; omega) (fun a b => by simp; omega) l
  exact this.imp fun h => by simpa using h
theorem srtI_of {l m : List Int} (h : l.Perm m) (hs : l.Pairwise (· ≤ ·)) : l = srtI m := int_uniq (h.trans (srtI_perm m).symm) hs (srtI_sorted m)
theorem srtI_congr {l m : List Int} (h : l.Perm m) : srtI l = srtI m := srtI_of ((srtI_perm l).trans h) (srtI_sorted l)
/-- joints in any order -/
theorem jok_perm {n : Int} {parks : List Int} {js ks : List (Int × Int)} (h : JOk n parks js) (p : ks.Perm js) : JOk n parks ks := by
  have nd := jok_nd h
  have all : ∀ i, i ≤ ks.length → JOk n parks (ks.take i) := fun i => by
    induction i with
    | zero => exact fun _ => .nil
    | succ i ih =>
      intro hi
      obtain ⟨q, hq⟩ : ∃ q, ks[i]? = some q := ⟨ks[i], List.getElem?_eq_getElem (by omega)⟩
      obtain ⟨r, hr⟩ : ∃ r, r = ks.take i := ⟨_, rfl⟩
      obtain ⟨s, hs0⟩ : ∃ s, s = ks.drop (i + 1) := ⟨_, rfl⟩
      have hs : r ++ [q] ++ s = ks := by rw [hr, hs0, ← take_next hq, List.take_append_drop]
      rw [take_next hq]
      rw [← hr] at ih ⊢
      have hm : q ∈ js := p.mem_iff.mp (by rw [← hs]; simp)
      have hb := h.mem hm
      have p2 : (r ++ [q] ++ s).Perm js := by rw [hs]; exact p
      have eoP : (eo (r ++ [q] ++ s) q.1).Perm (eo js q.1) := (p2.filter _).map _
      have woP : (wo (r ++ [q] ++ s) q.2).Perm (wo js q.2) := (p2.filter _).map _
      have e1 : eo (r ++ [q]) q.1 = eo r q.1 ++ [q.2] := eo_snoc_same r q.1 q.2
      have e2 : wo (r ++ [q]) q.2 = wo r q.2 ++ [q.1] := wo_snoc_same r q.1 q.2
      rw [eo_app, e1] at eoP
      rw [wo_app, e2] at woP
      have n1 := eoP.nodup_iff.mpr (nd q.1).1
      have l1 := eoP.length_eq
      have l2 := woP.length_eq
      simp only [List.length_append, List.length_singleton] at l1 l2
      refine .snoc (w := q.1) (e := q.2) (ih (by omega)) ⟨hb.1, hb.2.1, hb.2.2, fun z => ?_, fun hp z => ?_, fun hp z => ?_⟩
      · have m1 : q.2 ∈ eo r q.1 := mem_eo.mpr z
        rw [List.append_assoc, List.nodup_append] at n1
        exact n1.2.2 q.2 m1 q.2 (by simp) rfl
      · have := ((nd q.1).2.2 hp).1; omega
      · have := ((nd q.2).2.2 hp).2; omega
  have := all ks.length (Nat.le_refl _)
  rwa [List.take_length] at this
end Lw

set_option Elab.async false
set_option linter.all false
set_option maxRecDepth 100000
set_option maxHeartbeats 4000000
/-! new lists, layouts over a smaller knowledge, equal layouts -/
namespace Lw
open PySem PySem.Spec L2
open Evl (Ex)
/-- a new list with these data -/
def NwD (K : PySem.W.Frag) (G0 : Hp) (ds : List PyData) : VP := fun v G => ∃ a xs, v = .ref a ∧ G0 a = none ∧ G a = some (.lst xs) ∧ DpAll K G xs ds
section
variable {K : PySem.W.Frag} {C CN : Addr} {σ : L2.St} {G G0 G' H : Hp}
theorem NwD.low {G1 : Hp} {ds : List PyData} {v : V} (e : Ex G0 G1) (h : NwD K G1 ds v G) : NwD K G0 ds v G := by
  obtain ⟨a, xs, ev, h0, h1, h2⟩ := h
  exact ⟨a, xs, ev, none_back e h0, h1, h2⟩
theorem NwD.dp {ds : List PyData} {v : V} (h : NwD K G0 ds v G) : Dp K G v (.list ds) := by
  obtain ⟨a, xs, rfl, _, h1, h2⟩ := h
  exact dp_mkL h1 h2
theorem NwD.ls {ds : List PyData} {v : V} (h : NwD K G0 ds v G) : LS K ds v G := by
  obtain ⟨a, xs, rfl, _, h1, h2⟩ := h
  exact ⟨a, xs, rfl, h1, h2⟩
theorem SA.imp {sp : Sp} {vs : List V} {P P' : VP} (h : SA sp vs G P) (k : ∀ v G', P v G' → P' v G') : SA sp vs G P' := fun H e Q E q => h H e Q E fun v G' H' g p => q v G' H' g (k v G' p)
def spAskG (K : PySem.W.Frag) (C CN : Addr) (P : Hp → Nat → List Int → List (Int × Int) → Int → VP) : Sp := fun vs H Q E => ∃ (G : Hp) (p : Addr) (n : Nat) (parks : List Int) (js : List (Int × Int)) (b : Int), Ex G H ∧ vs = [.ref p, .int b] ∧ LayAt K C G p n parks js ∧ (0 ≤ b ∧ b < (n : Int) → Ret G H (P G n parks js b) Q) ∧ (¬ (0 ≤ b ∧ b < (n : Int)) → Rse CN [("block", .int b)] G H E)
theorem sa_askG {P : Hp → Nat → List Int → List (Int × Int) → Int → VP} {p : Addr} {n : Nat} {parks : List Int} {js : List (Int × Int)} {b : Int} (h : LayAt K C G p n parks js) (h0 : 0 ≤ b) (h1 : b < (n : Int)) : SA (spAskG K C CN P) [.ref p, .int b] G (P G n parks js b) := fun H e Q _ q => ⟨G, p, n, parks, js, b, e, rfl, h, fun _ => q, fun z => absurd ⟨h0, h1⟩ z⟩
def spAskSG (K : PySem.W.Frag) (C CN : Addr) (P : Hp → List Int → List (Int × Int) → Int → Bool → VP) : Sp := fun vs H Q E => ∃ (G : Hp) (p : Addr) (n : Nat) (parks : List Int) (js : List (Int × Int)) (b : Int) (c : Bool), Ex G H ∧ vs = [.ref p, .int b, .str (sd c)] ∧ LayAt K C G p n parks js ∧ (0 ≤ b ∧ b < (n : Int) → Ret G H (P G parks js b c) Q) ∧ (¬ (0 ≤ b ∧ b < (n : Int)) → Rse CN [("block", .int b)] G H E)
theorem sa_askSG {P : Hp → List Int → List (Int × Int) → Int → Bool → VP} {p : Addr} {n : Nat} {parks : List Int} {js : List (Int × Int)} {b : Int} (c : Bool) (h : LayAt K C G p n parks js) (h0 : 0 ≤ b) (h1 : b < (n : Int)) : SA (spAskSG K C CN P) [.ref p, .int b, .str (sd c)] G (P G parks js b c) := fun H e Q _ q => ⟨G, p, n, parks, js, b, c, e, rfl, h, fun _ => q, fun z => absurd ⟨h0, h1⟩ z⟩
def gEast (K : PySem.W.Frag) : Hp → Nat → List Int → List (Int × Int) → Int → VP := fun G0 _ _ js b => NwD K G0 ((srtI (eo js b)).map PyData.int)
def gWest (K : PySem.W.Frag) : Hp → Nat → List Int → List (Int × Int) → Int → VP := fun G0 _ _ js b => NwD K G0 ((srtI (wo js b)).map PyData.int)
def gBranch (K : PySem.W.Frag) : Hp → List Int → List (Int × Int) → Int → Bool → VP := fun G0 _ js b c => NwD K G0 ((srtI (ends js b c)).map PyData.int)
theorem gbranch_nl {G0 : Hp} {parks : List Int} {js : List (Int × Int)} {b : Int} {c : Bool} {v : V} (h : gBranch K G0 parks js b c v G) : NL K (endN js b c) v G := by
  have h2 := NwD.dp h
  exact ⟨srtI (ends js b c), by rw [(srtI_perm _).length_eq, ends_len], h2⟩
/-- pairs in order -/
def srtP (js : List (Int × Int)) : List (Int × Int) := js.mergeSort fun p q => decide (p.1 < q.1 ∨ (p.1 = q.1 ∧ p.2 ≤ q.2))
theorem srtP_perm (js : List (Int × Int)) : (srtP js).Perm js := List.mergeSort_perm js _
theorem srtP_sorted (js : List (Int × Int)) : (srtP js).Pairwise lexLe := by
  have := List.pairwise_mergeSort (le := fun p q : Int × Int => decide (p.1 < q.1 ∨ (p.1 = q.1 ∧ p.2 ≤ q.2))) (fun a b c h1 h2 => by simp at *; omega) (fun a b => by simp; omega) js
  exact this.imp fun h => by unfold lexLe; simpa using h
theorem srtP_of {l js : List (Int × Int)} (h : l.Perm js) (hs : l.Pairwise lexLe) : l = srtP js := sort_uniq (h.trans (srtP_perm js).symm) hs (srtP_sorted js)
theorem srtP_iff {js ks : List (Int × Int)} : srtP js = srtP ks ↔ js.Perm ks := ⟨fun h => (srtP_perm js).symm.trans (h ▸ srtP_perm ks), fun h => srtP_of ((srtP_perm js).trans h) (srtP_sorted js)⟩
def spJointsG (K : PySem.W.Frag) (C : Addr) : Sp := fun vs H Q _ => ∃ (G : Hp) (p : Addr) (n : Nat) (parks : List Int) (js : List (Int × Int)), Ex G H ∧ vs = [.ref p] ∧ LayAt K C G p n parks js ∧ JOk (n : Int) parks js ∧ n ≤ 200 ∧ js.length ≤ 900 ∧ Ret G H (NwD K G ((srtP js).map dP)) Q
/-- the constructor, over any knowledge -/
def spInitM (K : PySem.W.Frag) (C : Addr) : Sp := fun vs H Q _ => ∃ (G : Hp) (x dx : Addr) (lens : List Int) (js : List (Int × Int)) (parks : List Int) (a1 a2 a3 : Addr), vs = [.ref x, .ref a1, .ref a2, .ref a3] ∧ Ex G H ∧ G x = none ∧ H x = some (.ins C dx []) ∧
  Dp K G (.ref a1) (dI lens) ∧ Dp K G (.ref a2) (dPs js) ∧ Dp K G (.ref a3) (dI parks) ∧ lens.length ≤ 200 ∧ (∀ z ∈ lens, 1 ≤ z) ∧ (∀ b ∈ parks, 0 ≤ b ∧ b < (lens.length : Int)) ∧ JOk (lens.length : Int) parks js ∧ js.length ≤ 900 ∧
  ∀ S H', (∀ G0, Ex G0 (outH H x) → Gr G0 (pick S G0 H') (outH H x) H' ∧ LayL K C (pick S G0 H') x lens parks js) → Q .non H'
theorem ef_makeM {E : XK} {t tk : TA} {lens : List Int} {js : List (Int × Int)} {parks : List Int} (e0 : Ex G0 G) (h : EA t σ G fun vs G' => ∃ a1 a2, vs = [.ref a1, .ref a2] ∧ Dp K G' (.ref a1) (dI lens) ∧ Dp K G' (.ref a2) (dPs js)) (hk : EA tk σ G fun zs G' => ∃ a3, zs = [.ref a3] ∧ Dp K G' (.ref a3) (dI parks))
    (n2 : lens.length ≤ 200) (hl : ∀ z ∈ lens, 1 ≤ z) (hp : ∀ b ∈ parks, 0 ≤ b ∧ b < (lens.length : Int)) (hJ : JOk (lens.length : Int) parks js) (hj : js.length ≤ 900) :
    EF (tMakeK C 2 1 (spInitM K C) (fun vs zs => vs ++ zs) E t tk) σ G fun v G' => ∃ x G1, v = .ref x ∧ Ex G0 G1 ∧ Ex G1 G' ∧ LayL K C G1 x lens parks js ∧ ∀ a, G a ≠ none → G0 a = none → G1 a = none := fun H e Q q =>
  h H e _ fun vs G1 H1 g1 ⟨a1, a2, ev, d1, d2⟩ => hk H1 (g1.up.trans g1.ok) _ fun zs G2 H2 g2 ⟨a3, ez, d3⟩ => by
    obtain ⟨G3, f1, f2, g3⟩ := g1.join g2
    subst ev ez
    refine ⟨rfl, rfl, fun x dx hx hdx hne => ?_⟩
    have ex2 : Ex H2 (outH (upd (upd H2 dx (.own x)) x (.ins C dx [])) x) := fun a o ha => by
      rw [out_ne (ne_of_none ha hx), upd_ne (ne_of_none ha hx), upd_ne (ne_of_none ha hdx)]
      exact ha
    have e3 : Ex G0 G3 := e0.trans g3.up
    refine ⟨G3, x, dx, lens, js, parks, a1, a2, a3, rfl, g3.ok.trans (ex2.trans out_ex), none_back g3.ok hx, upd_same, dpx d1 f1, dpx d2 f1, dpx d3 f2, n2, hl, hp, hJ, hj, fun S H' k => ⟨rfl, ?_⟩⟩
    have k3 := k G3 (g3.ok.trans ex2)
    have k0 := k G0 (e3.trans (g3.ok.trans ex2))
    refine q _ (pick S G3 H') H' (g3.trans (k3.1.low ex2)) ⟨x, pick S G0 H', rfl, k0.1.up, fun a o ha => ?_, k0.2, fun a ha h0 => k0.1.2.2.2 a (fun z => ?_) h0⟩
    · unfold pick at ha ⊢
      split at ha
      · rename_i m
        rw [if_pos m]
        exact ha
      · rename_i m
        rw [if_neg m]
        exact e3 _ _ ha
    · cases hg : G a with
      | none => exact ha hg
      | some o => rw [ex2 _ _ (g3.ok _ _ (g3.up _ _ hg))] at z; cases z
end
theorem eqv_map {α : Type} [DecidableEq α] {f : α → PyData} (h : ∀ x y, PyData.eqv (f x) (f y) = decide (x = y)) : ∀ a b : List α, PyData.eqvAll (a.map f) (b.map f) = decide (a = b)
  | [], [] => by simp [PyData.eqvAll]
  | [], _ :: _ => by simp [PyData.eqvAll]
  | _ :: _, [] => by simp [PyData.eqvAll]
  | x :: a, y :: b => by
    simp only [List.map_cons, PyData.eqvAll, h, eqv_map h a b]
    by_cases h1 : x = y <;> by_cases h2 : a = b <;> simp [h1, h2]
theorem eqv_list {α : Type} [DecidableEq α] {f : α → PyData} (h : ∀ x y, PyData.eqv (f x) (f y) = decide (x = y)) (a b : List α) : PyData.eqv (.list (a.map f)) (.list (b.map f)) = decide (a = b) := by
  simp only [PyData.eqv]
  exact eqv_map h a b
theorem eqv_bool (a b : Bool) : PyData.eqv (.bool a) (.bool b) = decide (a = b) := by
  cases a <;> cases b <;> rfl
theorem eqv_I (a b : List Int) : PyData.eqv (dI a) (dI b) = decide (a = b) := eqv_list eqv_int a b
theorem eqv_Bs (a b : List Bool) : PyData.eqv (.list (a.map PyData.bool)) (.list (b.map PyData.bool)) = decide (a = b) := eqv_list eqv_bool a b
theorem eqv_LL (a b : List (List Int)) : PyData.eqv (.list (a.map dI)) (.list (b.map dI)) = decide (a = b) := eqv_list (f := dI) eqv_I a b
theorem eqv_Ps (a b : List (Int × Int)) : PyData.eqv (dPs a) (dPs b) = decide (a = b) := eqv_list (f := dP) eqv_pair a b
theorem lay_all {f : α → PyData} (h : ∀ x, (f x).canLay0 = true) : ∀ l : List α, PyData.canLayAll0 (l.map f) = true
  | [] => by simp [PyData.canLayAll0]
  | x :: l => by simp [PyData.canLayAll0, h, lay_all h l]
theorem dep_all {f : α → PyData} {k : Nat} (h : ∀ x, (f x).depth ≤ k) : ∀ l : List α, PyData.depthAll (l.map f) ≤ k
  | [] => by simp [PyData.depthAll]
  | x :: l => by simp only [List.map_cons, PyData.depthAll]; have := h x; have := dep_all h l; omega
theorem sh_list {f : α → PyData} {k : Nat} (h1 : ∀ x, (f x).canLay0 = true) (h2 : ∀ x, (f x).depth ≤ k) (hk : k ≤ 60) (l : List α) : SeqAt.shaped (.list (l.map f)) = true := shaped_of (by simp only [PyData.canLay0]; exact lay_all h1 l) (by have := dep_all h2 l; simp only [PyData.depth]; omega)
theorem sh_Bs (l : List Bool) : SeqAt.shaped (.list (l.map PyData.bool)) = true := sh_list (k := 1) (fun _ => by simp [PyData.canLay0]) (fun _ => by simp [PyData.depth]) (by omega) l
theorem sh_LL (l : List (List Int)) : SeqAt.shaped (.list (l.map dI)) = true := sh_list (f := dI) (k := 2) (fun x => by simp only [dI, PyData.canLay0]; exact lay_ints x) (fun x => by have := dep_ints x; simp only [dI, PyData.depth]; omega) (by omega) l
theorem ess_eq {n : Nat} {parks parks' : List Int} {js js' : List (Int × Int)} {ess ess' : List (List Int)} (h : Srt (eo js) n ess) (h' : Srt (eo js') n ess') (j : JOk (n : Int) parks js) (j' : JOk (n : Int) parks' js') : ess = ess' ↔ js.Perm js' := by
  refine ⟨fun e => ?_, fun p => ?_⟩
  · subst e
    exact (fan_all h j).symm.trans (fan_all h' j')
  · apply List.ext_getElem?
    intro b
    by_cases hb : b < n
    · obtain ⟨x, hx, _, p1, s1⟩ := h.get hb
      obtain ⟨y, hy, _, p2, s2⟩ := h'.get hb
      rw [hx, hy, int_uniq (p1.trans (((p.filter _).map _).trans p2.symm)) s1 s2]
    · rw [List.getElem?_eq_none (by rw [h.len]; omega), List.getElem?_eq_none (by rw [h'.len]; omega)]
/-- two tracks make equal layouts -/
def alikeB (l1 p1 : List Int) (j1 : List (Int × Int)) (l2 p2 : List Int) (j2 : List (Int × Int)) : Bool := decide (l1 = l2) && (decide (marksOf l1.length p1 = marksOf l1.length p2) && decide (srtP j1 = srtP j2))
end Lw

set_option Elab.async false
set_option linter.all false
set_option maxRecDepth 100000
set_option maxHeartbeats 4000000
/-! lists of new lists; lists that will be changed -/
namespace Lw
open PySem PySem.Spec L2
open Evl (Ex)
section
variable {K : PySem.W.Frag} {C : Addr} {σ : L2.St} {G G0 G' H H' H1 : Hp} {ta tb te tl ti : TE} {P : VP} {D : Ends}
theorem el_mapR {ta : TA} {j : Nat} {n : Nat} {g : Nat → PyData} (h : EA ta σ G fun us _ => us = [.int (n : Int)]) (hn : n ≤ 1000) (hw : ∀ x, wipe ((wipe σ [j]).set j (some x)) [j] = wipe σ [j]) (he : ∀ (i : Nat) G', Ex G G' → i < n → EF te ((wipe σ [j]).set j (some (.int (i : Int)))) G' (DV K (g i))) :
    EF (tLc (iRng1 ta) (gName j) tYes te [j]) σ G (LS K ((List.range n).map g)) := by
  refine ef_lcR1 (n := (n : Int)) (fun i acc G' => DpAll K G' acc ((List.range i).map g)) h ⟨by omega, by omega⟩ hw (fun G' _ => .nil) (fun i acc G' e1 hi hI => ?_) (fun p acc G' h1 h2 _ _ hI => ⟨p, acc, rfl, upd_same, ?_⟩)
  · refine ec_all ((he i G' e1 (by omega)).imp fun v G2 e2 p => ?_)
    rw [List.range_succ, List.map_append]
    exact dpa_snoc (dpax hI e2) p
  · have en : ((n : Int)).toNat = n := by omega
    rw [en] at hI
    exact dpax hI (ex_in h2)
theorem eb_inI {a : Int} {l : List Int} (ha : EF ta σ G (XV (.int a))) (hb : EF tb σ G (DV K (dI l))) : EF (tOp (rInD K) ta tb) σ G (BV (· = decide (a ∈ l))) := (ed_inD (EF.dv ha (.int a)) hb (sh_int _) (sh_ints _)).imp fun v _ _ ⟨z, ez, hz⟩ => ⟨z, ez, by rw [hz]; exact any_int l a⟩
theorem eb_eqD {d e : PyData} {c : Bool} (ha : EF ta σ G (DV K d)) (hb : EF tb σ G (DV K e)) (hd : SeqAt.shaped d = true) (he : SeqAt.shaped e = true) (hc : PyData.eqv d e = c) : EF (tOp (rEqD K) ta tb) σ G (BV (· = c)) :=
  ef_op mo_DV mo_DV ha hb fun x y G' _ hx hy => fun H e Q k => ⟨_, _, dpx hx e, dpx hy e, hd, he, k _ G' H (.refl e) ⟨_, rfl, hc⟩⟩
theorem et_neD {d e : PyData} {c : Bool} (ha : EF ta σ G (DV K d)) (hb : EF tb σ G (DV K e)) (hd : SeqAt.shaped d = true) (he : SeqAt.shaped e = true) (hc : PyData.eqv d e = c) : ET (tTest (tOp (rNeD K) ta tb)) σ G (· = !c) :=
  et_test (ef_op mo_DV mo_DV ha hb fun x y G' _ hx hy => fun H e Q k => ⟨_, _, dpx hx e, dpx hy e, hd, he, k _ G' H (.refl e) ⟨_, rfl, by rw [hc]⟩⟩)
theorem e_isi {y : V} {t : Value} {b : Bool} (hy : EF ta σ G (XV y)) (ht : ∀ H, Ex G H → TyX K H y t) (hk : PySem.W.kitOne K t (.ref C) = some b) : EF (tCB (rIsi K) (tCons ta (tCons (tC (.ref C)) tNil))) σ G (BV (· = b)) :=
  ef_cb (ea_x hy (ea_x ex_c ea_nil)) fun vs G' e ev => fun H e2 Q q => ⟨y, .ref C, t, .ref C, b, ev, .own C, ht H (e.trans e2), hk, q _ G' H (.refl e2) ⟨b, rfl, rfl⟩⟩
theorem ed_srtP {a : Addr} {xs : List V} {js : List (Int × Int)} (ha : EF ta σ G (XV (.ref a))) (hs : SqL K G a xs) (hx : DpAll K G xs (js.map dP)) : EF (tCB (rSortPD K) (tCons ta tNil)) σ G (DV K (dPs (srtP js))) := (ef_sortPD ha hs hx).imp fun v _ _ ⟨l, p, s, d⟩ => by rw [srtP_of p s] at d; exact d
/-- the joints of a track as a list that can be read -/
theorem trk_j {t : Trk} {v : V} (d : Dp K G v (dT t)) : ∃ a xs, (∀ {σ : L2.St} {i : Nat} {G' : Hp}, Ex G G' → σ[i]? = some (some v) → EF (tOp (rIxT K) (tVar i) (tC (.int 1))) σ G' (XV (.ref a))) ∧ SqL K G a xs ∧ DpAll K G xs (t.joints.map dP) := by
  obtain ⟨b, ys, rfl, hs, hd⟩ := dp_tup d
  obtain ⟨v1, hv1, d1⟩ := dpa_get' (i := 1) (d := dPs t.joints) hd rfl
  obtain ⟨a, xs, rfl, s1, x1⟩ := dp_lst d1
  exact ⟨a, xs, fun e h => ex_ixT (i := 1) (ex_var h) ex_c (Evl.ex_t e hs) hv1, s1, x1⟩
/-- a value put into a list that is ours -/
theorem st_insV {q : Addr} {ys : List V} {i : Nat} {m : Int} (eG : Ex G H1) (hq : H1 q = some (.lst ys)) (hz : ys.length < 1000) (ho : σ[i]? = some (some (.ref q))) (hi : EF ti σ G (IV fun z => 0 ≤ z ∧ z < m)) (hm : m ≤ 100000) (hv : EF te σ G P)
    (k : ∀ z v G2 H2, Gr G G2 H1 H2 → (0 ≤ z ∧ z < m) → P v G2 → D.nx σ (upd H2 q (.lst (ys.take z.toNat ++ [v] ++ ys.drop z.toNat)))) : tDrop (tBM K "list" rIns (tVar i) (tCons ti (tCons te tNil))) D σ H1 := by
  refine ⟨.ref q, ho, .inl ⟨rfl, _, Evl.sq_of hq⟩, hi H1 eG _ fun u G2 H2 g2 ⟨z, ez, hz2⟩ => hv H2 (g2.up.trans g2.ok) _ fun v G3 H3 g3 pv => ?_⟩
  subst ez
  have e13 := g2.hp.trans g3.hp
  refine ⟨q, ys, z, v, rfl, rfl, e13 _ _ hq, Nat.lt_of_lt_of_le hz (by decide), hz2.1, by omega, ?_⟩
  exact k z v G3 H3 ((Gr.same eG g2.hp).trans g3) hz2 pv
/-- a list of new lists -/
def LN (K : PySem.W.Frag) (G0 : Hp) (ds : List PyData) : VP := fun v G => ∃ l bs, v = .ref l ∧ G0 l = none ∧ G l = some (.lst bs) ∧ DpAll K G bs ds ∧ ∀ b ∈ bs, ∃ a xs, b = .ref a ∧ G0 a = none ∧ a ≠ l ∧ G a = some (.lst xs) ∧ xs.length ≤ 900
theorem mo_LN {ds : List PyData} : Mo (LN K G0 ds) := fun v G G' e ⟨l, bs, ev, h0, h1, h2, h3⟩ => ⟨l, bs, ev, h0, e _ _ h1, dpax h2 e, fun b m => by obtain ⟨a, xs, eb, q0, q1, q2, q3⟩ := h3 b m; exact ⟨a, xs, eb, q0, q1, e _ _ q2, q3⟩⟩
theorem mo_NwD {ds : List PyData} : Mo (NwD K G0 ds) := fun v G G' e ⟨a, xs, ev, h0, h1, h2⟩ => ⟨a, xs, ev, h0, e _ _ h1, dpax h2 e⟩
theorem LN.dp {ds : List PyData} {v : V} (h : LN K G0 ds v G) : Dp K G v (.list ds) := by
  obtain ⟨l, bs, rfl, _, h1, h2, _⟩ := h
  exact dp_mkL h1 h2
theorem dpa_apd {G : Hp} : ∀ {vs us : List V} {ds es : List PyData}, DpAll K G vs ds → DpAll K G us es → DpAll K G (vs ++ us) (ds ++ es)
  | _, _, _, _, .nil, h => h
  | _, _, _, _, .cons a r, h => .cons a (dpa_apd r h)
theorem en_two {d1 d2 : List PyData} (e0 : Ex G0 G) (h1 : EF ta σ G (NwD K G0 d1)) (h2 : EF tb σ G (NwD K G0 d2)) (n1 : d1.length ≤ 900) (n2 : d2.length ≤ 900) : EF (tLst (tCons ta (tCons tb tNil))) σ G (LN K G0 [.list d1, .list d2]) :=
  ef_lst (ea_two mo_NwD mo_NwD h1 h2) (fun vs G' ⟨x, y, ev, _⟩ => by rw [ev]; simp) fun p vs G' e hp hp' ⟨x, y, ev, hx, hy⟩ => by
    have ei := ex_in (o := .lst vs) hp'
    have dx := dpx hx.dp ei
    have dy := dpx hy.dp ei
    obtain ⟨a, xs, rfl, a0, a1, a2⟩ := hx
    obtain ⟨b, ys, rfl, b0, b1, b2⟩ := hy
    have ne : ∀ {a : Addr} {xs : List V}, G' a = some (.lst xs) → a ≠ p := fun h z => by rw [z, hp'] at h; cases h
    refine ⟨p, vs, rfl, none_back e0 hp, upd_same, by rw [ev] at dx dy ⊢; exact .cons dx (.cons dy .nil), fun u m => ?_⟩
    rw [ev] at m
    simp only [List.mem_cons, List.not_mem_nil, or_false] at m
    rcases m with rfl | rfl
    · exact ⟨a, xs, rfl, a0, ne a1, ei _ _ a1, by rw [dpa_len a2]; exact n1⟩
    · exact ⟨b, ys, rfl, b0, ne b1, ei _ _ b1, by rw [dpa_len b2]; exact n2⟩
theorem en_cat {d1 d2 : List PyData} (e0 : Ex G0 G) (ha : EF ta σ G (LN K G0 d1)) (hb : EF tb σ G (LN K G0 d2)) (hz : d1.length + d2.length ≤ 100000) : EF (tOp rCat ta tb) σ G (LN K G0 (d1 ++ d2)) :=
  ef_op mo_LN mo_LN ha hb fun x y G' e ⟨l, xs, ex, l0, h1, q1, r1⟩ ⟨b, ys, ey, b0, h2, q2, r2⟩ => fun H e2 Q k => by
    refine ⟨l, b, xs, ys, ex, ey, e2 _ _ h1, e2 _ _ h2, ?_, fun p hp => k _ _ _ (.new e2 hp) ⟨p, _, rfl, none_back (e0.trans (e.trans e2)) hp, upd_same, ?_, fun u m => ?_⟩⟩
    · rw [dpa_len q1, dpa_len q2]
      exact Nat.le_trans hz (by decide)
    · have e3 := ex_in (o := .lst (xs ++ ys)) (none_back e2 hp)
      exact dpa_apd (dpax q1 e3) (dpax q2 e3)
    · have hp' := none_back e2 hp
      have e3 := ex_in (o := .lst (xs ++ ys)) hp'
      have ne : ∀ {a : Addr} {xs : List V}, G' a = some (.lst xs) → a ≠ p := fun h z => by rw [z, hp'] at h; cases h
      rcases List.mem_append.mp m with m | m
      · obtain ⟨a, zs, eu, a0, _, a1, a2⟩ := r1 u m
        exact ⟨a, zs, eu, a0, ne a1, e3 _ _ a1, a2⟩
      · obtain ⟨a, zs, eu, a0, _, a1, a2⟩ := r2 u m
        exact ⟨a, zs, eu, a0, ne a1, e3 _ _ a1, a2⟩
end
/-- lists that are there, some of them not empty -/
def LSt (B B0 : List Addr) (N : Nat) (H : Hp) : Prop := ∀ a ∈ B, ∃ xs, H a = some (.lst xs) ∧ xs.length ≤ N ∧ (a ∈ B0 → 0 < xs.length)
theorem LSt.up {B B0 : List Addr} {N : Nat} {H H' : Hp} (h : LSt B B0 N H) (e : Ex H H') : LSt B B0 N H' := fun a m => by
  obtain ⟨xs, h1, h2⟩ := h a m
  exact ⟨xs, e _ _ h1, h2⟩
theorem LSt.wide {B B0 : List Addr} {N N' : Nat} {H : Hp} (h : LSt B B0 N H) (e : N ≤ N') : LSt B B0 N' H := fun a m => by
  obtain ⟨xs, h1, h2, h3⟩ := h a m
  exact ⟨xs, h1, by omega, h3⟩
theorem LSt.put {B B0 : List Addr} {N : Nat} {H : Hp} {q : Addr} {ys : List V} (h : LSt B B0 N H) (h1 : ys.length ≤ N) (h2 : 0 < ys.length) : LSt B B0 N (upd H q (.lst ys)) := fun a m => by
  by_cases e : a = q
  · rw [e]
    exact ⟨ys, upd_same, h1, fun _ => h2⟩
  · rw [upd_ne e]
    exact h a m
def listsD (parks : List Int) (js : List (Int × Int)) (pt : List PyData) : Nat → List PyData
  | 0 => [.list ((srtP js).map dP), .list pt]
  | n + 1 => listsD parks js pt n ++ [dI (srtI (eo js (n : Int))), dI (srtI (wo js (n : Int)))] ++ [dI (srtI (eo js (n : Int))), dI (srtI (wo js (n : Int)))]
theorem listsD_len (parks : List Int) (js : List (Int × Int)) (pt : List PyData) : ∀ n, (listsD parks js pt n).length = 2 + 4 * n
  | 0 => rfl
  | n + 1 => by
    unfold listsD
    rw [List.length_append, List.length_append, listsD_len parks js pt n]
    simp
    omega
end Lw

set_option Elab.async false
set_option linter.all false
set_option maxRecDepth 100000
set_option maxHeartbeats 4000000
/-! a keyword that is left out -/
namespace Lw
open PySem L2
theorem binds_kwd {K : PySem.W.Frag} {s : Shared} {fd : FuncData} {args : Args} {D : Addr} {x : Str} {u : Value} {bs : List (Str × Value)} {k : Option Value → Sem (List (Str × Value))} (hK : K.In s.heap) (e : PySem.W.nsIn K D x = some (some u)) (h1 : bindArgs fd args = nsGet D x >>= k) (h2 : k (some u) = pure bs) : BindsTo s fd args bs := fun M A E Q q => by
  rw [h1]
  refine wpAny_bind (PySem.W.looks_nsIn hK e A _ E s (fun _ _ h => h) ?_)
  rw [h2]
  exact wpAny_pure q
end Lw

set_option Elab.async false
set_option linter.all false
set_option maxRecDepth 100000
set_option maxHeartbeats 4000000
/-! tuples that are taken apart, enumerate, dicts of lists -/
namespace Lw
open PySem PySem.Spec L2
open Evl (Ex)
section
variable {K : PySem.W.Frag} {σ : L2.St} {G H : Hp} {D : Ends} {Q : L2.St → Hp → Prop}
theorem g_c {i : Nat} {x : V} {r : List V} {u : TGs} (q : u r (σ.set i (some x)) H Q) : gCons (gName i) u (x :: r) σ H Q := ⟨x, r, rfl, q⟩
theorem g_n (q : Q σ H) : gNil [] σ H Q := ⟨rfl, q⟩
theorem g_two {i j : Nat} {a : Addr} {x y : V} (h : SqT K H a [x, y]) (q : Q ((σ.set i (some x)).set j (some y)) H) : gTup K 2 (gCons (gName i) (gCons (gName j) gNil)) (.ref a) σ H Q :=
  ⟨a, _, rfl, h, rfl, g_c (g_c (g_n q))⟩
theorem g_three {i j k : Nat} {a : Addr} {x y z : V} (h : SqT K H a [x, y, z]) (q : Q (((σ.set i (some x)).set j (some y)).set k (some z)) H) : gTup K 3 (gCons (gName i) (gCons (gName j) (gCons (gName k) gNil))) (.ref a) σ H Q :=
  ⟨a, _, rfl, h, rfl, g_c (g_c (g_c (g_n q)))⟩
theorem g_four {i j k l : Nat} {a : Addr} {x y z u : V} (h : SqT K H a [x, y, z, u]) (q : Q ((((σ.set i (some x)).set j (some y)).set k (some z)).set l (some u)) H) : gTup K 4 (gCons (gName i) (gCons (gName j) (gCons (gName k) (gCons (gName l) gNil)))) (.ref a) σ H Q :=
  ⟨a, _, rfl, h, rfl, g_c (g_c (g_c (g_c (g_n q))))⟩
/-- (a, pattern) = a pair -/
theorem g_one_in {i : Nat} {a : Addr} {x y : V} {g : TG} (h : SqT K H a [x, y]) (q : g y (σ.set i (some x)) H fun σ' H' => gNil [] σ' H' Q) : gTup K 2 (gCons (gName i) (gCons g gNil)) (.ref a) σ H Q :=
  ⟨a, _, rfl, h, rfl, g_c ⟨y, [], rfl, q⟩⟩
/-- a for over enumerate -/
theorem st_forEn {xs : List V} {tl : TE} {a : Addr} {g : TG} {tu : TS} (hG : Ex G H) (h : EF tl σ G (XV (.ref a))) (hx : SqL K G a xs) (W : Nat → L2.St → Hp → Prop) (h0 : ∀ H', Ex H H' → W 0 σ H') (hl : ∀ i σ' H', W i σ' H' → Ex G H')
    (hs : ∀ i x T σ' H', xs[i]? = some x → W i σ' H' → H' T = none → g (.ref T) σ' (upd H' T (.tup [.int (i : Nat), x])) fun σ2 H2 => tu { D with nx := W (i + 1), ct := W (i + 1), bk := D.nx } σ2 H2) (hd : ∀ σ' H', W xs.length σ' H' → D.nx σ' H') : tFor (iEnum K (tCons tl tNil)) g tu D σ H := by
  unfold tFor iEnum
  refine (ea_one h) H hG _ fun vs G1 H1 g1 ⟨x, ev, e⟩ => ?_
  · cases (show x = .ref a from e)
    subst ev
    exact ⟨a, xs, rfl, Evl.ex_l (hG.trans g1.hp) hx, for_it walk_enum W (h0 H1 g1.hp) (fun i σ' H' _ w => Evl.ex_l (hl i σ' H' w) hx) (fun i x σ' H' H2 _ w y => by
      obtain ⟨T, x1, y1, rfl, hT, rfl, e1, e2⟩ := y
      cases e1
      exact hs i y1 T σ' H' e2 w hT) hd⟩
/-- x += e -/
theorem st_augI {i : Nat} {a b : Int} {te : TE} (hG : Ex G H) (hi : σ[i]? = some (some (.int a))) (h : EF te σ G (XV (.int b))) (k : ∀ G' H', Gr G G' H H' → D.nx (σ.set i (some (.int (a + b)))) H') : tAug i te (ipI fun i j => i + j) D σ H :=
  ⟨.int a, hi, h H hG _ fun v G' H' g p => by
    cases (show v = .int b from p)
    exact ⟨a, b, rfl, rfl, k G' H' g⟩⟩
end
/-! dicts -/
section
variable {K : PySem.W.Frag} {σ : L2.St} {G G' H H1 : Hp} {D : Ends} {d : Addr}
abbrev DM := List (Int × List PyData)
def getM (m : DM) (k : Int) : Option (List PyData) := (m.find? fun p => decide (p.1 = k)).map (·.2)
def getL (m : DM) (k : Int) : List PyData := (getM m k).getD []
def addM (m : DM) (k : Int) (x : PyData) : DM := if k ∈ m.map (·.1) then m.map (fun p => if p.1 = k then (p.1, p.2 ++ [x]) else p) else m ++ [(k, [x])]
/-- a dict of these lists -/
def DkAt (K : PySem.W.Frag) (G : Hp) (d : Addr) (m : DM) : Prop := ∃ kvs : List (Key × V), G d = some (.dK kvs) ∧ kvs.map (·.1) = m.map (fun p => (Sum.inl p.1 : Key)) ∧ DpAll K G (kvs.map (·.2)) (m.map fun p => .list p.2)
theorem DkAt.ex {m : DM} (h : DkAt K G d m) (e : Ex G G') : DkAt K G' d m := by
  obtain ⟨kvs, h1, h2, h3⟩ := h
  exact ⟨kvs, e _ _ h1, h2, dpax h3 e⟩
theorem valM {k : Int} : ∀ {kvs : List (Key × V)} {m : DM}, kvs.map (·.1) = m.map (fun p => (Sum.inl p.1 : Key)) → DpAll K G (kvs.map (·.2)) (m.map fun p => .list p.2) → (getM m k = none ∧ valV kvs (.inl k : Key) = none) ∨ ∃ v ps, getM m k = some ps ∧ valV kvs (.inl k : Key) = some v ∧ Dp K G v (.list ps)
  | [], [], _, _ => .inl ⟨rfl, rfl⟩
  | [], _ :: _, h, _ => by simp at h
  | _ :: _, [], h, _ => by simp at h
  | (a, v) :: kvs, (b, ps) :: m, h, hd => by
    simp only [List.map_cons, List.cons.injEq] at h
    obtain ⟨rfl, h⟩ := h
    simp only [List.map_cons] at hd
    cases hd with
    | cons h1 h2 =>
      by_cases e : b = k
      · subst e
        exact .inr ⟨v, ps, by simp [getM], by simp [valV], h1⟩
      · have z1 : getM ((b, ps) :: m) k = getM m k := by simp [getM, e]
        have z2 : valV (((Sum.inl b : Key), v) :: kvs) (.inl k : Key) = valV kvs (.inl k : Key) := by simp [valV, e]
        rw [z1, z2]
        exact valM h h2
/-- d.get(k, x) -/
theorem ef_dget2 {m : DM} {k : Int} {td tk tx : TE} (hd : EF td σ G (XV (.ref d))) (hm : DkAt K G d m) (hk : EF tk σ G (XV (.int k))) (hx : EF tx σ G (DV K (.list []))) : EF (tDGet2 td tk tx) σ G (DV K (.list (getL m k))) := fun H e Q q =>
  hd H e _ fun v G1 H1 g1 pv => by
    cases (show v = .ref d from pv)
    obtain ⟨kvs, h1, h2, h3⟩ := hm
    refine ⟨d, rfl, .inl ⟨kvs, .inl (g1.hp _ _ (e _ _ h1))⟩, hk H1 (e.trans g1.hp) _ fun y G2 H2 g2 py => ?_⟩
    cases (show y = .int k from py)
    refine hx H2 (e.trans (g1.hp.trans g2.hp)) _ fun z G3 H3 g3 pz => ?_
    obtain ⟨G4, e1, e2, g4⟩ := g1.join (g2.join g3).choose_spec.2.2
    have e3 : Ex G G4 := g4.up
    refine ⟨valV kvs (.inl k : Key), .inl ⟨kvs, .inl k, .inl (g4.ok _ _ (e3 _ _ h1)), rfl, rfl⟩, ?_⟩
    rcases valM (k := k) h2 h3 with ⟨a, b⟩ | ⟨u, ps, a, b, c⟩
    · rw [b]
      exact q z G4 H3 g4 (by unfold getL; rw [a]; exact dpx pz ((g2.join g3).choose_spec.2.1.trans e2))
    · rw [b]
      exact q u G4 H3 g4 (by unfold getL; rw [a]; exact dpx c e3)
/-- d[k] -/
theorem ef_dget {m : DM} {k : Int} {ps : List PyData} {td tk : TE} (hd : EF td σ G (XV (.ref d))) (hm : DkAt K G d m) (hk : EF tk σ G (XV (.int k))) (hp : getM m k = some ps) : EF (tDGet td tk) σ G (DV K (.list ps)) := fun H e Q q =>
  hd H e _ fun v G1 H1 g1 pv => by
    cases (show v = .ref d from pv)
    obtain ⟨kvs, h1, h2, h3⟩ := hm
    refine hk H1 (e.trans g1.hp) _ fun y G2 H2 g2 py => ?_
    cases (show y = .int k from py)
    obtain ⟨G4, e1, e2, g4⟩ := g1.join g2
    rcases valM (k := k) h2 h3 with ⟨a, b⟩ | ⟨u, ps', a, b, c⟩
    · rw [hp] at a; cases a
    · rw [hp] at a; cases a
      exact ⟨d, u, rfl, .inl ⟨kvs, .inl k, .inl (g4.ok _ _ (g4.up _ _ h1)), rfl, b.symm⟩, q u G4 H2 g4 (dpx c g4.up)⟩
/-- list(d) -/
theorem el_listD {m : DM} {td : TE} (hd : EF td σ G (XV (.ref d))) (hm : DkAt K G d m) : EF (tCB rListD (tCons td tNil)) σ G fun v G' => ∃ p, v = .ref p ∧ G' p = some (.lst ((m.map (·.1)).map V.int)) := fun H e Q q =>
  (ea_one hd) H e _ fun vs G1 H1 g1 ⟨x, ev, pv⟩ => by
    cases (show x = .ref d from pv)
    obtain ⟨kvs, h1, h2, h3⟩ := hm
    refine ⟨d, kvs, ev, g1.hp _ _ (e _ _ h1), fun p hp => q _ _ _ (g1.trans (.new g1.ok hp)) ⟨p, rfl, ?_⟩⟩
    rw [upd_same, show (kvs.map fun kv => kV kv.1) = (kvs.map (·.1)).map kV by rw [List.map_map]; rfl, h2, List.map_map, List.map_map]
    rfl
/-- an entry while the dict is made: key, the list's address, what it holds -/
abbrev BE := Int × Addr × List V × List PyData
structure BOk (K : PySem.W.Frag) (H G' H1 : Hp) (e : BE) : Prop where
  g : G' e.2.1 = none
  h : H e.2.1 = none
  l : H1 e.2.1 = some (.lst e.2.2.1)
  d : DpAll K G' e.2.2.1 e.2.2.2
def DB (K : PySem.W.Frag) (G H H1 : Hp) (d : Addr) (m : DM) : Prop := ∃ (G' : Hp) (es : List BE), Gr G G' H H1 ∧ G' d = none ∧ H1 d = some (.dK (es.map fun e => ((Sum.inl e.1 : Key), V.ref e.2.1))) ∧ (∀ e ∈ es, BOk K H G' H1 e) ∧ (es.map fun e => e.2.1).Nodup ∧ d ∉ es.map (fun e => e.2.1) ∧ es.map (fun e => (e.1, e.2.2.2)) = m
theorem db_new (hG : Ex G H) (hd : H d = none) : DB K G H (upd H d (.dK [])) d [] :=
  ⟨G, [], ⟨Ex.refl G, ex_off hG (none_back hG hd), ex_in hd, fun _ _ h => h⟩, none_back hG hd, upd_same, by simp, by simp, by simp, rfl⟩
theorem be_find {k : Int} : ∀ {es : List BE} {v : V}, valV (es.map fun e => ((Sum.inl e.1 : Key), V.ref e.2.1)) (.inl k : Key) = some v → ∃ A e B, es = A ++ e :: B ∧ e.1 = k ∧ v = .ref e.2.1 ∧ ∀ z ∈ A, z.1 ≠ k
  | [], v, h => by simp [valV] at h
  | e :: es, v, h => by
    by_cases q : e.1 = k
    · refine ⟨[], e, es, rfl, q, ?_, by simp⟩
      simp [valV, q] at h
      exact h.symm
    · have z : valV (es.map fun e => ((Sum.inl e.1 : Key), V.ref e.2.1)) (.inl k : Key) = some v := by
        simpa [valV, q] using h
      obtain ⟨A, e1, B, rfl, h1, h2, h3⟩ := be_find z
      exact ⟨e :: A, e1, B, rfl, h1, h2, fun y hy => by
        rcases List.mem_cons.mp hy with r | r
        · subst r; exact q
        · exact h3 y r⟩
theorem be_none {k : Int} {es : List BE} (h : valV (es.map fun e => ((Sum.inl e.1 : Key), V.ref e.2.1)) (.inl k : Key) = none) : ∀ e ∈ es, e.1 ≠ k := fun e he q => by
  simp [valV] at h
  exact h e.1 e.2.1 e.2.2.1 e.2.2.2 he q
end
end Lw

set_option Elab.async false
set_option linter.all false
set_option maxRecDepth 100000
set_option maxHeartbeats 4000000
/-! a dict of lists that is made: setdefault(k, []).append(x) -/
namespace Lw
open PySem PySem.Spec L2
open Evl (Ex)
section
variable {K : PySem.W.Frag} {σ : L2.St} {G G' H H1 : Hp} {D : Ends} {d : Addr}
theorem BOk.step {H2 G2 : Hp} {e : BE} (b : BOk K H G' H1 e) (g : Gr G' G2 H1 H2) : BOk K H G2 H2 e :=
  ⟨g.2.2.2 _ (ne_none_of b.l) b.g, b.h, g.hp _ _ b.l, dpax b.d g.up⟩
theorem BOk.other {H2 : Hp} {e : BE} {q : Addr} {o : HO} (b : BOk K H G' H2 e) (h : e.2.1 ≠ q) : BOk K H G' (upd H2 q o) e :=
  ⟨b.g, b.h, by rw [upd_ne h]; exact b.l, b.d⟩
theorem add_here {k : Int} {x : PyData} {A : List BE} {e : BE} {B : List BE} {vs : List V} (hk : e.1 = k) (hA : ∀ z ∈ A, z.1 ≠ k) (hB : ∀ z ∈ B, z.1 ≠ k) :
    (A ++ ((e.1, e.2.1, vs, e.2.2.2 ++ [x]) : BE) :: B).map (fun e => (e.1, e.2.2.2)) = addM ((A ++ e :: B).map fun e => (e.1, e.2.2.2)) k x := by
  unfold addM
  rw [if_pos (by simp [hk])]
  simp only [List.map_append, List.map_cons, List.map_map]
  rw [if_pos hk]
  have z : ∀ L : List BE, (∀ z ∈ L, z.1 ≠ k) → L.map ((fun p : Int × List PyData => if p.1 = k then (p.1, p.2 ++ [x]) else p) ∘ fun e => (e.1, e.2.2.2)) = L.map fun e => (e.1, e.2.2.2) := fun L hL => List.map_congr_left fun e he => by simp [hL e he]
  rw [z A hA, z B hB]
theorem st_dset {i : Nat} {m : DM} {k : Int} {x : PyData} {tk te : TE} (hdH : H d = none) (h : DB K G H H1 d m) (hn : (m.map (·.1)).Nodup) (hm : m.length < 1000) (hl : ∀ p ∈ m, p.2.length < 1000) (ho : σ[i]? = some (some (.ref d)))
    (hk : ∀ G', Ex G G' → EF tk σ G' (XV (.int k))) (hv : ∀ G', Ex G G' → EF te σ G' (DV K x)) (kk : ∀ H2, DB K G H H2 d (addM m k x) → D.nx σ H2) :
    tDrop (tBM K "list" rAppend (tDSetd (tVar i) tk (tLst tNil)) (tCons te tNil)) D σ H1 := by
  obtain ⟨G', es, g, gd, hd, he, nd, dn, em⟩ := h
  have el : es.length = m.length := by rw [← em, List.length_map]
  refine ⟨.ref d, ho, d, rfl, .inl ⟨_, .inl hd⟩, hk G' g.up H1 g.ok _ fun y G2 H2 g2 py => ?_⟩
  cases (show y = .int k from py)
  refine ⟨by decide, fun q hq => ?_⟩
  have hd2 := g2.hp _ _ hd
  have dq : d ≠ q := by rintro rfl; rw [hq] at hd2; cases hd2
  have G2d : G2 d = none := g2.2.2.2 d (ne_none_of hd) gd
  have G2q : G2 q = none := none_back g2.ok hq
  have g12 := g.trans g2
  have Hq : H q = none := none_back g12.hp hq
  have he2 : ∀ e ∈ es, BOk K H G2 H2 e := fun e m => (he e m).step g2
  have eq : ∀ e ∈ es, e.2.1 ≠ q := fun e m z => by
    have := (he2 e m).l
    rw [z, hq] at this; cases this
  have g3 : Gr G G2 H (upd H2 q (.lst [])) := g12.put Hq G2q
  have hd3 : (upd H2 q (.lst [])) d = some (.dK (es.map fun e => ((Sum.inl e.1 : Key), V.ref e.2.1))) := by rw [upd_ne dq]; exact hd2
  have he3 : ∀ e ∈ es, BOk K H G2 (upd H2 q (.lst [])) e := fun e m => (he2 e m).other (eq e m)
  refine ⟨_, .inl k, hd3, rfl, by rw [List.length_map, el]; exact Nat.lt_of_lt_of_le hm (by decide), fun v hv1 => ?_, fun hn1 => ?_⟩
  · obtain ⟨A, e, B, rfl, hek, rfl, hA⟩ := be_find hv1
    have hb := he3 e (by simp)
    have kn : (((A ++ e :: B) : List BE).map (·.1)).Nodup := by
      have z : ((A ++ e :: B) : List BE).map (·.1) = m.map (·.1) := by rw [← em, List.map_map]; rfl
      rw [z]; exact hn
    have hB : ∀ z ∈ B, z.1 ≠ k := fun z hz q => by
      rw [List.map_append, List.map_cons, List.nodup_append] at kn
      have k2 := (List.nodup_cons.mp kn.2.1).1
      exact k2 (List.mem_map.mpr ⟨z, hz, q.trans hek.symm⟩)
    refine ⟨.inl ⟨rfl, _, Evl.sq_of hb.l⟩, (ea_one (hv G2 g12.up)) _ g3.ok _ fun vs G4 H4 g4 ⟨w, ev, pw⟩ => ?_⟩
    subst ev
    have hb4 := hb.step g4
    have hlen : e.2.2.1.length < 1000 := by
      rw [dpa_len hb.d]
      exact hl (e.1, e.2.2.2) (by rw [← em]; simp)
    refine ⟨e.2.1, _, w, rfl, rfl, hb4.l, Nat.lt_of_lt_of_le hlen (by decide), kk _ ⟨G4, A ++ (e.1, e.2.1, e.2.2.1 ++ [w], e.2.2.2 ++ [x]) :: B, (g3.trans g4).put hb.h hb4.g, g4.2.2.2 d (ne_none_of hd3) G2d, ?_, ?_, ?_, ?_, ?_⟩⟩
    · have ne : d ≠ e.2.1 := fun z => dn (by rw [z]; simp)
      rw [upd_ne ne, g4.hp _ _ hd3]
      simp
    · have ne : ∀ z ∈ A ++ B, z.2.1 ≠ e.2.1 := fun z hz q => by
        rw [List.map_append, List.map_cons, List.nodup_append] at nd
        rcases List.mem_append.mp hz with hz | hz
        · exact nd.2.2 z.2.1 (List.mem_map.mpr ⟨z, hz, rfl⟩) e.2.1 List.mem_cons_self q
        · exact (List.nodup_cons.mp nd.2.1).1 (List.mem_map.mpr ⟨z, hz, q⟩)
      intro z hz
      rcases List.mem_append.mp hz with hz | hz
      · exact ((he3 z (by simp [hz])).step g4).other (ne z (by simp [hz]))
      · rcases List.mem_cons.mp hz with hz | hz
        · subst hz
          exact ⟨hb4.g, hb.h, upd_same, dpa_snoc hb4.d pw⟩
        · exact ((he3 z (by simp [hz])).step g4).other (ne z (by simp [hz]))
    · simpa using nd
    · simpa using dn
    · rw [add_here hek hA hB, em]
  · have hnk := be_none hn1
    have pk : putK (es.map fun e => ((Sum.inl e.1 : Key), V.ref e.2.1)) (.inl k) (.ref q) = es.map (fun e => ((Sum.inl e.1 : Key), V.ref e.2.1)) ++ [(.inl k, .ref q)] := by
      unfold putK
      rw [if_neg]
      simp
      intro a b c d'
      exact hnk _ d' rfl
    have H5q : (upd (upd H2 q (.lst [])) d (.dK (putK (es.map fun e => ((Sum.inl e.1 : Key), V.ref e.2.1)) (.inl k) (.ref q)))) q = some (.lst []) := by rw [upd_ne (Ne.symm dq), upd_same]
    have H5d : (upd (upd H2 q (.lst [])) d (.dK (putK (es.map fun e => ((Sum.inl e.1 : Key), V.ref e.2.1)) (.inl k) (.ref q)))) d = some (.dK (es.map (fun e => ((Sum.inl e.1 : Key), V.ref e.2.1)) ++ [(.inl k, .ref q)])) := by rw [upd_same, pk]
    have g5 := g3.put (o := .dK (putK (es.map fun e => ((Sum.inl e.1 : Key), V.ref e.2.1)) (.inl k) (.ref q))) hdH G2d
    refine ⟨.inl ⟨rfl, _, Evl.sq_of H5q⟩, (ea_one (hv G2 g12.up)) _ g5.ok _ fun vs G4 H4 g4 ⟨w, ev, pw⟩ => ?_⟩
    subst ev
    have G4q : G4 q = none := g4.2.2.2 q (ne_none_of H5q) G2q
    have G4d : G4 d = none := g4.2.2.2 d (ne_none_of H5d) G2d
    refine ⟨q, [], w, rfl, rfl, g4.hp _ _ H5q, by decide, kk _ ⟨G4, es ++ [(k, q, [w], [x])], (g5.trans g4).put Hq G4q, G4d, ?_, ?_, ?_, ?_, ?_⟩⟩
    · rw [upd_ne dq, g4.hp _ _ H5d]
      simp
    · intro z hz
      rcases List.mem_append.mp hz with hz | hz
      · have zd : z.2.1 ≠ d := fun e => dn (List.mem_map.mpr ⟨z, hz, e⟩)
        exact (((he3 z hz).other zd).step g4).other (eq z hz)
      · cases List.mem_singleton.mp hz
        exact ⟨G4q, Hq, upd_same, .cons pw .nil⟩
    · rw [List.map_append, List.nodup_append]
      refine ⟨nd, by simp, fun a ha b hb => ?_⟩
      simp at hb
      subst hb
      obtain ⟨e, he', rfl⟩ := List.mem_map.mp ha
      exact eq e he'
    · rw [List.map_append, List.mem_append]
      rintro (z | z)
      · exact dn z
      · simp at z; exact dq z
    · have hk' : k ∉ m.map (·.1) := fun z => by
        rw [← em, List.map_map] at z
        obtain ⟨e, he', r⟩ := List.mem_map.mp z
        exact hnk e he' r
      unfold addM
      rw [if_neg hk', List.map_append, em]
      rfl
/-- the dict is done -/
theorem DB.get {m : DM} (h : DB K G H H1 d m) (hd : H d = none) : ∃ Gf, Gr G Gf H H1 ∧ DkAt K Gf d m := by
  obtain ⟨G', es, g, gd, hd1, he, nd, dn, em⟩ := h
  have hS : ∀ a ∈ d :: es.map (fun e => e.2.1), H a = none ∧ G' a = none := fun a ha => by
    rcases List.mem_cons.mp ha with e | ha
    · rw [e]; exact ⟨hd, gd⟩
    · obtain ⟨e, h1, rfl⟩ := List.mem_map.mp ha
      exact ⟨(he e h1).h, (he e h1).g⟩
  have up : Ex G' (pick (d :: es.map (fun e => e.2.1)) G' H1) := fun a o q => by
    unfold pick
    rw [if_neg fun m => by rw [(hS a m).2] at q; cases q]
    exact q
  refine ⟨pick (d :: es.map (fun e => e.2.1)) G' H1, ⟨g.up.trans up, fun a o q => ?_, g.hp, fun a h0 h1 => ?_⟩, es.map (fun e => ((Sum.inl e.1 : Key), V.ref e.2.1)), ?_, ?_, ?_⟩
  · unfold pick at q
    split at q
    · exact q
    · exact g.ok _ _ q
  · unfold pick
    rw [if_neg fun m => h0 (hS a m).1]
    exact g.2.2.2 a h0 h1
  · rw [pick_in List.mem_cons_self]; exact hd1
  · rw [← em, List.map_map, List.map_map]; rfl
  · rw [← em, List.map_map, List.map_map]
    have key : ∀ L : List BE, (∀ e ∈ L, e ∈ es) → DpAll K (pick (d :: es.map (fun e => e.2.1)) G' H1) (L.map ((fun x => x.2) ∘ fun e => ((Sum.inl e.1 : Key), V.ref e.2.1))) (L.map ((fun p : Int × List PyData => PyData.list p.2) ∘ fun e => (e.1, e.2.2.2))) := fun L => by
      induction L with
      | nil => exact fun _ => .nil
      | cons e L ih =>
        intro hL
        have b := he e (hL e List.mem_cons_self)
        exact .cons (dp_mkL (by rw [pick_in (List.mem_cons_of_mem _ (List.mem_map.mpr ⟨e, hL e List.mem_cons_self, rfl⟩))]; exact b.l) (dpax b.d up)) (ih fun z hz => hL z (List.mem_cons_of_mem _ hz))
    exact key es fun _ h => h
end
end Lw

set_option Elab.async false
set_option linter.all false
set_option maxRecDepth 100000
set_option maxHeartbeats 4000000
/-! stock: what a place lacks, as mathematics -/
namespace Lw
open PySem PySem.Spec L2
/-- origin, goal, start, end -/
abbrev Wk := Int × Int × Int × Int
def dW (v : Wk) : PyData := .tuple [.int v.1, .int v.2.1, .int v.2.2.1, .int v.2.2.2]
def dWs (l : List Wk) : PyData := .list (l.map dW)
def badW (v : Wk) : Bool := decide (v.2.2.2 ≤ v.2.2.1)
def badAt (l : List Wk) : Option Nat := l.findIdx? badW
/-- what happens at a place -/
def evW (gap p : Int) (v : Wk) : List (Int × Int) := (if v.1 = p then [(v.2.2.1, 1)] else []) ++ (if v.2.1 = p then [(v.2.2.2 + gap, -1)] else [])
def evs (gap p : Int) (l : List Wk) : List (Int × Int) := l.flatMap (evW gap p)
def chg1 (gap : Int) (m : DM) (v : Wk) : DM := addM (addM m v.1 (dP (v.2.2.1, 1))) v.2.1 (dP (v.2.2.2 + gap, -1))
def chg (gap : Int) (l : List Wk) : DM := l.foldl (chg1 gap) []
theorem getM_cons {a : Int} {ps : List PyData} {m : DM} {k : Int} : getM ((a, ps) :: m) k = if a = k then some ps else getM m k := by
  unfold getM
  by_cases h : a = k <;> simp [h]
theorem getM_none {m : DM} {k : Int} : getM m k = none ↔ k ∉ m.map (·.1) := by
  induction m with
  | nil => simp [getM]
  | cons p m ih =>
    obtain ⟨a, ps⟩ := p
    rw [getM_cons]
    by_cases h : a = k
    · simp [h]
    · rw [if_neg h, ih]
      simp
      intro _ e
      exact h e.symm
theorem getM_app {m : DM} {a : Int} {ps : List PyData} {k : Int} (h : a ∉ m.map (·.1)) : getM (m ++ [(a, ps)]) k = if a = k then some ps else getM m k := by
  induction m with
  | nil => simp [getM_cons, getM]
  | cons p m ih =>
    obtain ⟨b, qs⟩ := p
    simp only [List.map_cons, List.mem_cons, not_or] at h
    rw [List.cons_append, getM_cons, getM_cons, ih h.2]
    by_cases h1 : b = k <;> by_cases h2 : a = k <;> simp [h1, h2]
    exact absurd (h2.trans h1.symm) h.1
theorem getM_upd {m : DM} {a : Int} {x : PyData} {k : Int} : getM (m.map fun p => if p.1 = a then (p.1, p.2 ++ [x]) else p) k = if a = k then (getM m k).map (· ++ [x]) else getM m k := by
  induction m with
  | nil => simp [getM]
  | cons p m ih =>
    obtain ⟨b, qs⟩ := p
    simp only [List.map_cons]
    by_cases h1 : b = a
    · subst h1
      rw [if_pos rfl, getM_cons, getM_cons, ih]
      by_cases h2 : b = k <;> simp [h2]
    · rw [if_neg h1, getM_cons, getM_cons, ih]
      by_cases h2 : b = k <;> by_cases h3 : a = k <;> simp [h2, h3]
      exact absurd (h2.trans h3.symm) h1
theorem getL_add {m : DM} {a : Int} {x : PyData} {k : Int} : getL (addM m a x) k = if a = k then getL m k ++ [x] else getL m k := by
  unfold getL addM
  by_cases h : a ∈ m.map (·.1)
  · rw [if_pos h, getM_upd]
    by_cases h2 : a = k
    · subst h2
      rw [if_pos rfl, if_pos rfl]
      cases e : getM m a with
      | none => exact absurd h (getM_none.mp e)
      | some ps => rfl
    · rw [if_neg h2, if_neg h2]
  · rw [if_neg h, getM_app h]
    by_cases h2 : a = k
    · subst h2
      rw [if_pos rfl, if_pos rfl, getM_none.mpr h]
      rfl
    · rw [if_neg h2, if_neg h2]
theorem addM_keys {m : DM} {a : Int} {x : PyData} {k : Int} : k ∈ (addM m a x).map (·.1) ↔ k = a ∨ k ∈ m.map (·.1) := by
  unfold addM
  split
  · rename_i h
    rw [List.map_map]
    have : ((fun x : Int × List PyData => x.1) ∘ fun p => if p.1 = a then (p.1, p.2 ++ [x]) else p) = fun x => x.1 := by
      funext p; simp only [Function.comp]; split <;> rfl
    rw [this]
    exact ⟨.inr, fun z => z.elim (fun e => e ▸ h) id⟩
  · rw [List.map_append, List.mem_append]
    simp
    exact ⟨fun z => z.elim .inr .inl, fun z => z.elim .inr .inl⟩
theorem addM_nd {m : DM} {a : Int} {x : PyData} (h : (m.map (·.1)).Nodup) : ((addM m a x).map (·.1)).Nodup := by
  unfold addM
  split
  · rw [List.map_map]
    have : ((fun x : Int × List PyData => x.1) ∘ fun p => if p.1 = a then (p.1, p.2 ++ [x]) else p) = fun x => x.1 := by
      funext p; simp only [Function.comp]; split <;> rfl
    rw [this]; exact h
  · rename_i q
    rw [List.map_append, List.nodup_append]
    refine ⟨h, by simp, fun b hb c hc => ?_⟩
    simp at hc
    subst hc
    exact fun e => q (e ▸ hb)
theorem addM_len {m : DM} {a : Int} {x : PyData} : (addM m a x).length ≤ m.length + 1 := by
  unfold addM
  split <;> simp
theorem addM_row {m : DM} {a : Int} {x : PyData} {N : Nat} (h : ∀ p ∈ m, p.2.length ≤ N) : ∀ p ∈ addM m a x, p.2.length ≤ N + 1 := fun p hp => by
  unfold addM at hp
  split at hp
  · obtain ⟨q, hq, rfl⟩ := List.mem_map.mp hp
    have := h q hq
    split
    · simp; omega
    · omega
  · rcases List.mem_append.mp hp with hp | hp
    · have := h p hp; omega
    · cases List.mem_singleton.mp hp; simp
structure ChgOk (gap : Int) (l : List Wk) (m : DM) : Prop where
  nd : (m.map (·.1)).Nodup
  len : m.length ≤ 2 * l.length
  row : ∀ p ∈ m, p.2.length ≤ 2 * l.length
  get : ∀ k, getL m k = (evs gap k l).map dP
  key : ∀ k, k ∈ m.map (·.1) ↔ ∃ v ∈ l, v.1 = k ∨ v.2.1 = k
theorem chg_nil (gap : Int) : ChgOk gap [] [] := ⟨by simp, by simp, by simp, fun k => rfl, by simp⟩
theorem evs_app {gap p : Int} {l : List Wk} {v : Wk} : evs gap p (l ++ [v]) = evs gap p l ++ evW gap p v := by simp [evs]
theorem ChgOk.add {gap : Int} {l : List Wk} {m : DM} (h : ChgOk gap l m) (v : Wk) : ChgOk gap (l ++ [v]) (chg1 gap m v) := by
  refine ⟨addM_nd (addM_nd h.nd), ?_, ?_, fun k => ?_, fun k => ?_⟩
  · have := @addM_len (addM m v.1 (dP (v.2.2.1, 1))) v.2.1 (dP (v.2.2.2 + gap, -1))
    have := @addM_len m v.1 (dP (v.2.2.1, 1))
    have := h.len
    unfold chg1
    rw [List.length_append, List.length_singleton]; omega
  · intro p hp
    have := addM_row (addM_row h.row) p hp
    rw [List.length_append, List.length_singleton]; omega
  · unfold chg1
    rw [getL_add, getL_add, h.get, evs_app, List.map_append]
    unfold evW
    by_cases h1 : v.1 = k <;> by_cases h2 : v.2.1 = k <;> simp [h1, h2]
  · unfold chg1
    rw [addM_keys, addM_keys, h.key]
    simp only [List.mem_append, List.mem_singleton]
    constructor
    · rintro (e | e | ⟨u, hu, e⟩)
      · exact ⟨v, .inr rfl, .inr e.symm⟩
      · exact ⟨v, .inr rfl, .inl e.symm⟩
      · exact ⟨u, .inl hu, e⟩
    · rintro ⟨u, hu | rfl, e⟩
      · exact .inr (.inr ⟨u, hu, e⟩)
      · exact e.elim (fun e => .inr (.inl e.symm)) fun e => .inl e.symm
theorem chg_snoc {gap : Int} {l : List Wk} {v : Wk} : chg gap (l ++ [v]) = chg1 gap (chg gap l) v := by simp [chg]
theorem chg_ok (gap : Int) (l : List Wk) : ChgOk gap l (chg gap l) := by
  have key : ∀ n, ∀ l : List Wk, l.length = n → ChgOk gap l (chg gap l) := fun n => by
    induction n with
    | zero => intro l h; rw [List.length_eq_zero_iff.mp h]; exact chg_nil gap
    | succ n ih =>
      intro l h
      have hne : l ≠ [] := by rintro rfl; simp at h
      rw [← List.dropLast_concat_getLast hne, chg_snoc]
      exact (ih _ (by rw [List.length_dropLast]; omega)).add _
  exact key _ l rfl
/-! the greatest surplus -/
def sm : List (Int × Int) → Int → Int
  | [], _ => 0
  | (m, c) :: l, x => (if m ≤ x then c else 0) + sm l x
theorem sm_app {l k : List (Int × Int)} {x : Int} : sm (l ++ k) x = sm l x + sm k x := by
  induction l with
  | nil => simp [sm]
  | cons p l ih => obtain ⟨m, c⟩ := p; simp only [List.cons_append, sm, ih]; omega
theorem sm_perm {l k : List (Int × Int)} (h : l.Perm k) (x : Int) : sm l x = sm k x := by
  induction h with
  | nil => rfl
  | cons p _ ih => obtain ⟨m, c⟩ := p; simp only [sm, ih]
  | swap p q l => obtain ⟨m, c⟩ := p; obtain ⟨n, d⟩ := q; simp only [sm]; omega
  | trans _ _ h1 h2 => exact h1.trans h2
theorem sm_low {l : List (Int × Int)} {x : Int} (h : ∀ p ∈ l, x < p.1) : sm l x = 0 := by
  induction l with
  | nil => rfl
  | cons p l ih =>
    obtain ⟨m, c⟩ := p
    have h1 := h (m, c) List.mem_cons_self
    have h1' : x < m := h1
    simp only [sm]
    rw [if_neg (by omega), ih fun q hq => h q (List.mem_cons_of_mem _ hq)]; rfl
theorem sm_pos {l : List (Int × Int)} {x : Int} (h : ∀ p ∈ l, x < p.1 ∨ 0 ≤ p.2) : 0 ≤ sm l x := by
  induction l with
  | nil => exact Int.le_refl _
  | cons p l ih =>
    obtain ⟨m, c⟩ := p
    have h1 := h (m, c) List.mem_cons_self
    have h2 := ih fun q hq => h q (List.mem_cons_of_mem _ hq)
    simp only [sm] at *
    split <;> omega
theorem sm_same {l : List (Int × Int)} {x y : Int} (h : ∀ p ∈ l, p.1 ≤ x ↔ p.1 ≤ y) : sm l x = sm l y := by
  induction l with
  | nil => rfl
  | cons p l ih =>
    obtain ⟨m, c⟩ := p
    have h1 : m ≤ x ↔ m ≤ y := h (m, c) List.mem_cons_self
    simp only [sm, ih fun q hq => h q (List.mem_cons_of_mem _ hq)]
    by_cases z : m ≤ x
    · rw [if_pos z, if_pos (h1.mp z)]
    · rw [if_neg z, if_neg fun w => z (h1.mpr w)]
abbrev TopV := Int × Option Int
def IsTop (S : Int → Int) (r : TopV) : Prop := (r = (0, none) ∧ ∀ x, S x ≤ 0) ∨ ∃ g m, r = (g, some m) ∧ 0 < g ∧ S m = g ∧ (∀ x, S x ≤ g) ∧ ∀ x, x < m → S x < g
theorem top_uniq {S : Int → Int} {r r' : TopV} (h : IsTop S r) (h' : IsTop S r') : r = r' := by
  rcases h with ⟨rfl, h⟩ | ⟨g, m, rfl, h0, h1, h2, h3⟩ <;> rcases h' with ⟨rfl, h'⟩ | ⟨g', m', rfl, h0', h1', h2', h3'⟩
  · rfl
  · have := h m'; omega
  · have := h' m; omega
  · have a := h2 m'
    have b := h2' m
    have e : g = g' := by omega
    subst e
    have : m = m' := by
      rcases Int.lt_trichotomy m m' with z | z | z
      · have := h3' m z; omega
      · exact z
      · have := h3 m' z; omega
    rw [this]
def goS : List (Int × Int) → Int → TopV → TopV
  | [], _, r => r
  | (m, c) :: l, s, r => if s + c > r.1 then goS l (s + c) (s + c, some m) else goS l (s + c) r
theorem goS_snoc {m c : Int} : ∀ {l : List (Int × Int)} {s : Int} {r : TopV}, goS (l ++ [(m, c)]) s r = if (s + (l.map (·.2)).sum) + c > (goS l s r).1 then (s + (l.map (·.2)).sum + c, some m) else goS l s r
  | [], s, r => by simp [goS]
  | (m', c') :: l, s, r => by
    simp only [List.cons_append, goS, List.map_cons, List.sum_cons]
    split <;> rw [goS_snoc] <;> rw [show s + c' + (l.map (·.2)).sum = s + (c' + (l.map (·.2)).sum) by omega]
theorem goS_ok : ∀ {l : List (Int × Int)} {s g : Int} {a : Option Int}, l.Pairwise lexLe → (∀ p ∈ l, p.2 = 1 ∨ p.2 = -1) → s ≤ g →
    (goS l s (g, a) = (g, a) ∧ ∀ x, s + sm l x ≤ g) ∨ ∃ g' m, goS l s (g, a) = (g', some m) ∧ g < g' ∧ s + sm l m = g' ∧ (∀ x, s + sm l x ≤ g') ∧ ∀ x, x < m → s + sm l x < g'
  | [], s, g, a, _, _, h => .inl ⟨rfl, fun x => by simp [sm]; exact h⟩
  | (m, c) :: l, s, g, a, hp, hc, h => by
    obtain ⟨p1, p2⟩ := List.pairwise_cons.mp hp
    have c1 : c = 1 ∨ c = -1 := hc (m, c) List.mem_cons_self
    have hc2 := fun p hp => hc p (List.mem_cons_of_mem _ hp)
    have lo : ∀ x, x < m → sm l x = 0 := fun x hx => sm_low fun p hp => by
      have := p1 p hp; unfold lexLe at this; simp at this; omega
    have w1 : ∀ x, x < m → sm ((m, c) :: l) x = 0 := fun x hx => by simp only [sm]; rw [if_neg (by omega), lo x hx]; rfl
    have w2 : ∀ x, m ≤ x → sm ((m, c) :: l) x = c + sm l x := fun x hx => by simp only [sm]; rw [if_pos hx]
    simp only [goS]
    by_cases q : s + c > g
    · rw [if_pos q]
      have ec : c = 1 := by omega
      rcases goS_ok (g := s + c) (a := some m) p2 hc2 (Int.le_refl _) with ⟨e, k⟩ | ⟨g', m', e, k1, k2, k3, k4⟩
      · refine .inr ⟨s + c, m, e, q, ?_, fun x => ?_, fun x hx => ?_⟩
        · rw [w2 m (Int.le_refl _)]
          have z1 := k m
          have z2 : 0 ≤ sm l m := sm_pos fun p hp => by
            have := p1 p hp; unfold lexLe at this; simp at this; omega
          omega
        · by_cases z : x < m
          · rw [w1 x z]; omega
          · rw [w2 x (by omega)]; have := k x; omega
        · rw [w1 x hx]; omega
      · have hm : m ≤ m' := Int.not_lt.mp fun z => by rw [lo m' z] at k2; omega
        refine .inr ⟨g', m', e, by omega, by rw [w2 m' hm]; omega, fun x => ?_, fun x hx => ?_⟩
        · by_cases z : x < m
          · rw [w1 x z]; omega
          · rw [w2 x (by omega)]; have := k3 x; omega
        · by_cases z : x < m
          · rw [w1 x z]; omega
          · rw [w2 x (by omega)]; have := k4 x hx; omega
    · rw [if_neg q]
      rcases goS_ok (g := g) (a := a) p2 hc2 (show s + c ≤ g by omega) with ⟨e, k⟩ | ⟨g', m', e, k1, k2, k3, k4⟩
      · refine .inl ⟨e, fun x => ?_⟩
        by_cases z : x < m
        · rw [w1 x z]; omega
        · rw [w2 x (by omega)]; have := k x; omega
      · have hm : m ≤ m' := Int.not_lt.mp fun z => by rw [lo m' z] at k2; omega
        refine .inr ⟨g', m', e, k1, by rw [w2 m' hm]; omega, fun x => ?_, fun x hx => ?_⟩
        · by_cases z : x < m
          · rw [w1 x z]; omega
          · rw [w2 x (by omega)]; have := k3 x; omega
        · by_cases z : x < m
          · rw [w1 x z]; omega
          · rw [w2 x (by omega)]; have := k4 x hx; omega
/-- what the program tells -/
def topP (l : List (Int × Int)) : TopV := goS (srtP l) 0 (0, none)
theorem topP_ok {l : List (Int × Int)} (h : ∀ p ∈ l, p.2 = 1 ∨ p.2 = -1) : IsTop (sm l) (topP l) := by
  have e : ∀ x, sm (srtP l) x = sm l x := fun x => sm_perm (srtP_perm l) x
  rcases goS_ok (g := 0) (s := 0) (a := none) (srtP_sorted l) (fun p hp => h p ((srtP_perm l).mem_iff.mp hp)) (Int.le_refl _) with ⟨e1, k⟩ | ⟨g', m, e1, k1, k2, k3, k4⟩
  · exact .inl ⟨e1, fun x => by have := k x; rw [e] at this; omega⟩
  · exact .inr ⟨g', m, e1, k1, by rw [e] at k2; omega, fun x => by have := k3 x; rw [e] at this; omega, fun x hx => by have := k4 x hx; rw [e] at this; omega⟩
theorem evs_one {gap p : Int} {l : List Wk} : ∀ q ∈ evs gap p l, q.2 = 1 ∨ q.2 = -1 := fun q hq => by
  obtain ⟨v, _, h⟩ := List.mem_flatMap.mp hq
  unfold evW at h
  rcases List.mem_append.mp h with h | h <;> split at h <;> simp at h <;> simp [h]
/-- what the law tells -/
def goL (S : Int → Int) (r : TopV) (m : Int) : TopV := if S m > r.1 then (S m, some m) else r
theorem goL_ok {S : Int → Int} : ∀ {L : List Int} {g : Int} {a : Option Int}, L.Pairwise (· ≤ ·) → (L.foldl (goL S) (g, a) = (g, a) ∧ ∀ y ∈ L, S y ≤ g) ∨ ∃ g' m, L.foldl (goL S) (g, a) = (g', some m) ∧ g < g' ∧ S m = g' ∧ (∀ y ∈ L, S y ≤ g') ∧ ∀ y ∈ L, y < m → S y < g'
  | [], g, a, _ => .inl ⟨rfl, by simp⟩
  | y :: L, g, a, h => by
    obtain ⟨h1, h2⟩ := List.pairwise_cons.mp h
    simp only [List.foldl_cons]
    by_cases q : S y > g
    · rw [show goL S (g, a) y = (S y, some y) from if_pos q]
      rcases goL_ok (S := S) (g := S y) (a := some y) h2 with ⟨e, k⟩ | ⟨g', m, e, k1, k2, k3, k4⟩
      · refine .inr ⟨S y, y, e, q, rfl, fun z hz => ?_, fun z hz hl => ?_⟩
        · rcases List.mem_cons.mp hz with rfl | hz
          · omega
          · exact k z hz
        · rcases List.mem_cons.mp hz with rfl | hz
          · omega
          · have := h1 z hz; omega
      · refine .inr ⟨g', m, e, by omega, k2, fun z hz => ?_, fun z hz hl => ?_⟩
        · rcases List.mem_cons.mp hz with rfl | hz
          · omega
          · exact k3 z hz
        · rcases List.mem_cons.mp hz with rfl | hz
          · omega
          · exact k4 z hz hl
    · rw [show goL S (g, a) y = (g, a) from if_neg q]
      rcases goL_ok (S := S) (g := g) (a := a) h2 with ⟨e, k⟩ | ⟨g', m, e, k1, k2, k3, k4⟩
      · refine .inl ⟨e, fun z hz => ?_⟩
        rcases List.mem_cons.mp hz with rfl | hz
        · omega
        · exact k z hz
      · refine .inr ⟨g', m, e, k1, k2, fun z hz => ?_, fun z hz hl => ?_⟩
        · rcases List.mem_cons.mp hz with rfl | hz
          · omega
          · exact k3 z hz
        · rcases List.mem_cons.mp hz with rfl | hz
          · omega
          · exact k4 z hz hl
theorem sm_at {l : List (Int × Int)} (x : Int) : (∀ p ∈ l, x < p.1) ∨ ∃ y ∈ l.map (·.1), y ≤ x ∧ ∀ p ∈ l, p.1 ≤ x → p.1 ≤ y := by
  induction l with
  | nil => exact .inl (by simp)
  | cons p l ih =>
    obtain ⟨m, c⟩ := p
    by_cases hm : m ≤ x
    · right
      rcases ih with h | ⟨y, hy, h1, h2⟩
      · refine ⟨m, by simp, hm, fun q hq hx => ?_⟩
        rcases List.mem_cons.mp hq with rfl | hq
        · exact Int.le_refl _
        · have := h q hq; omega
      · by_cases z : m ≤ y
        · refine ⟨y, List.mem_cons_of_mem _ hy, h1, fun q hq hx => ?_⟩
          rcases List.mem_cons.mp hq with rfl | hq
          · exact z
          · exact h2 q hq hx
        · refine ⟨m, by simp, hm, fun q hq hx => ?_⟩
          rcases List.mem_cons.mp hq with rfl | hq
          · exact Int.le_refl _
          · have := h2 q hq hx; omega
    · rcases ih with h | ⟨y, hy, h1, h2⟩
      · left
        intro q hq
        rcases List.mem_cons.mp hq with rfl | hq
        · show x < m; omega
        · exact h q hq
      · right
        refine ⟨y, List.mem_cons_of_mem _ hy, h1, fun q hq hx => ?_⟩
        rcases List.mem_cons.mp hq with rfl | hq
        · exact absurd hx hm
        · exact h2 q hq hx
theorem topL_ok {l : List (Int × Int)} {L : List Int} (hs : L.Pairwise (· ≤ ·)) (hm : ∀ p ∈ l, p.1 ∈ L) : IsTop (sm l) (L.foldl (goL (sm l)) (0, none)) := by
  have at' : ∀ x, sm l x = 0 ∨ ∃ y ∈ L, y ≤ x ∧ sm l x = sm l y := fun x => by
    rcases sm_at (l := l) x with h | ⟨y, hy, h1, h2⟩
    · exact .inl (sm_low h)
    · obtain ⟨p, hp, rfl⟩ := List.mem_map.mp hy
      exact .inr ⟨p.1, hm p hp, h1, sm_same fun q hq => ⟨h2 q hq, fun z => by omega⟩⟩
  rcases goL_ok (S := sm l) (g := 0) (a := none) hs with ⟨e, k⟩ | ⟨g', m, e, k1, k2, k3, k4⟩
  · refine .inl ⟨e, fun x => ?_⟩
    rcases at' x with h | ⟨y, hy, _, h⟩
    · omega
    · rw [h]; exact k y hy
  · refine .inr ⟨g', m, e, k1, k2, fun x => ?_, fun x hx => ?_⟩
    · rcases at' x with h | ⟨y, hy, _, h⟩
      · omega
      · rw [h]; exact k3 y hy
    · rcases at' x with h | ⟨y, hy, hl, h⟩
      · omega
      · rw [h]; exact k4 y hy (by omega)
def leftN (p : Int) (l : List Wk) (m : Int) : List Wk := l.filter fun v => decide (v.1 = p ∧ v.2.2.1 ≤ m)
def readyN (p gap : Int) (l : List Wk) (m : Int) : List Wk := l.filter fun v => decide (v.2.1 = p ∧ v.2.2.2 + gap ≤ m)
theorem surplus_eq {p gap m : Int} {l : List Wk} : ((leftN p l m).length : Int) - ((readyN p gap l m).length : Int) = sm (evs gap p l) m := by
  induction l with
  | nil => rfl
  | cons v l ih =>
    have e : sm (evs gap p (v :: l)) m = sm (evW gap p v) m + sm (evs gap p l) m := by
      show sm (evW gap p v ++ evs gap p l) m = _
      exact sm_app
    rw [e, ← ih]
    unfold leftN readyN evW
    rw [sm_app]
    by_cases h1 : v.1 = p <;> by_cases h2 : v.2.1 = p <;> by_cases h3 : v.2.2.1 ≤ m <;> by_cases h4 : v.2.2.2 + gap ≤ m <;> simp [h1, h2, h3, h4, sm] <;> omega
/-- the moments of all workings -/
def momW (gap : Int) (l : List Wk) : List Int := l.map (fun v => v.2.2.1) ++ l.map (fun v => v.2.2.2 + gap)
theorem evs_mom {gap p : Int} {l : List Wk} : ∀ q ∈ evs gap p l, q.1 ∈ momW gap l := fun q hq => by
  obtain ⟨v, hv, h⟩ := List.mem_flatMap.mp hq
  unfold evW at h
  unfold momW
  rw [List.mem_append]
  rcases List.mem_append.mp h with h | h <;> split at h <;> simp at h <;> subst h
  · exact .inl (List.mem_map.mpr ⟨v, hv, rfl⟩)
  · exact .inr (List.mem_map.mpr ⟨v, hv, rfl⟩)
theorem due_eq {gap p : Int} {l : List Wk} {L : List Int} (hs : L.Pairwise (· ≤ ·)) (hp : L.Perm (momW gap l)) : L.foldl (goL (sm (evs gap p l))) (0, none) = topP (evs gap p l) :=
  top_uniq (topL_ok hs fun q hq => hp.mem_iff.mpr (evs_mom q hq)) (topP_ok evs_one)
/-! the sets of all places -/
def topAt (gap : Int) (l : List Wk) (p : Int) : Int := (topP (evs gap p l)).1
def setsOf (gap : Int) (l : List Wk) (ps : List Int) : List (Int × Int) := (ps.map fun p => (p, topAt gap l p)).filter fun q => decide (q.2 > 0)
theorem topP_nil : topP [] = (0, none) := by simp [topP, srtP, goS]
theorem evs_nokey {gap p : Int} {l : List Wk} (h : ¬ ∃ v ∈ l, v.1 = p ∨ v.2.1 = p) : evs gap p l = [] := by
  unfold evs
  rw [List.flatMap_eq_nil_iff]
  intro v hv
  unfold evW
  rw [if_neg fun e => h ⟨v, hv, .inl e⟩, if_neg fun e => h ⟨v, hv, .inr e⟩]; rfl
theorem asc_uniq : ∀ {a b : List Int}, a.Pairwise (· < ·) → b.Pairwise (· < ·) → (∀ x, x ∈ a ↔ x ∈ b) → a = b := fun {a b} h1 h2 h => by
  have p : a.Perm b := (List.perm_ext_iff_of_nodup (h1.imp fun z => Int.ne_of_lt z) (h2.imp fun z => Int.ne_of_lt z)).mpr h
  exact int_uniq p (h1.imp Int.le_of_lt) (h2.imp Int.le_of_lt)
theorem sets_eq {gap : Int} {l : List Wk} {ks ps : List Int} (h1 : ks.Pairwise (· < ·)) (h2 : ps.Pairwise (· < ·)) (hk : ∀ k, k ∈ ks ↔ ∃ v ∈ l, v.1 = k ∨ v.2.1 = k) (hp : ∀ v ∈ l, v.1 ∈ ps ∧ v.2.1 ∈ ps) : setsOf gap l ks = setsOf gap l ps := by
  have f : ∀ qs : List Int, setsOf gap l qs = (qs.filter fun p => decide (topAt gap l p > 0)).map fun p => (p, topAt gap l p) := fun qs => by
    unfold setsOf
    rw [List.filter_map]
    rfl
  rw [f, f]
  congr 1
  refine asc_uniq (h1.filter _) (h2.filter _) fun x => ?_
  simp only [List.mem_filter, decide_eq_true_eq]
  refine ⟨fun ⟨a, b⟩ => ⟨?_, b⟩, fun ⟨a, b⟩ => ⟨(hk x).mpr (Classical.byContradiction fun z => ?_), b⟩⟩
  · obtain ⟨v, hv, e⟩ := (hk x).mp a
    rcases e with rfl | rfl
    · exact (hp v hv).1
    · exact (hp v hv).2
  · unfold topAt at b
    rw [evs_nokey z, topP_nil] at b
    exact absurd b (by decide)
end Lw

set_option Elab.async false
set_option linter.all false
set_option maxRecDepth 100000
set_option maxHeartbeats 4000000
/-! stock: promises -/
namespace Lw
open PySem PySem.Spec L2
open Evl (Ex)
theorem hu1 {k : Nat} {A : Around} (r : Room k A) : A.units + 1 < cLine := by have := r.un; omega
section
variable {K : PySem.W.Frag} {σ : L2.St} {G G' H H1 : Hp} {D : Ends} {CB : Addr}
theorem dpa_ints4 {vs : List V} {a b c d : Int} (h : DpAll K G vs [.int a, .int b, .int c, .int d]) : vs = [.int a, .int b, .int c, .int d] := dpa_ints_eq (zs := [a, b, c, d]) h
theorem dpa_ints2 {vs : List V} {a b : Int} (h : DpAll K G vs [.int a, .int b]) : vs = [.int a, .int b] := dpa_ints_eq (zs := [a, b]) h
theorem dp_W {x : V} {v : Wk} (h : Dp K G x (dW v)) : ∃ b, x = .ref b ∧ SqT K G b [.int v.1, .int v.2.1, .int v.2.2.1, .int v.2.2.2] := by
  obtain ⟨b, xs, e, hs, hx⟩ := dp_tup h
  rw [dpa_ints4 hx] at hs
  exact ⟨b, e, hs⟩
theorem dp_P {x : V} {p : Int × Int} (h : Dp K G x (dP p)) : ∃ b, x = .ref b ∧ SqT K G b [.int p.1, .int p.2] := by
  obtain ⟨b, xs, e, hs, hx⟩ := dp_tup h
  rw [dpa_ints2 hx] at hs
  exact ⟨b, e, hs⟩
def dOpt : Option Int → PyData
  | none => .none
  | some m => .int m
def dTop (r : TopV) : PyData := .tuple [.int r.1, dOpt r.2]
def vOpt : Option Int → V
  | none => .non
  | some m => .int m
theorem dp_opt {o : Option Int} : Dp K G (vOpt o) (dOpt o) := by
  cases o
  · exact .non
  · exact .int _
def spCheckW (K : PySem.W.Frag) (CB : Addr) : Sp := fun vs H Q E => ∃ (G : Hp) (a : Addr) (ws : List Wk), Ex G H ∧ vs = [.ref a] ∧ Dp K G (.ref a) (dWs ws) ∧ (badAt ws = none → Ret G H (XV .non) Q) ∧ ∀ i : Nat, badAt ws = some i → Rse CB [("index", .int (i : Int))] G H E
theorem st_checkW {ws : List Wk} {a : Addr} {E : L2.St → XK} {ta : TE} (hG : Ex G H) (ha : EF ta σ G (XV (.ref a))) (hd : Dp K G (.ref a) (dWs ws)) (k0 : badAt ws = none → ∀ H', Ex H H' → D.nx σ H') (k1 : ∀ i : Nat, badAt ws = some i → Rse CB [("index", .int (i : Int))] G H (E σ)) :
    tDrop (tCallSD (spCheckW K CB) [] E (tCons ta tNil)) D σ H :=
  st_callX hG (ea_one ha) fun vs G' H' g ⟨x, ev, hx⟩ => by
    cases (show x = .ref a from hx)
    subst ev
    exact ⟨G', a, ws, g.ok, rfl, dpx hd g.up, fun hb v G2 H2 g2 _ => k0 hb H2 (g.hp.trans g2.hp), fun i hi => (k1 i hi).up g⟩
def spChanges (K : PySem.W.Frag) : Sp := fun vs H Q _ => ∃ (G : Hp) (a : Addr) (ws : List Wk) (gap : Int), Ex G H ∧ vs = [.ref a, .int gap] ∧ Dp K G (.ref a) (dWs ws) ∧ ws.length ≤ 200 ∧ Ret G H (fun v G' => ∃ d, v = .ref d ∧ DkAt K G' d (chg gap ws)) Q
theorem sa_changes {a : Addr} {ws : List Wk} {gap : Int} (hd : Dp K G (.ref a) (dWs ws)) (hl : ws.length ≤ 200) : SA (spChanges K) [.ref a, .int gap] G (fun v G' => ∃ d, v = .ref d ∧ DkAt K G' d (chg gap ws)) := fun H e Q _ q => ⟨G, a, ws, gap, e, rfl, hd, hl, q⟩
def spGS (K : PySem.W.Frag) : Sp := fun vs H Q _ => ∃ (G : Hp) (x : V) (l : List (Int × Int)), Ex G H ∧ vs = [x] ∧ Dp K G x (dPs l) ∧ Ret G H (DV K (dTop (topP l))) Q
theorem sa_gs {x : V} {l : List (Int × Int)} (hd : Dp K G x (dPs l)) : SA (spGS K) [x] G (DV K (dTop (topP l))) := fun H e Q _ q => ⟨G, x, l, e, rfl, hd, q⟩
/-- what deficit and least_sets do -/
def spDeficit (K : PySem.W.Frag) (CB : Addr) : Sp := fun vs H Q E => ∃ (G : Hp) (a : Addr) (ws : List Wk) (p gap : Int), Ex G H ∧ vs = [.ref a, .int p, .int gap] ∧ Dp K G (.ref a) (dWs ws) ∧ ws.length ≤ 200 ∧ (badAt ws = none → Ret G H (DV K (dTop (topP (evs gap p ws)))) Q) ∧ ∀ i : Nat, badAt ws = some i → Rse CB [("index", .int (i : Int))] G H E
def spLeast (K : PySem.W.Frag) (CB : Addr) : Sp := fun vs H Q E => ∃ (G : Hp) (a : Addr) (ws : List Wk) (gap : Int), Ex G H ∧ vs = [.ref a, .int gap] ∧ Dp K G (.ref a) (dWs ws) ∧ ws.length ≤ 200 ∧ (badAt ws = none → ∀ ks : List Int, ks.Pairwise (· < ·) → (∀ k, k ∈ ks ↔ ∃ v ∈ ws, v.1 = k ∨ v.2.1 = k) → Ret G H (DV K (dPs (setsOf gap ws ks))) Q) ∧ ∀ i : Nat, badAt ws = some i → Rse CB [("index", .int (i : Int))] G H E
theorem st_par2 {i j : Nat} {x y : V} {ta tb : TE} (hG : Ex G H) (ha : EF ta σ G (XV x)) (hb : EF tb σ G (XV y)) (k : ∀ G' H', Gr G G' H H' → D.nx ((σ.set i (some x)).set j (some y)) H') : tPar i j (tCons ta (tCons tb tNil)) D σ H :=
  (ea_two mo_XV mo_XV ha hb) H hG _ fun vs G' H' g ⟨u, v, ev, hu, hv⟩ => by
    cases (show u = x from hu)
    cases (show v = y from hv)
    exact ⟨_, _, ev, k G' H' g⟩
theorem getM_L {m : DM} {k : Int} (h : k ∈ m.map (·.1)) : getM m k = some (getL m k) := by
  unfold getL
  cases e : getM m k with
  | none => exact absurd h (getM_none.mp e)
  | some ps => rfl
theorem mo_dk {m : DM} : Mo fun v G => ∃ d, v = .ref d ∧ DkAt K G d m := fun v G G' e ⟨d, h1, h2⟩ => ⟨d, h1, h2.ex e⟩
end
end Lw

set_option Elab.async false
set_option linter.all false
set_option maxRecDepth 100000
set_option maxHeartbeats 4000000
/-! comprehensions over lists of tuples -/
namespace Lw
open PySem PySem.Spec L2
open Evl (Ex)
section
variable {K : PySem.W.Frag} {σ : L2.St} {G G' H H1 : Hp} {D : Ends} {te tl : TE} {t : TT} {P : VP}
/-- d.get(k, x) of a dict that a call tells -/
theorem ef_dgetC {m : DM} {k : Int} {td tk tx : TE} (hd : EF td σ G fun v G' => ∃ d, v = .ref d ∧ DkAt K G' d m) (hk : EF tk σ G (XV (.int k))) (hx : EF tx σ G (DV K (.list []))) : EF (tDGet2 td tk tx) σ G (DV K (.list (getL m k))) := fun H e Q q =>
  hd H e _ fun v G1 H1 g1 ⟨d, ev, hm⟩ => by
    subst ev
    obtain ⟨kvs, h1, h2, h3⟩ := hm
    refine ⟨d, rfl, .inl ⟨kvs, .inl (g1.ok _ _ h1)⟩, hk H1 (e.trans g1.hp) _ fun y G2 H2 g2 py => ?_⟩
    cases (show y = .int k from py)
    refine hx H2 (e.trans (g1.hp.trans g2.hp)) _ fun z G3 H3 g3 pz => ?_
    obtain ⟨G5, f1, f2, g5⟩ := g2.join g3
    obtain ⟨G4, e1, e2, g4⟩ := g1.join g5
    refine ⟨valV kvs (.inl k : Key), .inl ⟨kvs, .inl k, .inl (g4.ok _ _ (e1 _ _ h1)), rfl, rfl⟩, ?_⟩
    rcases valM (k := k) h2 h3 with ⟨a, b⟩ | ⟨u, ps, a, b, c⟩
    · rw [b]
      exact q z G4 H3 g4 (by unfold getL; rw [a]; exact dpx pz (f2.trans e2))
    · rw [b]
      exact q u G4 H3 g4 (by unfold getL; rw [a]; exact dpx c e1)
/-- a comprehension whose target is a pattern -/
theorem ef_lcG {xs : List V} {g : TG} {vs : List Nat} (σs : Nat → L2.St) (I : Nat → List V → Hp → Prop) (h : EF tl σ G fun v G' => ∃ a, v = .ref a ∧ SqL K G' a xs) (hz : xs.length ≤ 40000) (hw : ∀ i, i < xs.length → wipe (σs i) vs = wipe σ vs)
    (hg : ∀ (i : Nat) x H' (Q : L2.St → Hp → Prop), xs[i]? = some x → Ex G H' → Q (σs i) H' → g x (wipe σ vs) H' Q) (h0 : ∀ G', Ex G G' → I 0 [] G')
    (hs : ∀ (i : Nat) x acc G', Ex G G' → xs[i]? = some x → I i acc G' → EC t te (σs i) G' (fun G' => I (i + 1) acc G') fun y G' => I (i + 1) (acc ++ [y]) G')
    (hP : ∀ p acc G', G p = none → G' p = none → Ex G G' → acc.length ≤ xs.length → I xs.length acc G' → P (.ref p) (upd G' p (.lst acc))) : EF (tLc (iList K tl) g t te vs) σ G P := fun H0 e Q q => h H0 e _ fun v G1 H1 g1 ⟨a, ev, hx⟩ => ⟨a, ev, ⟨xs, Evl.ex_l g1.ok hx⟩, fun Dl hD =>
  lc_list (xs := xs) (CW G1 H1 Dl I) (cw_start g1.ok hD (h0 G1 g1.up)) (fun i H' _ p => by
    obtain ⟨G', _, e1, e2, _⟩ := p
    exact Evl.ex_l (e1.trans e2) hx) (fun i x H' hi p => by
      have hlt := (List.getElem?_eq_some_iff.mp hi).1
      refine hg i x H' _ hi ?_ ⟨hw i hlt, cw_turn hD p (by omega) fun acc G' e' hI => hs i x acc G' (g1.up.trans e') hi hI⟩
      obtain ⟨G', _, e1, e2, _⟩ := p
      exact g1.up.trans (e1.trans e2))
    (fun H' p => cw_end (P := P) hD g1.ok p (fun p xs G' g g' e' hl hI => hP p xs G' (none_back g1.up g) g' (g1.up.trans e') hl hI) fun v G' H' g' p' => q v G' H' (g1.trans g') p')⟩
/-- [f(x) for x in xs] -/
theorem el_mapX {xs : List V} {j : Nat} {g : Nat → PyData} (h : EF tl σ G fun v G' => ∃ a, v = .ref a ∧ SqL K G' a xs) (hz : xs.length ≤ 40000) (hw : ∀ x, wipe ((wipe σ [j]).set j (some x)) [j] = wipe σ [j])
    (he : ∀ (i : Nat) x G', Ex G G' → xs[i]? = some x → EF te ((wipe σ [j]).set j (some x)) G' (DV K (g i))) : EF (tLc (iList K tl) (gName j) tYes te [j]) σ G (LS K ((List.range xs.length).map g)) :=
  ef_lcL (fun i acc G' => DpAll K G' acc ((List.range i).map g)) h hz hw (fun _ _ => .nil) (fun i x acc G' e hi hI => ec_all ((he i x G' e hi).imp fun v G2 e2 p => by
      rw [List.range_succ, List.map_append]
      exact dpa_snoc (dpax hI e2) p)) fun p acc G' _ h2 _ _ hI => ⟨p, acc, rfl, upd_same, dpax hI (ex_in h2)⟩
/-- [(a, b) for a, b in js if b > 0] -/
theorem el_posP {a : Addr} {xs : List V} {js : List (Int × Int)} {i j : Nat} (h : EF tl σ G (XV (.ref a))) (hx : SqL K G a xs) (hd : DpAll K G xs (js.map dP)) (hl : js.length ≤ 40000) (hij : ∀ p q, wipe (((wipe σ [i, j]).set i p).set j q) [i, j] = wipe σ [i, j])
    (h1 : ∀ p q, (((wipe σ [i, j]).set i p).set j q)[i]? = some p) (h2 : ∀ p q, (((wipe σ [i, j]).set i p).set j q)[j]? = some q) :
    EF (tLc (iList K tl) (gTup K 2 (gCons (gName i) (gCons (gName j) gNil))) (tTest (tOp (rI0 fun i j => .bl (decide (i > j))) (tVar j) (tC (.int 0)))) (tTup (tCons (tVar i) (tCons (tVar j) tNil))) [i, j]) σ G (LS K ((js.filter fun q => decide (q.2 > 0)).map dP)) := by
  have hlen : xs.length = js.length := by have := dpa_len hd; rw [List.length_map] at this; exact this
  refine ef_lcG (xs := xs) (fun n => match js[n]? with | some p => ((wipe σ [i, j]).set i (some (.int p.1))).set j (some (.int p.2)) | none => []) (fun n acc G' => DpAll K G' acc (((js.take n).filter fun q => decide (q.2 > 0)).map dP)) (h.imp fun v G' e p => ⟨a, p, Evl.ex_l e hx⟩) (by omega) (fun n hn => ?_) (fun n x H' Q hn e q => ?_) (fun _ _ => by simpa using DpAll.nil) (fun n x acc G' e hn hI => ?_) fun p acc G' _ hp _ _ hI => ⟨p, acc, rfl, upd_same, dpax (by rw [List.take_of_length_le (by omega)] at hI; exact hI) (ex_in hp)⟩
  · rw [List.getElem?_eq_getElem (by omega)]
    exact hij _ _
  · obtain ⟨dd, hd1, dy⟩ := dpa_get hd hn
    rw [List.getElem?_map] at hd1
    obtain ⟨p, hp, rfl⟩ := Option.map_eq_some_iff.mp hd1
    obtain ⟨b, rfl, hb⟩ := dp_P dy
    rw [hp] at q
    exact g_two (Evl.ex_t e hb) q
  · obtain ⟨dd, hd1, dy⟩ := dpa_get hd hn
    rw [List.getElem?_map] at hd1
    obtain ⟨p, hp, rfl⟩ := Option.map_eq_some_iff.mp hd1
    have tk : js.take (n + 1) = js.take n ++ [p] := by rw [List.take_succ, hp, Option.toList_some]
    rw [tk, List.filter_append]
    simp only [hp]
    refine ec_if (p := (· = decide (p.2 > 0))) (et_gtI (ex_var (h2 _ _)) ex_c) (fun hb => EF.imp (P := DV K (dP p)) (ef_pairI (ex_var (h1 _ _)) (ex_var (h2 _ _))) fun v G2 e2 pv => ?_) (fun hb => ?_)
    · rw [show ([p].filter fun q => decide (q.2 > 0)) = [p] by simp [of_decide_eq_true hb.symm], List.map_append]
      exact dpa_snoc (dpax hI e2) pv
    · rw [show ([p].filter fun q => decide (q.2 > 0)) = [] by simp; exact Int.not_lt.mp (of_decide_eq_false hb.symm), List.append_nil]
      exact hI
/-- sorted(a new list of ints) -/
theorem ef_sortQ {ta : TE} {ns : List Int} (ha : EF ta σ G fun v G' => ∃ p : Addr, v = .ref p ∧ G' p = some (.lst (ns.map V.int))) : EF (tCB (rSortedI K) (tCons ta tNil)) σ G fun v G' => ∃ a : Addr, v = .ref a ∧ SqL K G' a ((srtI ns).map V.int) := fun H e Q q => ha H e _ fun x G1 H1 g1 ⟨p, ev, hp⟩ =>
  ⟨p, ns, by rw [ev], Evl.sq_of (g1.ok _ _ hp), fun ns' p2 h1 h2 h3 => q _ _ _ (g1.trans (.new g1.ok h3)) ⟨p2, rfl, Evl.sq_of (by rw [upd_same, int_uniq (h1.trans (srtI_perm ns).symm) h2 (srtI_sorted ns)])⟩⟩
end
end Lw

set_option Elab.async false
set_option linter.all false
set_option maxRecDepth 100000
set_option maxHeartbeats 4000000
/-! comprehensions over lists of data; the law of stock: promises -/
namespace Lw
open PySem PySem.Spec L2
open Evl (Ex)
section
variable {K : PySem.W.Frag} {σ : L2.St} {G G' H H1 : Hp} {D : Ends} {ta tb te tl : TE} {t : TT} {P : VP}
/-- [f(x) for x in l] -/
theorem el_mapA {α : Type} {xs : List V} {l : List α} {f g : α → PyData} {j : Nat} (h : EF tl σ G fun v G' => ∃ a, v = .ref a ∧ SqL K G' a xs) (hd : DpAll K G xs (l.map f)) (hz : l.length ≤ 40000) (hw : ∀ x, wipe ((wipe σ [j]).set j (some x)) [j] = wipe σ [j])
    (he : ∀ x w G', Ex G G' → w ∈ l → Dp K G' x (f w) → EF te ((wipe σ [j]).set j (some x)) G' (DV K (g w))) : EF (tLc (iList K tl) (gName j) tYes te [j]) σ G (LS K (l.map g)) := by
  have hlen : xs.length = l.length := by have := dpa_len hd; rw [List.length_map] at this; exact this
  refine ef_lcL (xs := xs) (fun i acc G' => DpAll K G' acc ((l.take i).map g)) h (by omega) hw (fun _ _ => .nil) (fun i x acc G' e hi hI => ?_) fun p acc G' _ h2 _ _ hI => ⟨p, acc, rfl, upd_same, dpax (by rw [List.take_of_length_le (by omega)] at hI; exact hI) (ex_in h2)⟩
  obtain ⟨dd, hd1, dy⟩ := dpa_get hd hi
  rw [List.getElem?_map] at hd1
  obtain ⟨w, hw1, rfl⟩ := Option.map_eq_some_iff.mp hd1
  rw [show l.take (i + 1) = l.take i ++ [w] by rw [List.take_succ, hw1, Option.toList_some], List.map_append]
  exact ec_all ((he x w G' e (List.mem_of_getElem? hw1) (dpx dy e)).imp fun v G2 e2 p => dpa_snoc (dpax hI e2) p)
/-- [x for x in l if p(x)] -/
theorem el_filA {α : Type} {xs : List V} {l : List α} {f : α → PyData} {p : α → Bool} {j : Nat} (h : EF tl σ G fun v G' => ∃ a, v = .ref a ∧ SqL K G' a xs) (hd : DpAll K G xs (l.map f)) (hz : l.length ≤ 40000) (hw : ∀ x, wipe ((wipe σ [j]).set j (some x)) [j] = wipe σ [j]) (hj : ∀ x, ((wipe σ [j]).set j (some x))[j]? = some (some x))
    (he : ∀ x w G', Ex G G' → w ∈ l → Dp K G' x (f w) → ET t ((wipe σ [j]).set j (some x)) G' (· = p w)) : EF (tLc (iList K tl) (gName j) t (tVar j) [j]) σ G (LS K ((l.filter p).map f)) := by
  have hlen : xs.length = l.length := by have := dpa_len hd; rw [List.length_map] at this; exact this
  refine ef_lcL (xs := xs) (fun i acc G' => DpAll K G' acc (((l.take i).filter p).map f)) h (by omega) hw (fun _ _ => .nil) (fun i x acc G' e hi hI => ?_) fun q acc G' _ h2 _ _ hI => ⟨q, acc, rfl, upd_same, dpax (by rw [List.take_of_length_le (by omega)] at hI; exact hI) (ex_in h2)⟩
  obtain ⟨dd, hd1, dy⟩ := dpa_get hd hi
  rw [List.getElem?_map] at hd1
  obtain ⟨w, hw1, rfl⟩ := Option.map_eq_some_iff.mp hd1
  rw [show l.take (i + 1) = l.take i ++ [w] by rw [List.take_succ, hw1, Option.toList_some], List.filter_append]
  refine ec_if (he x w G' e (List.mem_of_getElem? hw1) (dpx dy e)) (fun hb => EF.imp (P := XV x) (ex_var (hj x)) fun v G2 e2 pv => ?_) (fun hb => ?_)
  · rw [show ([w].filter p) = [w] by simp [← hb], List.map_append, show v = x from pv]
    exact dpa_snoc (dpax hI e2) (dpx dy (e.trans e2))
  · rw [show ([w].filter p) = [] by simp [← hb], List.append_nil]
    exact hI
theorem wk_at {a : Addr} {ws : List Wk} (h : Dp K G (.ref a) (dWs ws)) : ∃ xs, SqL K G a xs ∧ DpAll K G xs (ws.map dW) ∧ xs.length = ws.length ∧ ∀ (i : Nat) v, ws[i]? = some v → ∃ b, xs[i]? = some (.ref b) ∧ SqT K G b [.int v.1, .int v.2.1, .int v.2.2.1, .int v.2.2.2] := by
  obtain ⟨a', xs, e, hs, hx⟩ := dp_lst h
  cases e
  refine ⟨xs, hs, hx, by have := dpa_len hx; rw [List.length_map] at this; exact this, fun i v hv => ?_⟩
  obtain ⟨y, hy, dy⟩ := dpa_get' (i := i) (d := dW v) hx (by rw [List.getElem?_map, hv]; rfl)
  obtain ⟨b, rfl, hb⟩ := dp_W dy
  exact ⟨b, hy, hb⟩
/-- row[k] of a working -/
theorem ex_wk {x : V} {v : Wk} {k : Nat} {z : Int} (ha : EF ta σ G (XV x)) (hv : Dp K G x (dW v)) (hb : EF tb σ G (XV (.int (k : Int)))) (hz : ([V.int v.1, .int v.2.1, .int v.2.2.1, .int v.2.2.2])[k]? = some (.int z)) : EF (tOp (rIxT K) ta tb) σ G (XV (.int z)) := by
  obtain ⟨b, rfl, hs⟩ := dp_W hv
  exact ex_ixT ha hb hs hz
/-- rows[i][k] -/
theorem ex_wki {a : Addr} {ws : List Wk} {v : Wk} {i k : Nat} {z : Int} {ti : TE} (ha : EF ta σ G (XV (.ref a))) (hd : Dp K G (.ref a) (dWs ws)) (hi : EF ti σ G (XV (.int (i : Int)))) (hv : ws[i]? = some v) (hb : EF tb σ G (XV (.int (k : Int)))) (hz : ([V.int v.1, .int v.2.1, .int v.2.2.1, .int v.2.2.2])[k]? = some (.int z)) :
    EF (tOp (rIxT K) (tOp (rIxL K) ta ti) tb) σ G (XV (.int z)) := by
  obtain ⟨xs, h1, _, _, h2⟩ := wk_at hd
  obtain ⟨b, hb1, hb2⟩ := h2 i v hv
  exact ex_ixT (ex_ixL ha hi rfl h1 hb1) hb hb2 hz
def badI (ws : List Wk) : Int := match badAt ws with
  | some i => (i : Int)
  | none => -1
def spPlaces (K : PySem.W.Frag) : Sp := fun vs H Q _ => ∃ (G : Hp) (c : Int) (n : Nat), Ex G H ∧ vs = [.int c, .int (n : Int)] ∧ 1 ≤ n ∧ n ≤ 4 ∧ Ret G H (RL K fun ps => ps.length = n ∧ ps.Pairwise (· < ·)) Q
theorem sa_places {c : Int} {n : Nat} (h1 : 1 ≤ n) (h2 : n ≤ 4) : SA (spPlaces K) [.int c, .int (n : Int)] G (RL K fun ps => ps.length = n ∧ ps.Pairwise (· < ·)) := fun H e Q _ q => ⟨G, c, n, e, rfl, h1, h2, q⟩
def WOk (ps : List Int) (v : Wk) : Prop := v.1 ∈ ps ∧ v.2.1 ∈ ps
def spWork (K : PySem.W.Frag) : Sp := fun vs H Q _ => ∃ (G : Hp) (c kd : Int) (a : Addr) (ps : List Int), Ex G H ∧ vs = [.int c, .int kd, .ref a] ∧ SqL K G a (ps.map V.int) ∧ 1 ≤ ps.length ∧ ps.length ≤ 2000 ∧ Ret G H (fun v G' => ∃ w : Wk, WOk ps w ∧ Dp K G' v (dW w)) Q
theorem sa_work {c kd : Int} {a : Addr} {ps : List Int} (hs : SqL K G a (ps.map V.int)) (h1 : 1 ≤ ps.length) (h2 : ps.length ≤ 2000) : SA (spWork K) [.int c, .int kd, .ref a] G (fun v G' => ∃ w : Wk, WOk ps w ∧ Dp K G' v (dW w)) := fun H e Q _ q => ⟨G, c, kd, a, ps, e, rfl, hs, h1, h2, q⟩
def spFB (K : PySem.W.Frag) : Sp := fun vs H Q _ => ∃ (G : Hp) (a : Addr) (ws : List Wk), Ex G H ∧ vs = [.ref a] ∧ Dp K G (.ref a) (dWs ws) ∧ ws.length ≤ 200 ∧ Ret G H (XV (.int (badI ws))) Q
theorem sa_fb {a : Addr} {ws : List Wk} (hd : Dp K G (.ref a) (dWs ws)) (hl : ws.length ≤ 200) : SA (spFB K) [.ref a] G (XV (.int (badI ws))) := fun H e Q _ q => ⟨G, a, ws, e, rfl, hd, hl, q⟩
def spSur (K : PySem.W.Frag) : Sp := fun vs H Q _ => ∃ (G : Hp) (a : Addr) (ws : List Wk) (p gap m : Int), Ex G H ∧ vs = [.ref a, .int p, .int gap, .int m] ∧ Dp K G (.ref a) (dWs ws) ∧ ws.length ≤ 200 ∧ Ret G H (XV (.int (sm (evs gap p ws) m))) Q
theorem sa_sur {a : Addr} {ws : List Wk} {p gap m : Int} (hd : Dp K G (.ref a) (dWs ws)) (hl : ws.length ≤ 200) : SA (spSur K) [.ref a, .int p, .int gap, .int m] G (XV (.int (sm (evs gap p ws) m))) := fun H e Q _ q => ⟨G, a, ws, p, gap, m, e, rfl, hd, hl, q⟩
def spDue (K : PySem.W.Frag) : Sp := fun vs H Q _ => ∃ (G : Hp) (a : Addr) (ws : List Wk) (p gap : Int), Ex G H ∧ vs = [.ref a, .int p, .int gap] ∧ Dp K G (.ref a) (dWs ws) ∧ ws.length ≤ 200 ∧ Ret G H (DV K (dTop (topP (evs gap p ws)))) Q
theorem sa_due {a : Addr} {ws : List Wk} {p gap : Int} (hd : Dp K G (.ref a) (dWs ws)) (hl : ws.length ≤ 200) : SA (spDue K) [.ref a, .int p, .int gap] G (DV K (dTop (topP (evs gap p ws)))) := fun H e Q _ q => ⟨G, a, ws, p, gap, e, rfl, hd, hl, q⟩
def gapOf (t : Int) : Int := if t < 0 then 0 else t
def defD (ws : List Wk) (p t : Int) : PyData := match badAt ws with
  | some i => errD "BadWorking" (i : Int) true true false
  | none => .tuple [.str "told", dTop (topP (evs (gapOf t) p ws))]
def spDef (K : PySem.W.Frag) : Sp := fun vs H Q _ => ∃ (G : Hp) (a : Addr) (ws : List Wk) (p t : Int), Ex G H ∧ vs = [.ref a, .int p, .int t] ∧ Dp K G (.ref a) (dWs ws) ∧ ws.length ≤ 200 ∧ Ret G H (DV K (defD ws p t)) Q
theorem sa_def {a : Addr} {ws : List Wk} {p t : Int} (hd : Dp K G (.ref a) (dWs ws)) (hl : ws.length ≤ 200) : SA (spDef K) [.ref a, .int p, .int t] G (DV K (defD ws p t)) := fun H e Q _ q => ⟨G, a, ws, p, t, e, rfl, hd, hl, q⟩
def leaD (ws : List Wk) (ps : List Int) (t : Int) : PyData := match badAt ws with
  | some i => errD "BadWorking" (i : Int) true true false
  | none => .tuple [.str "told", dPs (setsOf (gapOf t) ws ps)]
def spLea (K : PySem.W.Frag) : Sp := fun vs H Q _ => ∃ (G : Hp) (a : Addr) (ws : List Wk) (ps : List Int) (t : Int), Ex G H ∧ vs = [.ref a, .int t] ∧ Dp K G (.ref a) (dWs ws) ∧ ws.length ≤ 200 ∧ ps.Pairwise (· < ·) ∧ (∀ v ∈ ws, WOk ps v) ∧ Ret G H (DV K (leaD ws ps t)) Q
theorem sa_lea {a : Addr} {ws : List Wk} {ps : List Int} {t : Int} (hd : Dp K G (.ref a) (dWs ws)) (hl : ws.length ≤ 200) (h1 : ps.Pairwise (· < ·)) (h2 : ∀ v ∈ ws, WOk ps v) : SA (spLea K) [.ref a, .int t] G (DV K (leaD ws ps t)) := fun H e Q _ q => ⟨G, a, ws, ps, t, e, rfl, hd, hl, h1, h2, q⟩
end
end Lw

set_option Elab.async false
set_option linter.all false
set_option maxRecDepth 100000
set_option maxHeartbeats 4000000
/-! lists that are changed by item assignment -/
namespace Lw
open PySem PySem.Spec L2
open Evl (Ex)
section
variable {K : PySem.W.Frag} {σ : L2.St} {G G' H H1 : Hp} {D : Ends} {ta tb te ti tl : TE} {P : VP}
/-- q = list(xs), q of no list that is known -/
theorem st_listC {i : Nat} {a : Addr} {xs : List V} (hG : Ex G H) (ha : EF ta σ G (XV (.ref a))) (hs : SqL K G a xs) (k : ∀ q G' H', Gr G G' H H' → H q = none → G' q = none → H' q = some (.lst xs) → D.nx (σ.set i (some (.ref q))) H') :
    tAsg (tCB (Evl.rListS K) (tCons ta tNil)) (gName i) D σ H :=
  by
    unfold tAsg tCB
    refine (ea_one ha) H hG _ fun vs G1 H1 g1 ⟨x, ev, p⟩ => ?_
    cases (show x = .ref a from p)
    exact ⟨a, xs, ev, .inl (Evl.ex_l (hG.trans g1.hp) hs), fun l hl => k l G1 _ (g1.put (none_back g1.hp hl) (none_back g1.ok hl)) (none_back g1.hp hl) (none_back g1.ok hl) upd_same⟩
/-- q[i] = e -/
theorem st_setQ {q : Addr} {ys : List V} {i : Nat} (eG : Ex G H1) (hq : H1 q = some (.lst ys)) (ho : σ[i]? = some (some (.ref q))) (hv : EF te σ G P) {p : Nat → Prop} (hi : EF ti σ G (IV fun z => ∃ j : Nat, z = (j : Int) ∧ j < ys.length ∧ p j)) (k : ∀ (j : Nat) v G2 H2, j < ys.length → p j → Gr G G2 H1 H2 → P v G2 → D.nx σ (upd H2 q (.lst (ys.set j v)))) :
    tAsg te (gSub (tVar i) ti rSetL) D σ H1 := hv H1 eG _ fun v G2 H2 g2 pv => by
  refine ⟨.ref q, ho, hi H2 (eG.trans g2.hp) _ fun w G3 H3 g3 ⟨z, ez, j, hz, hj, pj⟩ => ?_⟩
  subst hz
  exact ⟨q, ys, (j : Int), j, rfl, ez, g3.hp _ _ (g2.hp _ _ hq), ixN_nat hj, k j v G2 H3 hj pj (g2.then g3.hp) pv⟩
theorem Gr.chain {G1 G2 G3 H1 H2 H3 : Hp} (a : Gr G1 G2 H1 H2) (b : Gr G2 G3 H1 H3) : Gr G1 G3 H1 H3 := ⟨a.up.trans b.up, b.ok, b.hp, fun x h g => b.2.2.2 x h (a.2.2.2 x h g)⟩
theorem EF.ivx {z : Int} (h : EF te σ G (IV (· = z))) : EF te σ G (XV (.int z)) := h.imp fun v _ _ ⟨y, ey, hy⟩ => by rw [ey, hy]; rfl
theorem dpa_set : ∀ {ls : List V} {ds : List PyData} {j : Nat} {v : V} {d : PyData}, DpAll K G ls ds → Dp K G v d → DpAll K G (ls.set j v) (ds.set j d)
  | _, _, _, _, _, .nil, _ => .nil
  | _, _, 0, _, _, .cons h1 h2, hv => .cons hv h2
  | _, _, j + 1, _, _, .cons h1 h2, hv => .cons h1 (dpa_set h2 hv)
end
end Lw

set_option Elab.async false
set_option linter.all false
set_option maxRecDepth 100000
set_option maxHeartbeats 4000000
/-! xs[:-1] -/
namespace Lw
open PySem PySem.Spec L2
open Evl (Ex)
section
variable {K : PySem.W.Frag} {σ : L2.St} {G H : Hp} {ta tb : TE}
theorem cutV_init (xs : List V) : cutV xs none (some (-1)) = xs.take (xs.length - 1) := by
  unfold cutV
  have h1 : HT.sIx xs.length 0 none = 0 := rfl
  have h2 : HT.sIx xs.length xs.length (some (-1)) = xs.length - 1 := by
    show (if (-1 : Int) < 0 then ((-1 : Int) + (xs.length : Int)).toNat else min (-1 : Int).toNat xs.length) = xs.length - 1
    rw [if_pos (by omega)]
    omega
  rw [h1, h2]
  simp
theorem el_init {ds : List PyData} (ha : EF ta σ G (DV K (.list ds))) (hb : EF tb σ G (XV (.int (-1)))) : EF (tSl (rSlL K) ta tNoPart (tPart tb)) σ G (LS K (ds.take (ds.length - 1))) := fun H e Q q => ha H e _ fun x G1 H1 g1 hx => hb H1 (g1.up.trans g1.ok) _ fun y G2 H2 g2 hy => by
  obtain ⟨a, xs, rfl, hs, hall⟩ := dp_lst hx
  obtain ⟨G3, e1, e2, g3⟩ := g1.join g2
  refine ⟨(-1 : Int), hy, a, xs, rfl, Evl.ex_l (e1.trans g3.ok) hs, fun p hp => ?_⟩
  refine q _ _ _ (g3.trans (.new g3.ok hp)) ⟨p, _, rfl, upd_same, ?_⟩
  rw [cutV_init, dpa_len hall]
  exact dpa_take _ (dpax hall (e1.trans (ex_in (none_back g3.ok hp))))
end
end Lw

set_option Elab.async false
set_option linter.all false
set_option maxRecDepth 100000
set_option maxHeartbeats 4000000
/-! sorted of any data that can be compared -/
namespace Lw
open PySem PySem.Spec L2
open Evl (Ex)
open PyProof.Rows
def rSortD {β : Type} (K : PySem.W.Frag) (enc : β → PyData) : List V → Hp → VK → Prop := fun vs H Q => ∃ (G : Hp) (a : Addr) (xs : List V) (l : List β), Ex G H ∧ vs = [V.ref a] ∧ SqL K H a xs ∧ DpAll K G xs (l.map enc) ∧ PySem.W.AllAlike (l.map enc) ∧ PySem.W.Sortable (l.map enc) ∧ (∀ b ∈ l, (enc b).depth ≤ 50) ∧
  ∀ (ys : List V) (p : Addr), DpAll K G ys ((l.mergeSort (PySem.W.dataLe false enc)).map enc) → H p = none → Q (.ref p) (upd H p (.lst ys))
section
variable {X : Cx} {β : Type} {enc : β → PyData}
theorem each_of {K : PySem.W.Frag} {G : Hp} : ∀ {xs : List V} {l : List β} {its : List Value}, DpAll K G xs (l.map enc) → Vals xs its → PySem.W.EachIs (fun v b => ∃ x, RelV x v ∧ Dp K G x (enc b)) its l
  | [], [], _, _, .nil => .nil
  | x :: xs, b :: l, _, h, .cons rx rt => by
    cases h with
    | cons h1 h2 => exact .cons ⟨x, rx, h1⟩ (each_of h2 rt)
  | [], _ :: _, _, h, _ => nomatch h
  | _ :: _, [], _, h, _ => nomatch h
theorem of_each {K : PySem.W.Frag} {G : Hp} : ∀ {out : List Value} {l : List β}, PySem.W.EachIs (fun v b => ∃ x, RelV x v ∧ Dp K G x (enc b)) out l → ∃ ys : List V, Vals ys out ∧ DpAll K G ys (l.map enc)
  | _, _, .nil => ⟨[], .nil, .nil⟩
  | _, _, .cons ⟨x, h1, h2⟩ t => by
    obtain ⟨ys, h3, h4⟩ := of_each t
    exact ⟨x :: ys, .cons h1 h3, .cons h2 h4⟩
theorem cr_sortD (hu : X.A.units + 65 < cLine) : CallR X (.builtin "sorted") (rSortD X.K enc) := by
  intro pins s σ H vs us Q I r h
  obtain ⟨G, a, xs, l, eG, rfl, hs, hx, hal, hk, hdp, q⟩ := h
  obtain ⟨its, rv, hl, hz⟩ := I.list hs
  obtain ⟨u, eu, ru⟩ := vals1 r
  subst eu
  cases (show u = Value.ref a from ru)
  have hlen := rv.length
  have hll : its.length = l.length := by have := dpa_len hx; rw [List.length_map] at this; omega
  have e1 := each_of hx rv
  refine PySem.W.sorted_data (R := fun v b => ∃ x, RelV x v ∧ Dp X.K G x (enc b)) (enc := enc) (bs := l) hl.isList e1 (e1.mono fun v b ⟨x, h1, h2⟩ => Dp.reads I (enc b) x v (dpx h2 eG) h1) hal hk (by omega) (fun b hb => by have := hdp b hb; omega) fun out ho hout => ?_
  obtain ⟨ys, hys, hdy⟩ := of_each hout
  have hsz : ys.length ≤ sizeLine := by rw [hys.length, ho]; omega
  have kp : ∀ b o, s.heap.get? b = some o → (sortedAll s.heap its (List.toArray out)).get? b = some o := fun b o e => sortedAll_old e
  obtain ⟨n, hn⟩ : ∃ n, (sortedAll s.heap its (List.toArray out)).get? (s.heap.objs.size + 1) = some (seqObj "list" out.toArray n) := sortedAll_at s.heap its out.toArray
  exact ⟨.ref (s.heap.objs.size + 1), upd H (s.heap.objs.size + 1) (.lst ys), I.laid (t' := s.toks) kp (Nat.le_succ _) ⟨hsz, out, n, hys, hn⟩, rfl, q ys _ hdy (I.hok.fresh (Nat.le_succ _))⟩
end
section
variable {K : PySem.W.Frag} {σ : L2.St} {G H : Hp} {ta : TE} {β : Type} {enc : β → PyData}
/-- sorted of a list of data, known or new -/
theorem ed_sortD {l : List β} (ha : EF ta σ G (DV K (.list (l.map enc)))) (hal : PySem.W.AllAlike (l.map enc)) (hk : PySem.W.Sortable (l.map enc)) (hdp : ∀ b ∈ l, (enc b).depth ≤ 50) : EF (tCB (rSortD K enc) (tCons ta tNil)) σ G (LS K ((l.mergeSort (PySem.W.dataLe false enc)).map enc)) := fun H e Q q => ha H e _ fun x G1 H1 g1 p => by
  obtain ⟨a, xs, rfl, hs, hx⟩ := dp_lst p
  refine ⟨G1, a, xs, l, g1.ok, rfl, Evl.ex_l g1.ok hs, hx, hal, hk, hdp, fun ys p2 h1 h4 => ?_⟩
  exact q _ _ _ (g1.trans (.new g1.ok h4)) ⟨p2, ys, rfl, upd_same, dpax h1 (ex_in (none_back g1.ok h4))⟩
end
/-! rows of ints, as tuples or as lists -/
theorem alike_tups {β : Type} {x : β → List Int} {l : List β} : PySem.W.AllAlike (l.map fun b => PyData.tuple ((x b).map .int)) := PySem.W.AllAlike.of fun b b' => by
  simp only [PySem.W.alike]
  exact PySem.W.alike_ints _ _
theorem alike_rows {β : Type} {x : β → List Int} {l : List β} : PySem.W.AllAlike (l.map fun b => PyData.list ((x b).map .int)) := PySem.W.AllAlike.of fun b b' => by
  simp only [PySem.W.alike]
  exact PySem.W.alike_ints _ _
theorem ile_total (a b : List Int) : a ≤ b ∨ b ≤ a := List.le_total a b
theorem dataLe_tups {β : Type} (x : β → List Int) : PySem.W.dataLe false (fun b => .tuple ((x b).map .int)) = fun p q => decide (x p ≤ x q) := by
  rw [PySem.W.dataLe_eq]
  funext p q
  show (!PySem.W.dataLt (.tuple ((x q).map .int)) (.tuple ((x p).map .int))) = _
  have e : PySem.W.dataLt (.tuple ((x q).map .int)) (.tuple ((x p).map .int)) = decide (x q < x p) := by
    rw [PySem.W.dataLt_tuple]
    exact PySem.W.dataLt_ints _ _
  rw [e]
  by_cases h : x q < x p
  · rw [decide_eq_true h, decide_eq_false fun z => (List.not_lt.mpr z) h]; rfl
  · rw [decide_eq_false h, decide_eq_true (List.not_lt.mp h)]; rfl
/-- sorted by the rows -/
def srtX {β : Type} (x : β → List Int) (l : List β) : List β := l.mergeSort fun p q => decide (x p ≤ x q)
theorem srtX_perm {β : Type} (x : β → List Int) (l : List β) : (srtX x l).Perm l := List.mergeSort_perm l _
theorem srtX_sorted {β : Type} (x : β → List Int) (l : List β) : (srtX x l).Pairwise fun p q => x p ≤ x q := by
  have := List.pairwise_mergeSort (le := fun p q : β => decide (x p ≤ x q)) (fun a b c h1 h2 => decide_eq_true (List.le_trans (of_decide_eq_true h1) (of_decide_eq_true h2))) (fun a b => by
    rcases ile_total (x a) (x b) with h | h
    · simp [h]
    · simp [h]) l
  exact this.imp fun h => of_decide_eq_true h
theorem sortX_uniq {β : Type} {x : β → List Int} : ∀ {l m : List β}, (∀ a ∈ l, ∀ b ∈ l, x a = x b → a = b) → l.Perm m → l.Pairwise (fun p q => x p ≤ x q) → m.Pairwise (fun p q => x p ≤ x q) → l = m
  | [], m, _, h, _, _ => List.Perm.nil_eq h
  | a :: l, [], _, h, _, _ => absurd h.length_eq (by simp)
  | a :: l, b :: m, hi, h, hl, hm => by
    have e : a = b := by
      have mb : b ∈ a :: l := h.mem_iff.mpr List.mem_cons_self
      have h1 : a = b ∨ x b ≤ x a := by
        rcases List.mem_cons.mp (h.mem_iff.mp (List.mem_cons_self (a := a) (l := l))) with e | hx
        · exact .inl e
        · exact .inr ((List.pairwise_cons.mp hm).1 a hx)
      have h2 : b = a ∨ x a ≤ x b := by
        rcases List.mem_cons.mp mb with e | hx
        · exact .inl e
        · exact .inr ((List.pairwise_cons.mp hl).1 b hx)
      rcases h1 with e | h1
      · exact e
      · rcases h2 with e | h2
        · exact e.symm
        · exact hi a List.mem_cons_self b mb (List.le_antisymm h2 h1)
    subst e
    rw [sortX_uniq (fun s hs t ht => hi s (List.mem_cons_of_mem _ hs) t (List.mem_cons_of_mem _ ht)) h.cons_inv (List.pairwise_cons.mp hl).2 (List.pairwise_cons.mp hm).2]
end Lw

set_option Elab.async false
set_option linter.all false
set_option maxRecDepth 100000
set_option maxHeartbeats 4000000
/-! least ways as mathematics: nx a, the next blocks toward b -/
namespace Lw
inductive Wy (nx : Int → List Int) (b : Int) : List Int → Prop
  | one : Wy nx b [b]
  | more {a c : Int} {p : List Int} (h : c ∈ nx a) (hp : Wy nx b (c :: p)) : Wy nx b (a :: c :: p)
def tot (len : Int → Int) (p : List Int) : Int := (p.map len).sum
theorem tot_cons {len : Int → Int} {a : Int} {p : List Int} : tot len (a :: p) = len a + tot len p := by simp [tot]
theorem tot_app {len : Int → Int} {p q : List Int} : tot len (p ++ q) = tot len p + tot len q := by simp [tot, List.sum_append]
theorem tot_rev {len : Int → Int} {p : List Int} : tot len p.reverse = tot len p := by
  induction p with
  | nil => rfl
  | cons a p ih => rw [List.reverse_cons, tot_app, ih, tot_cons, tot_cons]; simp [tot]; omega
/-- what a table of distances to b is -/
structure DOk (nx : Int → List Int) (len : Int → Int) (b : Int) (dst : Int → Option Int) : Prop where
  at0 : dst b = some (len b)
  nb : nx b = []
  no : ∀ a, a ≠ b → (∀ c ∈ nx a, dst c = none) → dst a = none
  ye : ∀ a c m, a ≠ b → c ∈ nx a → dst c = some m → (∀ c' ∈ nx a, ∀ m', dst c' = some m' → m ≤ m') → dst a = some (m + len a)
theorem opt_least (dst : Int → Option Int) : ∀ l : List Int, (∀ c ∈ l, dst c = none) ∨ ∃ c ∈ l, ∃ m, dst c = some m ∧ ∀ c' ∈ l, ∀ m', dst c' = some m' → m ≤ m'
  | [] => .inl (by simp)
  | x :: l => by
    rcases opt_least dst l with h | ⟨c, hc, m, hm, hl⟩
    · cases hx : dst x with
      | none => exact .inl fun c hc => by exact (List.mem_cons.mp hc).elim (fun z => by rw [z]; exact hx) (h c)
      | some m => exact .inr ⟨x, List.mem_cons_self, m, hx, fun c' hc' m' e => by
          rcases List.mem_cons.mp hc' with rfl | hc'
          · rw [hx] at e; cases e; exact Int.le_refl _
          · rw [h c' hc'] at e; cases e⟩
    · cases hx : dst x with
      | none => exact .inr ⟨c, List.mem_cons_of_mem _ hc, m, hm, fun c' hc' m' e => by
          rcases List.mem_cons.mp hc' with rfl | hc'
          · rw [hx] at e; cases e
          · exact hl c' hc' m' e⟩
      | some k =>
        by_cases q : k ≤ m
        · exact .inr ⟨x, List.mem_cons_self, k, hx, fun c' hc' m' e => by
            rcases List.mem_cons.mp hc' with rfl | hc'
            · rw [hx] at e; cases e; exact Int.le_refl _
            · have := hl c' hc' m' e; omega⟩
        · exact .inr ⟨c, List.mem_cons_of_mem _ hc, m, hm, fun c' hc' m' e => by
            rcases List.mem_cons.mp hc' with rfl | hc'
            · rw [hx] at e; cases e; omega
            · exact hl c' hc' m' e⟩
section
variable {nx : Int → List Int} {len : Int → Int} {b : Int} {dst : Int → Option Int}
theorem DOk.ne (D : DOk nx len b dst) {a c : Int} (h : c ∈ nx a) : a ≠ b := fun z => by rw [z, D.nb] at h; cases h
theorem DOk.le (D : DOk nx len b dst) {p : List Int} (h : Wy nx b p) : ∀ a q, p = a :: q → ∃ d, dst a = some d ∧ d ≤ tot len p := by
  induction h with
  | one => intro a q e; cases e; exact ⟨_, D.at0, by simp [tot]⟩
  | @more a c p h hp ih =>
    intro a2 q e
    obtain rfl : a = a2 := by injection e
    obtain ⟨d, h1, h2⟩ := ih _ _ rfl
    rcases opt_least dst (nx a) with hn | ⟨c0, hc, m, hm, hl⟩
    · rw [hn _ h] at h1; cases h1
    · refine ⟨_, D.ye a c0 m (D.ne h) hc hm hl, ?_⟩
      have := hl _ h d h1
      rw [tot_cons]
      omega
theorem DOk.ex (D : DOk nx len b dst) {rk : Int → Nat} (hr : ∀ a c, c ∈ nx a → rk c < rk a) : ∀ n a d, rk a ≤ n → dst a = some d → ∃ p, Wy nx b (a :: p) ∧ tot len (a :: p) = d := by
  have main : ∀ n a d, rk a < n → dst a = some d → ∃ p, Wy nx b (a :: p) ∧ tot len (a :: p) = d := fun n => by
    induction n with
    | zero => intro a d h; omega
    | succ n ih =>
      intro a d h e
      by_cases z : a = b
      · rw [z] at e ⊢
        rw [D.at0] at e
        cases e
        exact ⟨[], .one, by simp [tot]⟩
      · rcases opt_least dst (nx a) with hn | ⟨c, hc, m, hm, hl⟩
        · rw [D.no a z hn] at e; cases e
        · rw [D.ye a c m z hc hm hl] at e
          cases e
          obtain ⟨p, hp, ht⟩ := ih c m (by have := hr a c hc; omega) hm
          exact ⟨c :: p, .more hc hp, by rw [tot_cons, ht]; omega⟩
  exact fun n a d h e => main (n + 1) a d (by omega) e
/-- the way that takes the least next block of those that are not farther -/
inductive Gd (nx : Int → List Int) (len : Int → Int) (b : Int) (dst : Int → Option Int) : List Int → Prop
  | one : Gd nx len b dst [b]
  | more {a c d : Int} {p : List Int} (n : a ≠ b) (e : dst a = some d) (h : c ∈ nx a) (ec : dst c = some (d - len a)) (l : ∀ c' ∈ nx a, dst c' = some (d - len a) → c ≤ c') (hp : Gd nx len b dst (c :: p)) : Gd nx len b dst (a :: c :: p)
theorem Gd.way (D : DOk nx len b dst) {p : List Int} (h : Gd nx len b dst p) : Wy nx b p ∧ ∀ a q, p = a :: q → dst a = some (tot len p) := by
  induction h with
  | one => exact ⟨.one, fun a q e => by cases e; rw [D.at0]; simp [tot]⟩
  | more n e h ec l hp ih =>
    obtain ⟨i1, i2⟩ := ih
    refine ⟨.more h i1, fun a q e2 => ?_⟩
    cases e2
    have := i2 _ _ rfl
    rw [ec] at this
    have h3 := Option.some.inj this
    rw [e, tot_cons, ← h3]
    congr 1
    omega
theorem Gd.le (D : DOk nx len b dst) {p : List Int} (h : Gd nx len b dst p) : ∀ q, Wy nx b q → q.head? = p.head? → tot len q = tot len p → p ≤ q := by
  induction h with
  | one =>
    intro q hq hh _
    cases hq with
    | one => exact List.le_refl _
    | more h1 _ => simp at hh; subst hh; rw [D.nb] at h1; cases h1
  | more n e h ec l hp ih =>
    rename_i a c d p
    intro q hq hh ht
    cases hq with
    | one => simp at hh; exact absurd hh.symm n
    | more h1 hq1 =>
      rename_i a' c' q'
      simp at hh
      subst hh
      obtain ⟨w1, w2⟩ := hp.way D
      have tp : tot len (c :: p) = d - len a' := by have := w2 _ _ rfl; rw [ec] at this; exact (Option.some.inj this).symm
      have tq : tot len (c' :: q') = d - len a' := by
        rw [tot_cons, tot_cons (p := c :: p), tp] at ht
        omega
      obtain ⟨d', e1, e2⟩ := D.le hq1 _ _ rfl
      have e3 : d - len a' ≤ d' := by
        rcases opt_least dst (nx a') with hn | ⟨c0, hc, m, hm, hl⟩
        · rw [hn _ h1] at e1; cases e1
        · have := D.ye a' c0 m n hc hm hl
          rw [e] at this
          have := Option.some.inj this
          have := hl _ h1 d' e1
          omega
      have e4 : dst c' = some (d - len a') := by rw [e1]; congr 1; omega
      have hc := l c' h1 e4
      rw [List.cons_le_cons_iff]
      refine .inr ⟨rfl, ?_⟩
      by_cases z : c = c'
      · subst z
        exact ih _ hq1 rfl (by rw [tq, tp])
      · rw [List.cons_le_cons_iff]
        exact .inl (by omega)
/-- of (length, way) the greedy one is the least -/
theorem Gd.least (D : DOk nx len b dst) {a : Int} {p : List Int} (h : Gd nx len b dst (a :: p)) {q : List Int} (hq : Wy nx b (a :: q)) : tot len (a :: p) < tot len (a :: q) ∨ (tot len (a :: p) = tot len (a :: q) ∧ a :: p ≤ a :: q) := by
  obtain ⟨w1, w2⟩ := h.way D
  obtain ⟨d, e1, e2⟩ := D.le hq _ _ rfl
  rw [w2 _ _ rfl] at e1
  cases e1
  by_cases z : tot len (a :: p) = tot len (a :: q)
  · exact .inr ⟨z, h.le D _ hq rfl z.symm⟩
  · exact .inl (by omega)
/-- the next block is there -/
theorem DOk.next (D : DOk nx len b dst) {a d : Int} (n : a ≠ b) (e : dst a = some d) : ∃ c ∈ nx a, dst c = some (d - len a) := by
  rcases opt_least dst (nx a) with hn | ⟨c, hc, m, hm, hl⟩
  · rw [D.no a n hn] at e; cases e
  · refine ⟨c, hc, ?_⟩
    rw [D.ye a c m n hc hm hl] at e
    cases e
    rw [hm]
    congr 1
    omega
end
end Lw

set_option Elab.async false
set_option linter.all false
set_option maxRecDepth 100000
set_option maxHeartbeats 4000000
/-! the distances that the program reckons, and ways as chains -/
namespace Lw
def dstN (nx : Int → List Int) (len : Int → Int) (b : Int) : Nat → Int → Option Int
  | 0, _ => none
  | k + 1, a => if a = b then some (len b) else (((nx a).filterMap (dstN nx len b k)).min?).map (· + len a)
theorem filterMap_eq {f g : Int → Option Int} : ∀ {l : List Int}, (∀ c ∈ l, f c = g c) → l.filterMap f = l.filterMap g
  | [], _ => rfl
  | x :: l, h => by rw [List.filterMap_cons, List.filterMap_cons, h x List.mem_cons_self, filterMap_eq fun c hc => h c (List.mem_cons_of_mem _ hc)]
section
variable {nx : Int → List Int} {len : Int → Int} {b : Int} {rk : Int → Nat}
theorem dstN_st (hr : ∀ a c, c ∈ nx a → rk c < rk a) : ∀ n a k k', rk a < n → rk a < k → rk a < k' → dstN nx len b k a = dstN nx len b k' a := fun n => by
  induction n with
  | zero => intro a k k' h; omega
  | succ n ih =>
    intro a k k' h1 h2 h3
    match k, k', h2, h3 with
    | k + 1, k' + 1, h2, h3 =>
      show (if a = b then _ else _) = (if a = b then _ else _)
      rw [filterMap_eq fun c hc => ih c k k' (by have := hr a c hc; omega) (by have := hr a c hc; omega) (by have := hr a c hc; omega)]
def dst (nx : Int → List Int) (len : Int → Int) (b : Int) (rk : Int → Nat) (a : Int) : Option Int := dstN nx len b (rk a + 1) a
theorem dst_eq (hr : ∀ a c, c ∈ nx a → rk c < rk a) (a : Int) : dst nx len b rk a = if a = b then some (len b) else (((nx a).filterMap (dst nx len b rk)).min?).map (· + len a) := by
  show (if a = b then _ else _) = (if a = b then _ else _)
  rw [filterMap_eq (g := dst nx len b rk) fun c hc => dstN_st hr (rk c + 1) c _ _ (by omega) (hr a c hc) (by omega)]
theorem dst_ok (hr : ∀ a c, c ∈ nx a → rk c < rk a) (nb : nx b = []) : DOk nx len b (dst nx len b rk) where
  at0 := by rw [dst_eq hr, if_pos rfl]
  nb := nb
  no := fun a n h => by
    rw [dst_eq hr, if_neg n, show (nx a).filterMap (dst nx len b rk) = [] from List.filterMap_eq_nil_iff.mpr h]
    rfl
  ye := fun a c m n hc hm hl => by
    rw [dst_eq hr, if_neg n, show ((nx a).filterMap (dst nx len b rk)).min? = some m from ?_]
    · rfl
    · rw [List.min?_eq_some_iff]
      exact ⟨List.mem_filterMap.mpr ⟨c, hc, hm⟩, fun x hx => by
        obtain ⟨c', h1, h2⟩ := List.mem_filterMap.mp hx
        exact hl c' h1 x h2⟩
end
/-! chains -/
def ch (R : Int → Int → Prop) : List Int → Prop
  | [] => True
  | [_] => True
  | a :: c :: p => R a c ∧ ch R (c :: p)
theorem ch_snoc {R : Int → Int → Prop} {x y : Int} : ∀ {p : List Int}, ch R (p ++ [x, y]) ↔ ch R (p ++ [x]) ∧ R x y
  | [] => by simp [ch]
  | [a] => by simp [ch]
  | a :: c :: p => by
    have := @ch_snoc R x y (c :: p)
    simp only [List.cons_append, ch] at this ⊢
    rw [this, and_assoc]
theorem ch_rev {R : Int → Int → Prop} : ∀ {p : List Int}, ch R p.reverse ↔ ch (fun a c => R c a) p
  | [] => by simp [ch]
  | [a] => by simp [ch]
  | a :: c :: p => by
    rw [show (a :: c :: p).reverse = p.reverse ++ [c, a] by simp, ch_snoc, show p.reverse ++ [c] = (c :: p).reverse by simp, ch_rev (p := c :: p)]
    exact And.comm
/-- the next blocks toward b, of those after (es) and before (ws) -/
def nxT (es ws : Int → List Int) (b a : Int) : List Int := if a < b then (es a).filter fun c => decide (c ≤ b) else (ws a).filter fun c => decide (b ≤ c)
structure EdgeOk (es ws : Int → List Int) (R : Int → Int → Prop) : Prop where
  e : ∀ a c, c ∈ es a ↔ R a c
  w : ∀ a c, c ∈ ws a ↔ R c a
  lt : ∀ a c, R a c → a < c
section
variable {es ws : Int → List Int} {R : Int → Int → Prop} {b : Int}
theorem nxT_b (h : EdgeOk es ws R) : nxT es ws b b = [] := by
  unfold nxT
  rw [if_neg (by omega), List.filter_eq_nil_iff]
  intro c hc
  have := h.lt c b ((h.w b c).mp hc)
  simp
  omega
theorem nxT_rk (h : EdgeOk es ws R) : ∀ a c, c ∈ nxT es ws b a → (c - b).natAbs < (a - b).natAbs := fun a c hc => by
  unfold nxT at hc
  by_cases q : a < b
  · rw [if_pos q] at hc
    obtain ⟨h1, h2⟩ := List.mem_filter.mp hc
    have := h.lt a c ((h.e a c).mp h1)
    simp at h2
    omega
  · rw [if_neg q] at hc
    obtain ⟨h1, h2⟩ := List.mem_filter.mp hc
    have := h.lt c a ((h.w a c).mp h1)
    simp at h2
    omega
/-- toward b: all of it eastward or all of it westward -/
theorem wy_side (h : EdgeOk es ws R) {p : List Int} (hp : Wy (nxT es ws b) b p) : p.getLast? = some b ∧ ((ch R p ∧ ∀ a q, p = a :: q → a ≤ b) ∨ (ch (fun a c => R c a) p ∧ ∀ a q, p = a :: q → b ≤ a)) := by
  induction hp with
  | one => exact ⟨rfl, .inl ⟨trivial, fun a q e => by cases e; exact Int.le_refl _⟩⟩
  | @more a c p hc hp ih =>
    obtain ⟨i1, i2⟩ := ih
    refine ⟨by rw [List.getLast?_cons_cons]; exact i1, ?_⟩
    unfold nxT at hc
    by_cases q : a < b
    · rw [if_pos q] at hc
      obtain ⟨h1, h2⟩ := List.mem_filter.mp hc
      have hR := (h.e a c).mp h1
      simp at h2
      rcases i2 with ⟨i2, _⟩ | ⟨i2, i3⟩
      · exact .inl ⟨⟨hR, i2⟩, fun a' q' e => by cases e; omega⟩
      · have hb : c = b := by have := i3 _ _ rfl; omega
        subst hb
        cases hp with
        | one => exact .inl ⟨⟨hR, trivial⟩, fun a' q' e => by cases e; omega⟩
        | more h3 _ => rw [nxT_b h] at h3; cases h3
    · rw [if_neg q] at hc
      obtain ⟨h1, h2⟩ := List.mem_filter.mp hc
      have hR := (h.w a c).mp h1
      simp at h2
      rcases i2 with ⟨i2, i3⟩ | ⟨i2, _⟩
      · have hb : c = b := by have := i3 _ _ rfl; omega
        subst hb
        cases hp with
        | one => exact .inr ⟨⟨hR, trivial⟩, fun a' q' e => by cases e; omega⟩
        | more h3 _ => rw [nxT_b h] at h3; cases h3
      · exact .inr ⟨⟨hR, i2⟩, fun a' q' e => by cases e; omega⟩
theorem ch_wyE (h : EdgeOk es ws R) : ∀ {p : List Int}, ch R p → p.getLast? = some b → Wy (nxT es ws b) b p ∧ ∀ a q, p = a :: q → a ≤ b
  | [], _, h2 => by simp at h2
  | [a], _, h2 => by simp at h2; subst h2; exact ⟨.one, fun a q e => by cases e; exact Int.le_refl _⟩
  | a :: c :: p, h1, h2 => by
    obtain ⟨i1, i2⟩ := ch_wyE h (p := c :: p) h1.2 (by rw [List.getLast?_cons_cons] at h2; exact h2)
    have hc := i2 _ _ rfl
    have hac := h.lt a c h1.1
    refine ⟨.more ?_ i1, fun a' q e => by cases e; omega⟩
    unfold nxT
    rw [if_pos (by omega)]
    exact List.mem_filter.mpr ⟨(h.e a c).mpr h1.1, by simpa using hc⟩
theorem ch_wyW (h : EdgeOk es ws R) : ∀ {p : List Int}, ch (fun a c => R c a) p → p.getLast? = some b → Wy (nxT es ws b) b p ∧ ∀ a q, p = a :: q → b ≤ a
  | [], _, h2 => by simp at h2
  | [a], _, h2 => by simp at h2; subst h2; exact ⟨.one, fun a q e => by cases e; exact Int.le_refl _⟩
  | a :: c :: p, h1, h2 => by
    obtain ⟨i1, i2⟩ := ch_wyW h (p := c :: p) h1.2 (by rw [List.getLast?_cons_cons] at h2; exact h2)
    have hc := i2 _ _ rfl
    have hac := h.lt c a h1.1
    refine ⟨.more ?_ i1, fun a' q e => by cases e; omega⟩
    unfold nxT
    rw [if_neg (by omega)]
    exact List.mem_filter.mpr ⟨(h.w a c).mpr h1.1, by simpa using hc⟩
end
end Lw

set_option Elab.async false
set_option linter.all false
set_option maxRecDepth 100000
set_option maxHeartbeats 4000000
/-! all ways of a track from a block, row by row -/
namespace Lw
def sdO (s : Bool) (q : Int × Int) : Int := if s then q.2 else q.1
/-- the rows that are one block longer; s: westward -/
def stepO (js : List (Int × Int)) (s : Bool) (rows : List (List Int)) : List (List Int) := rows.flatMap fun r => (js.filter fun q => decide (sdO s q = r.getLastD 0)).map fun q => r ++ [sdO (!s) q]
def rowsO (js : List (Int × Int)) (s : Bool) (first : Int) : Nat → List (List Int)
  | 0 => [[first]]
  | k + 1 => stepO js s (rowsO js s first k)
def REo (js : List (Int × Int)) (s : Bool) (a c : Int) : Prop := if s then (c, a) ∈ js else (a, c) ∈ js
theorem re_iff {js : List (Int × Int)} {s : Bool} {a c : Int} : REo js s a c ↔ ∃ q ∈ js, sdO s q = a ∧ sdO (!s) q = c := by
  unfold REo sdO
  cases s
  · constructor
    · intro h; exact ⟨_, h, rfl, rfl⟩
    · rintro ⟨q, h, rfl, rfl⟩; exact h
  · constructor
    · intro h; exact ⟨_, h, rfl, rfl⟩
    · rintro ⟨q, h, rfl, rfl⟩; exact h
theorem rows_ne {js : List (Int × Int)} {s : Bool} {first : Int} : ∀ {k : Nat} {p}, p ∈ rowsO js s first k → p ≠ []
  | 0, p, h => by cases List.mem_singleton.mp h; simp
  | k + 1, p, h => by
    obtain ⟨r, _, hr⟩ := List.mem_flatMap.mp h
    obtain ⟨q, _, rfl⟩ := List.mem_map.mp hr
    simp
theorem rows_iff {js : List (Int × Int)} {s : Bool} {first : Int} : ∀ {k : Nat} {p : List Int}, p ∈ rowsO js s first k ↔ p.length = k + 1 ∧ p.head? = some first ∧ ch (REo js s) p
  | 0, p => by
    show p ∈ [[first]] ↔ _
    constructor
    · intro h
      cases List.mem_singleton.mp h
      exact ⟨rfl, rfl, trivial⟩
    · rintro ⟨h1, h2, _⟩
      match p, h1 with
      | [a], _ => simp at h2; simp [h2]
  | k + 1, p => by
    show p ∈ (rowsO js s first k).flatMap _ ↔ _
    rw [List.mem_flatMap]
    constructor
    · rintro ⟨r, hr, hp⟩
      obtain ⟨q, hq, rfl⟩ := List.mem_map.mp hp
      obtain ⟨hq1, hq2⟩ := List.mem_filter.mp hq
      obtain ⟨r1, r2, r3⟩ := (rows_iff (k := k)).mp hr
      have hne := rows_ne hr
      obtain ⟨r', x, rfl⟩ : ∃ r' x, r = r' ++ [x] := ⟨_, _, (List.dropLast_concat_getLast hne).symm⟩
      simp at hq2
      refine ⟨by simp at r1 ⊢; omega, ?_, ?_⟩
      · rw [List.head?_append]; rw [r2]; rfl
      · rw [show r' ++ [x] ++ [sdO (!s) q] = r' ++ [x, sdO (!s) q] by simp, ch_snoc]
        exact ⟨r3, re_iff.mpr ⟨q, hq1, hq2, rfl⟩⟩
    · rintro ⟨h1, h2, h3⟩
      have hne : p ≠ [] := by rintro rfl; simp at h1
      obtain ⟨r, y, rfl⟩ : ∃ r y, p = r ++ [y] := ⟨_, _, (List.dropLast_concat_getLast hne).symm⟩
      have hne2 : r ≠ [] := by rintro rfl; simp at h1
      obtain ⟨r', x, rfl⟩ : ∃ r' x, r = r' ++ [x] := ⟨_, _, (List.dropLast_concat_getLast hne2).symm⟩
      rw [show r' ++ [x] ++ [y] = r' ++ [x, y] by simp, ch_snoc] at h3
      obtain ⟨q, hq, hx, hy⟩ := re_iff.mp h3.2
      refine ⟨r' ++ [x], (rows_iff (k := k)).mpr ⟨by simp at h1 ⊢; omega, ?_, h3.1⟩, List.mem_map.mpr ⟨q, List.mem_filter.mpr ⟨hq, by simp [hx]⟩, by rw [hy]⟩⟩
      rw [List.head?_append] at h2
      cases hh : (r' ++ [x]).head? with
      | none => simp at hh
      | some z => rw [hh] at h2; simpa using h2
/-- chains are short -/
theorem ch_len {R : Int → Int → Prop} {n : Int} (h : ∀ a c, R a c → a < c ∧ c < n) : ∀ {a : Int} {p : List Int}, ch R (a :: p) → a < n → ((a :: p).length : Int) ≤ n - a
  | a, [], _, h2 => by simp; omega
  | a, c :: p, h1, _ => by
    obtain ⟨h3, h4⟩ := h a c h1.1
    have := ch_len h (a := c) (p := p) h1.2 h4
    simp at this ⊢
    omega
theorem ch_lenW {R : Int → Int → Prop} (h : ∀ a c, R a c → c < a ∧ 0 ≤ c) : ∀ {a : Int} {p : List Int}, ch R (a :: p) → 0 ≤ a → ((a :: p).length : Int) ≤ a + 1
  | a, [], _, h2 => by simp; omega
  | a, c :: p, h1, _ => by
    obtain ⟨h3, h4⟩ := h a c h1.1
    have := ch_lenW h (a := c) (p := p) h1.2 h4
    simp at this ⊢
    omega
def waysO (js : List (Int × Int)) (first : Int) (n : Nat) : List (List Int) := [[first]] ++ ((List.range n).flatMap fun k => rowsO js false first (k + 1)) ++ (List.range n).flatMap fun k => rowsO js true first (k + 1)
structure TrkO (js : List (Int × Int)) (n : Nat) : Prop where
  lt : ∀ q ∈ js, 0 ≤ q.1 ∧ q.1 < q.2 ∧ q.2 < (n : Int)
  nd : js.Nodup
theorem ways_iff {js : List (Int × Int)} {first : Int} {n : Nat} (T : TrkO js n) (h0 : 0 ≤ first) (h1 : first < (n : Int)) {p : List Int} : p ∈ waysO js first n ↔ p.head? = some first ∧ (ch (REo js false) p ∨ ch (REo js true) p) := by
  unfold waysO
  rw [List.mem_append, List.mem_append, List.mem_flatMap, List.mem_flatMap]
  constructor
  · rintro ((h | ⟨k, _, h⟩) | ⟨k, _, h⟩)
    · cases List.mem_singleton.mp h
      exact ⟨rfl, .inl trivial⟩
    · obtain ⟨_, h2, h3⟩ := rows_iff.mp h
      exact ⟨h2, .inl h3⟩
    · obtain ⟨_, h2, h3⟩ := rows_iff.mp h
      exact ⟨h2, .inr h3⟩
  · rintro ⟨h2, h3⟩
    match p, h2 with
    | a :: q, h2 =>
      simp at h2
      subst h2
      match q, h3 with
      | [], _ => exact .inl (.inl (by simp))
      | c :: q, .inl h3 =>
        have hl := ch_len (n := (n : Int)) (fun x y h => by have := T.lt _ (show (x, y) ∈ js from h); simp at this; omega) h3 h1
        refine .inl (.inr ⟨q.length, List.mem_range.mpr (by simp at hl; omega), rows_iff.mpr ⟨by simp, rfl, h3⟩⟩)
      | c :: q, .inr h3 =>
        have hl := ch_lenW (fun x y h => by have := T.lt _ (show (y, x) ∈ js from h); simp at this; omega) h3 h0
        refine .inr ⟨q.length, List.mem_range.mpr (by simp at hl; omega), rows_iff.mpr ⟨by simp, rfl, h3⟩⟩
end Lw

set_option Elab.async false
set_option linter.all false
set_option maxRecDepth 100000
set_option maxHeartbeats 4000000
/-! how many ways there are at most -/
namespace Lw
def sm2 {α : Type} (f : α → Nat) : List α → Nat
  | [] => 0
  | x :: l => f x + sm2 f l
theorem sm2_app {α : Type} {f : α → Nat} {l k : List α} : sm2 f (l ++ k) = sm2 f l + sm2 f k := by
  induction l with
  | nil => simp [sm2]
  | cons x l ih => simp only [List.cons_append, sm2, ih]; omega
theorem sm2_map {α β : Type} {f : β → Nat} {g : α → β} {l : List α} : sm2 f (l.map g) = sm2 (fun x => f (g x)) l := by
  induction l with
  | nil => rfl
  | cons x l ih => simp only [List.map_cons, sm2, ih]
theorem sm2_split {f : Nat → Nat} {p : Nat → Bool} {l : List Nat} : sm2 f l = sm2 f (l.filter p) + sm2 f (l.filter fun x => !p x) := by
  induction l with
  | nil => rfl
  | cons x l ih =>
    by_cases h : p x = true
    · rw [List.filter_cons_of_pos h, List.filter_cons_of_neg (by simp [h])]; simp only [sm2]; omega
    · rw [List.filter_cons_of_neg h, List.filter_cons_of_pos (by simp [h])]; simp only [sm2]; omega
theorem one_of {m : Nat} : ∀ {l : List Nat}, l.Nodup → sm2 (fun c => 2 ^ c) (l.filter fun x => decide (x = m)) ≤ 2 ^ m
  | [], _ => Nat.zero_le _
  | x :: l, h => by
    obtain ⟨h1, h2⟩ := List.nodup_cons.mp h
    by_cases z : x = m
    · subst z
      rw [List.filter_cons_of_pos (by simp), show (l.filter fun y => decide (y = x)) = [] from List.filter_eq_nil_iff.mpr fun y hy => by simp; exact fun e => h1 (e ▸ hy)]
      simp [sm2]
    · rw [List.filter_cons_of_neg (by simp [z])]
      exact one_of h2
theorem pow_sum : ∀ {m : Nat} {l : List Nat}, l.Nodup → (∀ c ∈ l, c < m) → sm2 (fun c => 2 ^ c) l + 1 ≤ 2 ^ m
  | 0, l, _, h => by
    cases l with
    | nil => simp [sm2]
    | cons x l => have := h x List.mem_cons_self; omega
  | m + 1, l, hn, h => by
    rw [sm2_split (p := fun x => decide (x = m))]
    have a := one_of (m := m) hn
    have b := pow_sum (m := m) (l := l.filter fun x => !decide (x = m)) (hn.filter _) fun c hc => by
      obtain ⟨h1, h2⟩ := List.mem_filter.mp hc
      have := h c h1
      simp at h2
      omega
    rw [Nat.pow_succ]
    omega
def ixO (n : Nat) (s : Bool) (c : Int) : Nat := if s then c.toNat else n - 1 - c.toNat
def wtO (n : Nat) (s : Bool) (rows : List (List Int)) : Nat := sm2 (fun r => 2 ^ ixO n s (r.getLastD 0)) rows
theorem succ_le {js : List (Int × Int)} {n : Nat} (T : TrkO js n) (s : Bool) (a : Int) (h0 : 0 ≤ a) (h1 : a < (n : Int)) : sm2 (fun q => 2 ^ ixO n s (sdO (!s) q)) (js.filter fun q => decide (sdO s q = a)) + 1 ≤ 2 ^ ixO n s a := by
  have key := pow_sum (m := ixO n s a) (l := (js.filter fun q => decide (sdO s q = a)).map fun q => ixO n s (sdO (!s) q)) ?_ ?_
  · rw [sm2_map] at key
    exact key
  · refine List.Pairwise.map (R := fun q q' => q ∈ js ∧ q' ∈ js ∧ q ≠ q' ∧ sdO s q = a ∧ sdO s q' = a) _ (fun q q' h => ?_) ?_
    · obtain ⟨hq, hq', hne, e1, e2⟩ := h
      have l1 := T.lt q hq
      have l2 := T.lt q' hq'
      intro z
      apply hne
      obtain ⟨x1, x2⟩ := q
      obtain ⟨y1, y2⟩ := q'
      cases s
      · simp [ixO, sdO] at z e1 e2 l1 l2
        rw [Prod.mk.injEq]
        omega
      · simp [ixO, sdO] at z e1 e2 l1 l2
        rw [Prod.mk.injEq]
        omega
    · refine List.Pairwise.imp_of_mem (R := fun q q' => q ≠ q') (fun {q q'} h1 h2 h3 => ?_) (T.nd.filter _)
      obtain ⟨a1, a2⟩ := List.mem_filter.mp h1
      obtain ⟨b1, b2⟩ := List.mem_filter.mp h2
      exact ⟨a1, b1, h3, by simpa using a2, by simpa using b2⟩
  · intro c hc
    obtain ⟨q, hq, rfl⟩ := List.mem_map.mp hc
    obtain ⟨a1, a2⟩ := List.mem_filter.mp hq
    have l1 := T.lt q a1
    simp at a2
    unfold ixO sdO at *
    cases s
    · simp at a2 ⊢; omega
    · simp at a2 ⊢; omega
theorem step_wt {js : List (Int × Int)} {n : Nat} (T : TrkO js n) {s : Bool} : ∀ {rows : List (List Int)}, (∀ r ∈ rows, 0 ≤ r.getLastD 0 ∧ r.getLastD 0 < (n : Int)) → wtO n s (stepO js s rows) + rows.length ≤ wtO n s rows
  | [], _ => by simp [wtO, stepO, sm2]
  | r :: rows, h => by
    have ih := step_wt T (s := s) (rows := rows) fun x hx => h x (List.mem_cons_of_mem _ hx)
    obtain ⟨h0, h1⟩ := h r List.mem_cons_self
    have k := succ_le T s _ h0 h1
    have e : wtO n s (stepO js s (r :: rows)) = sm2 (fun q => 2 ^ ixO n s (sdO (!s) q)) (js.filter fun q => decide (sdO s q = r.getLastD 0)) + wtO n s (stepO js s rows) := by
      unfold wtO stepO
      rw [List.flatMap_cons, sm2_app, sm2_map]
      simp
    rw [e]
    show _ + (rows.length + 1) ≤ 2 ^ ixO n s (r.getLastD 0) + wtO n s rows
    omega
theorem rows_last {js : List (Int × Int)} {n : Nat} (T : TrkO js n) {s : Bool} {first : Int} (h0 : 0 ≤ first) (h1 : first < (n : Int)) : ∀ {k : Nat} {r}, r ∈ rowsO js s first k → 0 ≤ r.getLastD 0 ∧ r.getLastD 0 < (n : Int)
  | 0, r, h => by cases List.mem_singleton.mp h; exact ⟨h0, h1⟩
  | k + 1, r, h => by
    obtain ⟨r', _, hr⟩ := List.mem_flatMap.mp h
    obtain ⟨q, hq, rfl⟩ := List.mem_map.mp hr
    have l1 := T.lt q (List.mem_filter.mp hq).1
    unfold sdO
    simp
    cases s <;> simp <;> omega
/-- rows before, and what is left -/
theorem rows_wt {js : List (Int × Int)} {n : Nat} (T : TrkO js n) {s : Bool} {first : Int} (h0 : 0 ≤ first) (h1 : first < (n : Int)) : ∀ k : Nat, sm2 (fun j => (rowsO js s first j).length) (List.range k) + wtO n s (rowsO js s first k) ≤ 2 ^ (n - 1)
  | 0 => by
    show 0 + (2 ^ ixO n s first + 0) ≤ _
    rw [Nat.zero_add, Nat.add_zero]
    refine Nat.pow_le_pow_right (by omega) ?_
    unfold ixO
    split <;> omega
  | k + 1 => by
    have ih := rows_wt T (s := s) h0 h1 k
    have st := step_wt T (s := s) (rows := rowsO js s first k) fun r hr => rows_last T h0 h1 hr
    rw [List.range_succ, sm2_app]
    show _ + ((rowsO js s first k).length + 0) + wtO n s (stepO js s (rowsO js s first k)) ≤ _
    omega
theorem rowsO_len {js : List (Int × Int)} {n : Nat} (T : TrkO js n) {s : Bool} {first : Int} (h0 : 0 ≤ first) (h1 : first < (n : Int)) (hn : n ≤ 8) (k : Nat) : (rowsO js s first k).length ≤ 128 := by
  have := rows_wt T (s := s) h0 h1 (k + 1)
  rw [List.range_succ, sm2_app] at this
  have h : sm2 (fun j => (rowsO js s first j).length) [k] = (rowsO js s first k).length := by simp [sm2]
  have p : 2 ^ (n - 1) ≤ 2 ^ 7 := Nat.pow_le_pow_right (by omega) (by omega)
  omega
end Lw

set_option Elab.async false
set_option linter.all false
set_option maxRecDepth 100000
set_option maxHeartbeats 4000000
/-! distances and least ways of a track -/
namespace Lw
open PySem PySem.Spec L2 PySem.SeqAt PyProof.Rows
def nxO (js : List (Int × Int)) (b a : Int) : List Int := nxT (fun a => srtI (eo js a)) (fun a => srtI (wo js a)) b a
def dsO (lens : List Int) (js : List (Int × Int)) (b a : Int) : Option Int := dst (nxO js b) (lenOf lens) b (fun a => (a - b).natAbs) a
theorem Gd.ex {nx : Int → List Int} {len : Int → Int} {b : Int} {dst : Int → Option Int} (D : DOk nx len b dst) {rk : Int → Nat} (hr : ∀ a c, c ∈ nx a → rk c < rk a) : ∀ k a d, rk a < k → dst a = some d → ∃ p, Gd nx len b dst (a :: p) := fun k => by
  induction k with
  | zero => intro a d h; omega
  | succ k ih =>
    intro a d h e
    by_cases z : a = b
    · rw [z]; exact ⟨[], .one⟩
    · obtain ⟨c0, hc0, ec0⟩ := D.next z e
      have hm : c0 ∈ (nx a).filter fun c => decide (dst c = some (d - len a)) := List.mem_filter.mpr ⟨hc0, by simpa using ec0⟩
      obtain ⟨c, hc⟩ : ∃ c, ((nx a).filter fun c => decide (dst c = some (d - len a))).min? = some c := by
        cases hq : ((nx a).filter fun c => decide (dst c = some (d - len a))).min? with
        | none => rw [List.min?_eq_none_iff] at hq; rw [hq] at hm; cases hm
        | some c => exact ⟨c, rfl⟩
      rw [List.min?_eq_some_iff] at hc
      obtain ⟨h1, h2⟩ := hc
      obtain ⟨m1, m2⟩ := List.mem_filter.mp h1
      have m2 := of_decide_eq_true m2
      obtain ⟨p, hp⟩ := ih c _ (by have := hr a c m1; omega) m2
      exact ⟨c :: p, .more z e m1 m2 (fun c' h3 h4 => h2 c' (List.mem_filter.mpr ⟨h3, by simpa using h4⟩)) hp⟩
section
variable {n : Int} {parks lens : List Int} {js : List (Int × Int)} {b : Int}
theorem edge_ok (h : JOk n parks js) : EdgeOk (fun a => srtI (eo js a)) (fun a => srtI (wo js a)) fun a c => (a, c) ∈ js where
  e := fun a c => by rw [(srtI_perm _).mem_iff, mem_eo]
  w := fun a c => by rw [(srtI_perm _).mem_iff, mem_wo]
  lt := fun a c m => (h.mem m).2.1
theorem nxO_rk (h : JOk n parks js) : ∀ a c, c ∈ nxO js b a → (c - b).natAbs < (a - b).natAbs := nxT_rk (edge_ok h)
theorem dsO_ok (h : JOk n parks js) : DOk (nxO js b) (lenOf lens) b (dsO lens js b) := dst_ok (nxO_rk h) (nxT_b (edge_ok h))
theorem dsO_eq (h : JOk n parks js) (a : Int) : dsO lens js b a = if a = b then some (lenOf lens b) else (((nxO js b a).filterMap (dsO lens js b)).min?).map (· + lenOf lens a) := dst_eq (nxO_rk h) a
theorem nxO_mem (h : JOk n parks js) {a c : Int} (m : c ∈ nxO js b a) : 0 ≤ c ∧ c < n := by
  unfold nxO nxT at m
  split at m
  · have := h.mem (mem_eo.mp ((srtI_perm _).mem_iff.mp (List.mem_filter.mp m).1))
    simp at this
    omega
  · have := h.mem (mem_wo.mp ((srtI_perm _).mem_iff.mp (List.mem_filter.mp m).1))
    simp at this
    omega
theorem re_f : REo js false = fun a c => (a, c) ∈ js := by funext a c; simp [REo]
theorem re_t : REo js true = fun a c => (c, a) ∈ js := by funext a c; simp [REo]
theorem wy_iff (h : JOk n parks js) {p : List Int} : Wy (nxO js b) b p ↔ p.getLast? = some b ∧ (ch (REo js false) p ∨ ch (REo js true) p) := by
  rw [re_f, re_t]
  constructor
  · intro w
    obtain ⟨h1, h2⟩ := wy_side (edge_ok h) w
    exact ⟨h1, h2.imp (·.1) (·.1)⟩
  · rintro ⟨h1, h2 | h2⟩
    · exact (ch_wyE (edge_ok h) h2 h1).1
    · exact (ch_wyW (edge_ok h) h2 h1).1
theorem wy_rev (h : JOk n parks js) {p : List Int} : Wy (nxO js b) b p.reverse ↔ p.head? = some b ∧ (ch (REo js false) p ∨ ch (REo js true) p) := by
  rw [wy_iff h, List.getLast?_reverse, ch_rev, ch_rev, re_f, re_t]
  constructor
  · rintro ⟨h1, h2⟩; exact ⟨h1, h2.symm⟩
  · rintro ⟨h1, h2⟩; exact ⟨h1, h2.symm⟩
theorem last_iff {p : List Int} {c : Int} (hn : p ≠ []) : p.getLast? = some c ↔ p.getLastD 0 = c := by
  obtain ⟨r, x, rfl⟩ : ∃ r x, p = r ++ [x] := ⟨_, _, (List.dropLast_concat_getLast hn).symm⟩
  simp
end
section
variable {n : Nat} {parks lens : List Int} {js : List (Int × Int)} {b first : Int}
/-- the rows from first to b, read backward, are the ways from b to first -/
theorem row_rev (h : JOk (n : Int) parks js) (T : TrkO js n) (h0 : 0 ≤ first) (h1 : first < (n : Int)) {p : List Int} : p ∈ waysO js first n ↔ Wy (nxO js first) first p.reverse := by
  rw [ways_iff T h0 h1, wy_rev h]
theorem row_fwd (h : JOk (n : Int) parks js) (T : TrkO js n) (h0 : 0 ≤ first) (h1 : first < (n : Int)) {p : List Int} (hn : p ≠ []) : (p ∈ waysO js first n ∧ p.getLastD 0 = b) ↔ (Wy (nxO js b) b p ∧ p.head? = some first) := by
  rw [ways_iff T h0 h1, wy_iff h, ← last_iff hn]
  constructor
  · rintro ⟨⟨x, y⟩, z⟩; exact ⟨⟨z, y⟩, x⟩
  · rintro ⟨⟨z, y⟩, x⟩; exact ⟨⟨x, y⟩, z⟩
def rowsTo (js : List (Int × Int)) (first : Int) (n : Nat) (b : Int) : List (List Int) := (waysO js first n).filter fun p => decide (p.getLastD 0 = b)
theorem far_at (h : JOk (n : Int) parks js) (T : TrkO js n) (h0 : 0 ≤ first) (h1 : first < (n : Int)) : (rowsTo js first n b = [] ∧ dsO lens js first b = none) ∨ ∃ d, dsO lens js first b = some d ∧ d ∈ (rowsTo js first n b).map (tot (lenOf lens)) ∧ ∀ y ∈ (rowsTo js first n b).map (tot (lenOf lens)), d ≤ y := by
  have low : ∀ p ∈ rowsTo js first n b, ∃ d, dsO lens js first b = some d ∧ d ≤ tot (lenOf lens) p := fun p m => by
    obtain ⟨m1, m2⟩ := List.mem_filter.mp m
    have m2 := of_decide_eq_true m2
    have hn : p ≠ [] := fun z => by subst z; have := (ways_iff T h0 h1).mp m1; simp at this
    have w := (row_rev h T h0 h1).mp m1
    have hl := (last_iff hn).mpr m2
    cases hq : p.reverse with
    | nil => simp at hq; exact absurd hq hn
    | cons a q =>
      have : a = b := by
        have e := congrArg List.head? hq
        rw [List.head?_reverse, hl] at e
        simpa using e.symm
      subst this
      obtain ⟨d, e1, e2⟩ := (dsO_ok (lens := lens) h).le w a q hq
      exact ⟨d, e1, by rwa [tot_rev] at e2⟩
  cases hd : dsO lens js first b with
  | none =>
    refine .inl ⟨?_, rfl⟩
    cases hr : rowsTo js first n b with
    | nil => rfl
    | cons p r =>
      obtain ⟨d, e, _⟩ := low p (by rw [hr]; exact List.mem_cons_self)
      rw [hd] at e
      cases e
  | some d =>
    refine .inr ⟨d, rfl, ?_, fun y hy => ?_⟩
    · obtain ⟨p, w, t⟩ := (dsO_ok (lens := lens) h).ex (nxO_rk h) _ b d (Nat.le_refl _) hd
      refine List.mem_map.mpr ⟨(b :: p).reverse, List.mem_filter.mpr ⟨(row_rev h T h0 h1).mpr (by rw [List.reverse_reverse]; exact w), ?_⟩, by rw [tot_rev]; exact t⟩
      simp
    · obtain ⟨p, m, rfl⟩ := List.mem_map.mp hy
      obtain ⟨d', e1, e2⟩ := low p m
      rw [hd] at e1
      cases e1
      exact e2
def lexW (p q : Int × List Int) : Prop := p.1 < q.1 ∨ (p.1 = q.1 ∧ p.2 ≤ q.2)
instance : DecidableRel lexW := fun p q => by unfold lexW; infer_instance
def encW (b : Int × List Int) : PyData := .tuple [.int b.1, dI b.2]
theorem least_at (h : JOk (n : Int) parks js) (T : TrkO js n) (h0 : 0 ≤ first) (h1 : first < (n : Int)) : (rowsTo js first n b = [] ∧ dsO lens js b first = none) ∨ ∃ d q, dsO lens js b first = some d ∧ Gd (nxO js b) (lenOf lens) b (dsO lens js b) (first :: q) ∧ first :: q ∈ rowsTo js first n b ∧ ∀ r ∈ rowsTo js first n b, lexW (tot (lenOf lens) (first :: q), first :: q) (tot (lenOf lens) r, r) := by
  have way : ∀ p ∈ rowsTo js first n b, ∃ q, p = first :: q ∧ Wy (nxO js b) b p := fun p m => by
    obtain ⟨m1, m2⟩ := List.mem_filter.mp m
    have m2 := of_decide_eq_true m2
    have hn : p ≠ [] := fun z => by subst z; have := (ways_iff T h0 h1).mp m1; simp at this
    obtain ⟨w, hh⟩ := (row_fwd h T h0 h1 hn).mp ⟨m1, m2⟩
    match p, hh with
    | a :: q, hh => simp at hh; subst hh; exact ⟨q, rfl, w⟩
  have D := dsO_ok (lens := lens) (b := b) h
  cases hd : dsO lens js b first with
  | none =>
    refine .inl ⟨?_, rfl⟩
    cases hr : rowsTo js first n b with
    | nil => rfl
    | cons p r =>
      obtain ⟨q, e, w⟩ := way p (by rw [hr]; exact List.mem_cons_self)
      obtain ⟨d, e1, _⟩ := D.le w first q e
      rw [hd] at e1
      cases e1
  | some d =>
    obtain ⟨q, g⟩ := Gd.ex D (nxO_rk h) _ first d (Nat.lt_succ_self _) hd
    refine .inr ⟨d, q, rfl, g, ?_, fun r m => ?_⟩
    · obtain ⟨a1, a2⟩ := (row_fwd h T h0 h1 (b := b) (p := first :: q) (by simp)).mpr ⟨(g.way D).1, rfl⟩
      exact List.mem_filter.mpr ⟨a1, decide_eq_true a2⟩
    · obtain ⟨q', rfl, w⟩ := way r m
      exact g.least D w
theorem dataLe_W : PySem.W.dataLe false encW = fun p q => decide (lexW p q) := by
  rw [PySem.W.dataLe_eq]
  funext p q
  show (!PySem.W.dataLt (encW q) (encW p)) = _
  have e : PySem.W.dataLt (encW q) (encW p) = decide (¬ lexW p q) := by
    unfold encW
    rw [PySem.W.dataLt_pair (by simp [PySem.W.alike]) (by simp only [PySem.W.alike, dI]; exact PySem.W.alike_ints _ _), eqv_int, eqv_I, PySem.W.dataLt_int, PySem.W.dataLt_list]
    have e2 : PyProof.Rows.lexLt itemOrd (PySem.W.keyToksAll (q.2.map .int)) (PySem.W.keyToksAll (p.2.map .int)) = decide (q.2 < p.2) := PySem.W.dataLt_ints _ _
    rw [e2]
    by_cases hw : lexW p q
    · rw [decide_eq_false (p := ¬ lexW p q) (fun z => z hw)]
      rcases hw with h | ⟨h, h2⟩
      · have n1 : ¬ (q.1 = p.1) := by omega
        rw [if_neg (by simpa using n1), decide_eq_false (by omega)]
      · rw [if_pos (by simpa using h.symm)]
        split
        · rfl
        · exact decide_eq_false fun z => (List.not_lt.mpr h2) z
    · rw [decide_eq_true (p := ¬ lexW p q) hw]
      have hw' : ¬ (p.1 < q.1 ∨ (p.1 = q.1 ∧ p.2 ≤ q.2)) := hw
      by_cases h1 : q.1 = p.1
      · have h2 : ¬ p.2 ≤ q.2 := fun z => hw' (.inr ⟨h1.symm, z⟩)
        have h3 : q.2 < p.2 := List.not_le.mp h2
        have h4 : ¬ (q.2 = p.2) := fun z => by rw [z] at h3; exact List.lt_irrefl _ h3
        rw [if_pos (by simpa using h1), if_neg (by simpa using h4), decide_eq_true h3]
      · have : ¬ p.1 < q.1 := fun z => hw' (.inl z)
        rw [if_neg (by simpa using h1), decide_eq_true (by omega)]
  rw [e]
  by_cases h : lexW p q <;> simp [h]
theorem lexW_trans {p q r : Int × List Int} (h1 : lexW p q) (h2 : lexW q r) : lexW p r := by
  unfold lexW at *
  rcases h1 with h1 | ⟨h1, h1'⟩ <;> rcases h2 with h2 | ⟨h2, h2'⟩
  · exact .inl (by omega)
  · exact .inl (by omega)
  · exact .inl (by omega)
  · exact .inr ⟨by omega, List.le_trans h1' h2'⟩
theorem lexW_total (p q : Int × List Int) : lexW p q ∨ lexW q p := by
  unfold lexW
  rcases Int.lt_trichotomy p.1 q.1 with h | h | h
  · exact .inl (.inl h)
  · rcases ile_total p.2 q.2 with h2 | h2
    · exact .inl (.inr ⟨h, h2⟩)
    · exact .inr (.inr ⟨h.symm, h2⟩)
  · exact .inr (.inl h)
theorem lexW_anti {p q : Int × List Int} (h1 : lexW p q) (h2 : lexW q p) : p = q := by
  unfold lexW at *
  have e1 : p.1 = q.1 := by omega
  have e2 : p.2 = q.2 := List.le_antisymm (by rcases h1 with h | h; omega; exact h.2) (by rcases h2 with h | h; omega; exact h.2)
  exact Prod.ext e1 e2
/-- the first of the sorted rows is the least one -/
theorem sortW_head {l : List (Int × List Int)} {p : Int × List Int} (hm : p ∈ l) (hl : ∀ q ∈ l, lexW p q) : ∃ r, l.mergeSort (PySem.W.dataLe false encW) = p :: r := by
  rw [dataLe_W]
  have hs := List.pairwise_mergeSort (le := fun p q : Int × List Int => decide (lexW p q)) (fun a b c h1 h2 => decide_eq_true (lexW_trans (of_decide_eq_true h1) (of_decide_eq_true h2))) (fun a b => by
    rcases lexW_total a b with h | h
    · simp [h]
    · simp [h]) l
  have hp := List.mergeSort_perm l (fun p q : Int × List Int => decide (lexW p q))
  cases hq : l.mergeSort (fun p q : Int × List Int => decide (lexW p q)) with
  | nil => rw [hq] at hp; rw [← List.Perm.nil_eq hp] at hm; cases hm
  | cons x r =>
    rw [hq] at hs hp
    have hx : lexW p x := hl x (hp.mem_iff.mp List.mem_cons_self)
    rcases List.mem_cons.mp (hp.mem_iff.mpr hm) with e | e
    · exact ⟨r, by rw [e]⟩
    · have := of_decide_eq_true ((List.pairwise_cons.mp hs).1 p e)
      rw [lexW_anti hx this]
      exact ⟨r, rfl⟩
end
end Lw

set_option Elab.async false
set_option linter.all false
set_option maxRecDepth 100000
set_option maxHeartbeats 4000000
/-! what the law of least ways reckons -/
namespace Lw
open PySem PySem.Spec L2
open Evl (Ex)
section
variable {K : PySem.W.Frag} {C CN CW : Addr} {σ : L2.St} {G H H1 : Hp} {D : Ends} {ta tb te tl : TE} {t : TT} {tu : TS} {P : VP}
/-- [f(x) for x in xs if p(x)] -/
theorem el_fmA {α : Type} {xs : List V} {l : List α} {f g : α → PyData} {p : α → Bool} {j : Nat} (h : EF tl σ G fun v G' => ∃ a, v = .ref a ∧ SqL K G' a xs) (hd : DpAll K G xs (l.map f)) (hz : l.length ≤ 40000) (hw : ∀ x, wipe ((wipe σ [j]).set j (some x)) [j] = wipe σ [j])
    (ht : ∀ x w G', Ex G G' → w ∈ l → Dp K G' x (f w) → ET t ((wipe σ [j]).set j (some x)) G' (· = p w)) (he : ∀ x w G', Ex G G' → w ∈ l → p w = true → Dp K G' x (f w) → EF te ((wipe σ [j]).set j (some x)) G' (DV K (g w))) : EF (tLc (iList K tl) (gName j) t te [j]) σ G (LS K ((l.filter p).map g)) := by
  have hlen : xs.length = l.length := by have := dpa_len hd; rw [List.length_map] at this; exact this
  refine ef_lcL (xs := xs) (fun i acc G' => DpAll K G' acc (((l.take i).filter p).map g)) h (by omega) hw (fun _ _ => .nil) (fun i x acc G' e hi hI => ?_) fun q acc G' _ h2 _ _ hI => ⟨q, acc, rfl, upd_same, dpax (by rw [List.take_of_length_le (by omega)] at hI; exact hI) (ex_in h2)⟩
  obtain ⟨dd, hd1, dy⟩ := dpa_get hd hi
  rw [List.getElem?_map] at hd1
  obtain ⟨w, hw1, rfl⟩ := Option.map_eq_some_iff.mp hd1
  rw [show l.take (i + 1) = l.take i ++ [w] by rw [List.take_succ, hw1, Option.toList_some], List.filter_append]
  refine ec_if (ht x w G' e (List.mem_of_getElem? hw1) (dpx dy e)) (fun hb => (he x w G' e (List.mem_of_getElem? hw1) hb.symm (dpx dy e)).imp fun v G2 e2 pv => ?_) (fun hb => ?_)
  · rw [show ([w].filter p) = [w] by simp [← hb], List.map_append]
    exact dpa_snoc (dpax hI e2) pv
  · rw [show ([w].filter p) = [] by simp [← hb], List.append_nil]
    exact hI
end
theorem jok_ndJ {n : Int} {parks : List Int} {js : List (Int × Int)} (h : JOk n parks js) : js.Nodup := by
  induction h with
  | nil => exact List.nodup_nil
  | @snoc js w e h hn ih =>
    rw [List.nodup_append]
    exact ⟨ih, by simp, fun a ha b hb => by rw [List.mem_singleton.mp hb]; exact fun z => hn.new (z ▸ ha)⟩
theorem trkO_of {n : Nat} {parks : List Int} {js : List (Int × Int)} (h : JOk (n : Int) parks js) : TrkO js n := ⟨fun q m => h.mem m, jok_ndJ h⟩
theorem ch_in {R : Int → Int → Prop} {n : Int} (h : ∀ a c, R a c → 0 ≤ c ∧ c < n) : ∀ {a : Int} {p : List Int}, ch R (a :: p) → (0 ≤ a ∧ a < n) → ∀ b ∈ a :: p, 0 ≤ b ∧ b < n
  | a, [], _, h2, b, m => by rw [List.mem_singleton.mp m]; exact h2
  | a, c :: p, h1, h2, b, m => by
    rcases List.mem_cons.mp m with rfl | m
    · exact h2
    · exact ch_in h (a := c) (p := p) h1.2 (h a c h1.1) b m
theorem rgI_at {n i : Nat} (h : i < n) : (rgI n)[i]? = some (i : Int) := by
  unfold rgI
  rw [List.getElem?_map, List.getElem?_range h]
  rfl
theorem alikeW {l : List (Int × List Int)} : PySem.W.AllAlike (l.map encW) := PySem.W.AllAlike.of fun b b' => by
  simp only [PySem.W.alike, PySem.W.alikeAll, encW, dI, Bool.and_true, Bool.true_and, Bool.and_eq_true]
  exact PySem.W.alike_ints _ _
theorem sortW {l : List (Int × List Int)} : PySem.W.Sortable (l.map encW) := PySem.W.Sortable.tuples fun b => ⟨_, _, rfl⟩
theorem depthW {l : List (Int × List Int)} : ∀ b ∈ l, (encW b).depth ≤ 50 := fun b _ => by
  have := dep_ints b.2
  simp only [encW, dI, PyData.depth, PyData.depthAll] at this ⊢
  omega
def nwD (a b : Int) : PyData := .tuple [.str "NoWay", .int a, .int b, .bool true, .bool true, .bool false]
def nbD (b : Int) : PyData := errD "NoBlock" b true true false
def tolDD (d : PyData) : PyData := .tuple [.str "told", d]
/-- what distances answers, as the law writes it -/
def IsFar (lens : List Int) (js : List (Int × Int)) (a : Int) (d : PyData) : Prop := (¬ (0 ≤ a ∧ a < (lens.length : Int)) ∧ d = nbD a) ∨ ((0 ≤ a ∧ a < (lens.length : Int)) ∧ d = tolDD (.list (((rgI lens.length).map (dsO lens js a)).map dOpt)))
/-- what least_way answers, as the law writes it -/
def IsLeast (lens : List Int) (js : List (Int × Int)) (a b : Int) (d : PyData) : Prop := (¬ (0 ≤ a ∧ a < (lens.length : Int)) ∧ d = nbD a) ∨ ((0 ≤ a ∧ a < (lens.length : Int)) ∧ ¬ (0 ≤ b ∧ b < (lens.length : Int)) ∧ d = nbD b) ∨ ((0 ≤ a ∧ a < (lens.length : Int)) ∧ (0 ≤ b ∧ b < (lens.length : Int)) ∧ dsO lens js b a = none ∧ d = nwD a b) ∨ ((0 ≤ a ∧ a < (lens.length : Int)) ∧ (0 ≤ b ∧ b < (lens.length : Int)) ∧ ∃ q, Gd (nxO js b) (lenOf lens) b (dsO lens js b) (a :: q) ∧ q.length ≤ 300 ∧ d = tolDD (dI (a :: q)))
theorem Gd.uniq {nx : Int → List Int} {len : Int → Int} {b : Int} {dst : Int → Option Int} {p : List Int} (h : Gd nx len b dst p) : ∀ {q : List Int}, Gd nx len b dst q → q.head? = p.head? → q = p := by
  induction h with
  | one =>
    intro q hq e
    cases hq with
    | one => rfl
    | more n e2 h ec l hp => simp at e; exact absurd e n
  | @more a c d p n e h ec l hp ih =>
    intro q hq eq
    cases hq with
    | one => simp at eq; exact absurd eq.symm n
    | @more a' c' d' p' n' e' h' ec' l' hp' =>
      simp at eq
      subst eq
      rw [e] at e'
      cases e'
      have h1 := l c' h' ec'
      have h2 := l' c h ec
      have h3 : c = c' := by omega
      subst h3
      have := ih hp' rfl
      rw [this]
theorem okb_nb {b : Int} {n : Nat} : Okb (n + 1) (nbD b) := by
  refine ⟨by simp, fun d m => ?_⟩
  simp only [List.mem_cons, List.not_mem_nil, or_false] at m
  rcases m with rfl | rfl | rfl | rfl | rfl <;> cases n <;> trivial
theorem okb_nw {a b : Int} {n : Nat} : Okb (n + 1) (nwD a b) := by
  refine ⟨by simp, fun d m => ?_⟩
  simp only [List.mem_cons, List.not_mem_nil, or_false] at m
  rcases m with rfl | rfl | rfl | rfl | rfl | rfl <;> cases n <;> trivial
theorem okb_int {n : Nat} {z : Int} : Okb n (.int z) := by cases n <;> trivial
theorem okb_told {ds : List PyData} {n : Nat} (hl : ds.length ≤ 1000) (h : ∀ d ∈ ds, Okb n d) : Okb (n + 2) (tolDD (.list ds)) := by
  refine ⟨by simp, fun d m => ?_⟩
  simp only [List.mem_cons, List.not_mem_nil, or_false] at m
  rcases m with rfl | rfl
  · trivial
  · exact ⟨hl, h⟩
theorem IsFar.okb {lens : List Int} {js : List (Int × Int)} {a : Int} {d : PyData} (hl : lens.length ≤ 200) (h : IsFar lens js a d) : Okb 3 d := by
  rcases h with ⟨_, rfl⟩ | ⟨_, rfl⟩
  · exact okb_nb
  · refine okb_told (by simp [rgI]; omega) fun d m => ?_
    obtain ⟨o, _, rfl⟩ := List.mem_map.mp m
    cases o with
    | none => trivial
    | some z => exact okb_int
theorem IsLeast.okb {lens : List Int} {js : List (Int × Int)} {a b : Int} {d : PyData} (h : IsLeast lens js a b d) : Okb 3 d := by
  rcases h with ⟨_, rfl⟩ | ⟨_, _, rfl⟩ | ⟨_, _, _, rfl⟩ | ⟨_, _, q, _, hq, rfl⟩
  · exact okb_nb
  · exact okb_nb
  · exact okb_nw
  · refine okb_told (by simp; omega) fun d m => ?_
    obtain ⟨z, _, rfl⟩ := List.mem_map.mp m
    exact okb_int
end Lw

set_option Elab.async false
set_option linter.all false
set_option maxRecDepth 100000
set_option maxHeartbeats 4000000
/-! comprehensions over enumerate and over pairs; queues by place -/
namespace Lw
open PySem PySem.Spec L2
open Evl (Ex)
section
variable {K : PySem.W.Frag} {σ : L2.St} {G G' H H1 : Hp} {D : Ends} {ta tb te tk tl : TE} {t : TT} {P : VP}
theorem cw_new {T : Addr} {Dl : Addr} {I : Nat → List V → Hp → Prop} {i : Nat} {H' : Hp} {o : HO} (p : CW G H1 Dl I i H') (hT : H' T = none) : CW G H1 Dl I i (upd H' T o) := by
  obtain ⟨G', xs, e1, e2, gD, hd, hl, hI, e3, hc⟩ := p
  have nD : Dl ≠ T := fun z => by rw [z, hT] at hd; cases hd
  exact ⟨G', xs, e1, e2.trans (ex_in hT), gD, by rw [upd_ne nD]; exact hd, hl, hI, e3.trans (ex_in hT), hc⟩
/-- [f(i, x) for i, x in enumerate(xs)] -/
theorem el_mapEn {a : Addr} {xs : List V} {i j : Nat} {g : Nat → PyData} (h : EF tl σ G (XV (.ref a))) (hs : SqL K G a xs) (hz : xs.length ≤ 40000) (hw : ∀ p q, wipe (((wipe σ [i, j]).set i p).set j q) [i, j] = wipe σ [i, j])
    (he : ∀ (n : Nat) x G', Ex G G' → xs[n]? = some x → EF te (((wipe σ [i, j]).set i (some (.int (n : Nat)))).set j (some x)) G' (DV K (g n))) :
    EF (tLc (iEnum K (tCons tl tNil)) (gTup K 2 (gCons (gName i) (gCons (gName j) gNil))) tYes te [i, j]) σ G (LS K ((List.range xs.length).map g)) := by
  intro H0 e Q q
  unfold tLc iEnum
  refine (ea_one h) H0 e _ fun us G1 H1 g1 ⟨x, ev, hx⟩ => ?_
  cases (show x = .ref a from hx)
  subst ev
  refine ⟨a, xs, rfl, Evl.ex_l (g1.up.trans g1.ok) hs, fun Dl hD => ?_⟩
  refine lc_it (walk_enum (xs := xs)) (CW G1 H1 Dl (fun n acc G' => DpAll K G' acc ((List.range n).map g))) (cw_start g1.ok hD .nil) (fun n H' _ p => ?_) (fun n x H' H'' hn p y => ?_) (fun H' p => ?_)
  · obtain ⟨G', _, e1, e2, _⟩ := p
    exact Evl.ex_l (g1.up.trans (e1.trans e2)) hs
  · obtain ⟨T, x1, y1, rfl, hT, rfl, e1, e2⟩ := y
    cases e1
    refine g_two (Evl.st_of upd_same) ⟨hw _ _, ?_⟩
    refine cw_turn hD (cw_new p hT) (by omega) fun acc G' e' hI => ec_all ((he n y1 G' (g1.up.trans e') e2).imp fun v G2 e3 pv => ?_)
    rw [List.range_succ, List.map_append]
    exact dpa_snoc (dpax hI e3) pv
  · exact cw_end (P := LS K ((List.range xs.length).map g)) hD g1.ok p (fun p xs' G' _ g' _ hl hI => ⟨p, xs', rfl, upd_same, dpax hI (ex_in g')⟩) fun v G' H' g' p' => q v G' H' (g1.trans g') p'
/-- [f(a, b) for a, b in js] -/
theorem el_mapP {a : Addr} {xs : List V} {js : List (Int × Int)} {i j : Nat} {g : Int × Int → PyData} (h : EF tl σ G (XV (.ref a))) (hx : SqL K G a xs) (hd : DpAll K G xs (js.map dP)) (hl : js.length ≤ 40000) (hij : ∀ p q, wipe (((wipe σ [i, j]).set i p).set j q) [i, j] = wipe σ [i, j])
    (he : ∀ (p : Int × Int) G', Ex G G' → p ∈ js → EF te (((wipe σ [i, j]).set i (some (.int p.1))).set j (some (.int p.2))) G' (DV K (g p))) :
    EF (tLc (iList K tl) (gTup K 2 (gCons (gName i) (gCons (gName j) gNil))) tYes te [i, j]) σ G (LS K (js.map g)) := by
  have hlen : xs.length = js.length := by have := dpa_len hd; rw [List.length_map] at this; exact this
  refine ef_lcG (xs := xs) (fun n => match js[n]? with | some p => ((wipe σ [i, j]).set i (some (.int p.1))).set j (some (.int p.2)) | none => []) (fun n acc G' => DpAll K G' acc ((js.take n).map g)) (h.imp fun v G' e p => ⟨a, p, Evl.ex_l e hx⟩) (by omega) (fun n hn => ?_) (fun n x H' Q hn e q => ?_) (fun _ _ => by simpa using DpAll.nil) (fun n x acc G' e hn hI => ?_) fun p acc G' _ hp _ _ hI => ⟨p, acc, rfl, upd_same, dpax (by rw [List.take_of_length_le (by omega)] at hI; exact hI) (ex_in hp)⟩
  · rw [List.getElem?_eq_getElem (by omega)]
    exact hij _ _
  · obtain ⟨dd, hd1, dy⟩ := dpa_get hd hn
    rw [List.getElem?_map] at hd1
    obtain ⟨p, hp, rfl⟩ := Option.map_eq_some_iff.mp hd1
    obtain ⟨b, rfl, hb⟩ := dp_P dy
    rw [hp] at q
    exact g_two (Evl.ex_t e hb) q
  · obtain ⟨dd, hd1, dy⟩ := dpa_get hd hn
    rw [List.getElem?_map] at hd1
    obtain ⟨p, hp, rfl⟩ := Option.map_eq_some_iff.mp hd1
    have tk : js.take (n + 1) = js.take n ++ [p] := by rw [List.take_succ, hp, Option.toList_some]
    rw [tk, List.map_append]
    simp only [hp]
    exact ec_all ((he p G' e (List.mem_of_getElem? hp)).imp fun v G2 e2 pv => dpa_snoc (dpax hI e2) pv)
/-- a list as a test -/
theorem et_truL {a : Addr} {xs : List V} (h : EF ta σ G (XV (.ref a))) (hs : SqL K G a xs) : ET (fun σ H Q => ta σ H fun x H' => ∃ k, TruV K x H' k ∧ Q k H') σ G (· = !xs.isEmpty) := fun H e Q q =>
  h H e _ fun v G1 H1 g1 pv => by
    cases (show v = .ref a from pv)
    exact ⟨!xs.isEmpty, .inl ⟨xs, Evl.ex_l (g1.up.trans g1.ok) hs, rfl⟩, q _ _ g1.hp rfl⟩
/-- a, b = l.pop(0) -/
theorem st_pop0 {l b : Addr} {vs : List V} {u v : V} {i j n : Nat} (hl : H1 l = some (.lst (.ref b :: vs))) (hz : vs.length < 1000) (ho : σ[n]? = some (some (.ref l))) (eG : Ex G H1) (gl : G l = none) (hb : SqT K G b [u, v]) (k : D.nx ((σ.set i (some u)).set j (some v)) (upd H1 l (.lst vs))) :
    tAsg (tBM K "list" rPopAt (tVar n) (tCons (tC (.int 0)) tNil)) (gTup K 2 (gCons (gName i) (gCons (gName j) gNil))) D σ H1 := by
  refine ⟨.ref l, ho, .inl ⟨rfl, _, Evl.sq_of hl⟩, l, _, 0, 0, .ref b, rfl, rfl, hl, by decide, by decide, ?_, rfl, ?_⟩
  · unfold seqIndex?
    simp
  · exact g_two (Evl.ex_t (ex_off eG gl) hb) k
end
/-! queues -/
section
variable {K : PySem.W.Frag} {σ : L2.St} {G G' H H1 : Hp} {D : Ends} {d q : Addr} {tk te : TE}
abbrev Qf := Int → List (Int × Int)
structure QOk (K : PySem.W.Frag) (G H H1 : Hp) (d q : Addr) (f : Qf) (ls : List (Int × Int)) (G' : Hp) (es : List BE) (vs : List V) : Prop where
  g : Gr G G' H H1
  gd : G' d = none
  hd : H1 d = some (.dK (es.map fun e => ((Sum.inl e.1 : Key), V.ref e.2.1)))
  he : ∀ e ∈ es, BOk K H G' H1 e
  nd : (es.map fun e => e.2.1).Nodup
  dn : d ∉ es.map (fun e => e.2.1)
  kn : (es.map fun e => e.1).Nodup
  gt : ∀ k, getL (es.map fun e => (e.1, e.2.2.2)) k = (f k).map dP
  gq : G' q = none
  hq : H1 q = some (.lst vs)
  dq : DpAll K G' vs (ls.map dP)
  qn : q ∉ es.map (fun e => e.2.1)
  ne : q ≠ d
def QSt (K : PySem.W.Frag) (G H H1 : Hp) (d q : Addr) (f : Qf) (ls : List (Int × Int)) : Prop := ∃ G' es vs, QOk K G H H1 d q f ls G' es vs
theorem QOk.grow {f : Qf} {ls : List (Int × Int)} {es : List BE} {vs : List V} {G2 H2 : Hp} (h : QOk K G H H1 d q f ls G' es vs) (g : Gr G' G2 H1 H2) : QOk K G H H2 d q f ls G2 es vs where
  g := h.g.trans g
  gd := g.2.2.2 d (ne_none_of h.hd) h.gd
  hd := g.hp _ _ h.hd
  he := fun e m => (h.he e m).step g
  nd := h.nd
  dn := h.dn
  kn := h.kn
  gt := h.gt
  gq := g.2.2.2 q (ne_none_of h.hq) h.gq
  hq := g.hp _ _ h.hq
  dq := dpax h.dq g.up
  qn := h.qn
  ne := h.ne
theorem QSt.ex {f : Qf} {ls : List (Int × Int)} {H2 : Hp} (h : QSt K G H H1 d q f ls) (e : Ex H1 H2) : QSt K G H H2 d q f ls := by
  obtain ⟨G', es, vs, h⟩ := h
  exact ⟨G', es, vs, h.grow (.same h.g.ok e)⟩
theorem QSt.know {f : Qf} {ls : List (Int × Int)} (h : QSt K G H H1 d q f ls) : Ex G H1 := by
  obtain ⟨G', es, vs, h⟩ := h
  exact h.g.up.trans h.g.ok
/-- links.append(p) -/
theorem st_qapp {i : Nat} {f : Qf} {ls : List (Int × Int)} {p : Int × Int} (hqH : H q = none) (h : QSt K G H H1 d q f ls) (hz : ls.length < 1000) (ho : σ[i]? = some (some (.ref q))) (hv : ∀ G', Ex G G' → EF te σ G' (DV K (dP p))) (k : ∀ H2, QSt K G H H2 d q f (ls ++ [p]) → D.nx σ H2) : tDrop (tBM K "list" rAppend (tVar i) (tCons te tNil)) D σ H1 := by
  obtain ⟨G', es, vs, h⟩ := h
  refine st_app (P := DV K (dP p)) h.g.ok h.hq (ex_var ho) (hv G' h.g.up) (by rw [dpa_len h.dq, List.length_map]; exact hz) fun v G2 H2 g2 p2 => k _ ?_
  have h2 := h.grow g2
  have other : ∀ e ∈ es, e.2.1 ≠ q := fun e m z => h.qn (List.mem_map.mpr ⟨e, m, z⟩)
  exact ⟨G2, es, vs ++ [v], { g := h2.g.put hqH h2.gq, gd := h2.gd, hd := by rw [upd_ne h.ne.symm]; exact h2.hd, he := fun e m => (h2.he e m).other (other e m), nd := h2.nd, dn := h2.dn, kn := h2.kn, gt := h2.gt, gq := h2.gq, hq := upd_same, dq := by rw [List.map_append]; exact dpa_snoc h2.dq p2, qn := h2.qn, ne := h2.ne }⟩
def popF (f : Qf) (o : Int) (r : List (Int × Int)) : Qf := fun k => if k = o then r else f k
theorem getL_split {A : List BE} {e : BE} {B : List BE} {ps : List PyData} {k : Int} (hk : ((A ++ e :: B).map fun e => e.1).Nodup) : getL ((A ++ ((e.1, e.2.1, ([] : List V), ps) : BE) :: B).map fun e => (e.1, e.2.2.2)) k = if k = e.1 then ps else getL ((A ++ e :: B).map fun e => (e.1, e.2.2.2)) k := by
  have fnd : ∀ (L : List BE), (∀ z ∈ L, z.1 ≠ k) → ∀ r : DM, getM (L.map (fun e => (e.1, e.2.2.2)) ++ r) k = getM r k := fun L => by
    induction L with
    | nil => intro _ r; rfl
    | cons z L ih =>
      intro h r
      rw [List.map_cons, List.cons_append, getM_cons, if_neg (h z List.mem_cons_self), ih (fun y hy => h y (List.mem_cons_of_mem _ hy))]
  have skip : ∀ (L : List BE) (r : DM), (getM (L.map (fun e => (e.1, e.2.2.2)) ++ r) k = match getM (L.map fun e => (e.1, e.2.2.2)) k with | some x => some x | none => getM r k) := fun L => by
    induction L with
    | nil => intro r; rfl
    | cons z L ih =>
      intro r
      rw [List.map_cons, List.cons_append, getM_cons, getM_cons]
      split
      · rfl
      · exact ih r
  unfold getL
  simp only [List.map_append, List.map_cons]
  by_cases h : k = e.1
  · rw [if_pos h]
    rw [List.map_append, List.map_cons, List.nodup_append] at hk
    have hA : ∀ z ∈ A, z.1 ≠ k := fun z hz q => hk.2.2 z.1 (List.mem_map.mpr ⟨z, hz, rfl⟩) e.1 List.mem_cons_self (q.trans h)
    rw [fnd A hA, getM_cons, if_pos h.symm]
    rfl
  · rw [if_neg h, skip, skip]
    have e1 : getM ((e.1, ps) :: B.map fun e => (e.1, e.2.2.2)) k = getM ((e.1, e.2.2.2) :: B.map fun e => (e.1, e.2.2.2)) k := by
      rw [getM_cons, getM_cons, if_neg (Ne.symm h), if_neg (Ne.symm h)]
    rw [e1]
/-- ends = waiting.get(o, []) -/
theorem st_qget {iw ie : Nat} {o : Int} {f : Qf} {ls : List (Int × Int)} (Hd : H d = none) (h : QSt K G H H1 d q f ls) (ho : σ[iw]? = some (some (.ref d))) (hk : ∀ G', Ex G G' → EF tk σ G' (XV (.int o)))
    (k : ∀ l vs G' H2, Ex G G' → Ex G' H2 → G' l = none → H2 l = some (.lst vs) → DpAll K G' vs ((f o).map dP) → QSt K G H H2 d q f ls →
      (∀ x r H3, f o = x :: r → Ex H2 H3 → QSt K G H (upd H3 l (.lst vs.tail)) d q (popF f o r) ls) → D.nx (σ.set ie (some (.ref l))) H2) :
    tAsg (tDGet2 (tVar iw) tk (tLst tNil)) (gName ie) D σ H1 := by
  obtain ⟨G', es, vs, h⟩ := h
  refine ⟨.ref d, ho, d, rfl, .inl ⟨_, .inl h.hd⟩, hk G' h.g.up H1 h.g.ok _ fun y G2 H2 g2 py => ?_⟩
  cases (show y = .int o from py)
  refine ⟨by decide, fun r hr => ?_⟩
  have h2 := h.grow g2
  have G2r : G2 r = none := none_back h2.g.ok hr
  have g3 : Gr G2 G2 H2 (upd H2 r (.lst [])) := ⟨Ex.refl _, ex_off h2.g.ok G2r, ex_in hr, fun _ _ h => h⟩
  have h3 := h2.grow g3
  refine ⟨valV (es.map fun e => ((Sum.inl e.1 : Key), V.ref e.2.1)) (.inl o : Key), .inl ⟨_, .inl o, .inl h3.hd, rfl, rfl⟩, ?_⟩
  cases hv : valV (es.map fun e => ((Sum.inl e.1 : Key), V.ref e.2.1)) (.inl o : Key) with
  | none =>
    have hn := be_none hv
    have hf : f o = [] := by
      have := h.gt o
      have e0 : getL (es.map fun e => (e.1, e.2.2.2)) o = [] := by
        unfold getL
        rw [getM_none.mpr fun z => by
          rw [List.map_map] at z
          obtain ⟨e, he, hz⟩ := List.mem_map.mp z
          exact hn e he hz]
        rfl
      rw [e0] at this
      exact (List.map_eq_nil_iff.mp this.symm)
    exact k r [] G2 _ h2.g.up h3.g.ok G2r upd_same (by rw [hf]; exact .nil) ⟨G2, es, vs, h3⟩ fun x r' H3 e => by rw [hf] at e; cases e
  | some v =>
    obtain ⟨A, e, B, rfl, hek, rfl, hA⟩ := be_find hv
    have hb := h3.he e (by simp)
    have hfo : e.2.2.2 = (f o).map dP := by
      have h0 := h.gt o
      have := @getL_split A e B e.2.2.2 o h.kn
      rw [if_pos hek.symm] at this
      rw [← h0, ← this]
      simp
    refine k e.2.1 e.2.2.1 G2 _ h2.g.up h3.g.ok hb.g hb.l (by rw [← hfo]; exact hb.d) ⟨G2, _, vs, h3⟩ fun x r' H3 ef e3 => ?_
    have h4 := h3.grow (.same h3.g.ok e3)
    have hb4 := h4.he e (by simp)
    have qe : q ≠ e.2.1 := fun z => h4.qn (by rw [z]; simp)
    have de : d ≠ e.2.1 := fun z => h4.dn (by rw [z]; simp)
    have dv := hb4.d
    rw [hfo, ef] at dv
    obtain ⟨v1, vt, ev, dt⟩ : ∃ v1 vt, e.2.2.1 = v1 :: vt ∧ DpAll K G2 vt (r'.map dP) := by
      revert dv
      generalize e.2.2.1 = L
      intro dv
      cases dv with
      | cons a b => exact ⟨_, _, rfl, b⟩
    refine ⟨G2, A ++ (e.1, e.2.1, e.2.2.1.tail, r'.map dP) :: B, vs, { g := h4.g.put hb4.h hb4.g, gd := h4.gd, hd := by rw [upd_ne de, h4.hd]; simp, he := fun z hz => ?_, nd := by simpa using h4.nd, dn := by simpa using h4.dn, kn := by simpa using h4.kn, gt := fun k' => ?_, gq := h4.gq, hq := by rw [upd_ne qe]; exact h4.hq, dq := h4.dq, qn := by simpa using h4.qn, ne := h4.ne }⟩
    · have ne : ∀ z ∈ A ++ B, z.2.1 ≠ e.2.1 := fun z hz q => by
        have nd := h4.nd
        rw [List.map_append, List.map_cons, List.nodup_append] at nd
        rcases List.mem_append.mp hz with hz | hz
        · exact nd.2.2 z.2.1 (List.mem_map.mpr ⟨z, hz, rfl⟩) e.2.1 List.mem_cons_self q
        · exact (List.nodup_cons.mp nd.2.1).1 (List.mem_map.mpr ⟨z, hz, q⟩)
      rcases List.mem_append.mp hz with hz | hz
      · exact (h4.he z (by simp [hz])).other (ne z (by simp [hz]))
      · rcases List.mem_cons.mp hz with hz | hz
        · subst hz
          exact ⟨hb4.g, hb4.h, upd_same, by rw [ev]; exact dt⟩
        · exact (h4.he z (by simp [hz])).other (ne z (by simp [hz]))
    · have key := @getL_split A e B (r'.map dP) k' h.kn
      have same : getL ((A ++ ((e.1, e.2.1, e.2.2.1.tail, r'.map dP) : BE) :: B).map fun e => (e.1, e.2.2.2)) k' = getL ((A ++ ((e.1, e.2.1, ([] : List V), r'.map dP) : BE) :: B).map fun e => (e.1, e.2.2.2)) k' := by simp
      rw [same, key, hek]
      unfold popF
      split
      · rfl
      · exact h.gt k'
end
end Lw

set_option Elab.async false
set_option linter.all false
set_option maxRecDepth 100000
set_option maxHeartbeats 4000000
/-! links, first in first out, as mathematics -/
namespace Lw
open PySem PySem.Spec L2
def wk (ws : List Wk) (n : Nat) : Wk := ws.getD n (0, 0, 0, 0)
theorem wk_get {ws : List Wk} {n : Nat} {v : Wk} (h : ws[n]? = some v) : wk ws n = v := by unfold wk; rw [List.getD_eq_getElem?_getD, h]; rfl
abbrev T3i := Int × Int × Int
def x3 (t : T3i) : List Int := [t.1, t.2.1, t.2.2]
def enc3 (t : T3i) : PyData := .tuple ((x3 t).map .int)
def arrT (ws : List Wk) : List T3i := (List.range ws.length).map fun n => ((wk ws n).2.2.2, (n : Int), (wk ws n).2.1)
def depT (ws : List Wk) : List T3i := (List.range ws.length).map fun n => ((wk ws n).2.2.1, (n : Int), (wk ws n).1)
def arrS (ws : List Wk) : List T3i := srtX x3 (arrT ws)
def depS (ws : List Wk) : List T3i := srtX x3 (depT ws)
def pr (t : T3i) : Int × Int := (t.1, t.2.1)
def queue0 (ws : List Wk) : Qf := fun k => ((arrS ws).filter fun t => decide (t.2.2 = k)).map pr
def stepQ (gap : Int) (st : Qf × List (Int × Int)) (t : T3i) : Qf × List (Int × Int) := match st.1 t.2.2 with
  | x :: r => if x.1 + gap ≤ t.1 then (popF st.1 t.2.2 r, st.2 ++ [(x.2, t.2.1)]) else st
  | [] => st
def runP (gap : Int) (ws : List Wk) (l : List T3i) : Qf × List (Int × Int) := l.foldl (stepQ gap) (queue0 ws, [])
def linksP (gap : Int) (ws : List Wk) : List (Int × Int) := (runP gap ws (depS ws)).2
def goesB (ws : List Wk) (gap a b : Int) : Bool := decide (0 ≤ a ∧ a < (ws.length : Int) ∧ 0 ≤ b ∧ b < (ws.length : Int) ∧ (wk ws a.toNat).2.1 = (wk ws b.toNat).1 ∧ (wk ws a.toNat).2.2.2 + gap ≤ (wk ws b.toNat).2.2.1)
def freeL (ws : List Wk) (gap k : Int) : List (Int × Int) := (((List.range ws.length).map fun n : Nat => (n : Int)).filter fun x => goesB ws gap x k).map fun x => ((wk ws x.toNat).2.2.2, x)
def stepL (ws : List Wk) (gap : Int) (st : List Int × List (Int × Int)) (p : Int × Int) : List Int × List (Int × Int) := match srtP ((freeL ws gap p.2).filter fun a => !decide (a.2 ∈ st.1)) with
  | x :: _ => (st.1 ++ [x.2], st.2 ++ [(x.2, p.2)])
  | [] => st
def depP (ws : List Wk) : List (Int × Int) := srtP ((List.range ws.length).map fun n => ((wk ws n).2.2.1, (n : Int)))
def linksL (gap : Int) (ws : List Wk) : List (Int × Int) := ((depP ws).foldl (stepL ws gap) ([], [])).2
/-! both agree -/
theorem lex_of_x3 {s t : T3i} (h : x3 s ≤ x3 t) : lexLe (pr s) (pr t) := by
  unfold x3 at h
  unfold lexLe pr
  rcases List.cons_le_cons_iff.mp h with h | ⟨h, h2⟩
  · exact .inl h
  · rcases List.cons_le_cons_iff.mp h2 with h2 | ⟨h2, _⟩
    · exact .inr ⟨h, Int.le_of_lt h2⟩
    · exact .inr ⟨h, Int.le_of_eq h2⟩
def qAll (ws : List Wk) : List (Int × Int) := (arrS ws).map pr
theorem qAll_sorted (ws : List Wk) : (qAll ws).Pairwise lexLe := by
  unfold qAll
  rw [List.pairwise_map]
  exact (srtX_sorted x3 (arrT ws)).imp fun h => lex_of_x3 h
theorem qAll_perm (ws : List Wk) : (qAll ws).Perm ((List.range ws.length).map fun n => ((wk ws n).2.2.2, (n : Int))) := by
  have h := (srtX_perm x3 (arrT ws)).map pr
  refine h.trans (List.Perm.of_eq ?_)
  unfold arrT pr
  rw [List.map_map]
  rfl
theorem qAll_mem {ws : List Wk} {p : Int × Int} : p ∈ qAll ws ↔ 0 ≤ p.2 ∧ p.2 < (ws.length : Int) ∧ p.1 = (wk ws p.2.toNat).2.2.2 := by
  rw [(qAll_perm ws).mem_iff, List.mem_map]
  constructor
  · rintro ⟨n, hn, rfl⟩
    have := List.mem_range.mp hn
    exact ⟨by simp, by simp; omega, by simp⟩
  · rintro ⟨h0, h1, h2⟩
    refine ⟨p.2.toNat, List.mem_range.mpr (by omega), ?_⟩
    rw [← h2]
    ext
    · rfl
    · simp; omega
theorem qAll_nd (ws : List Wk) : ((qAll ws).map (·.2)).Nodup := by
  rw [((qAll_perm ws).map (·.2)).nodup_iff, List.map_map]
  refine List.Pairwise.map _ (fun (a b : Nat) h => ?_) List.nodup_range
  show ((a : Nat) : Int) ≠ (b : Int)
  omega
theorem arrS_goal {ws : List Wk} {t : T3i} (h : t ∈ arrS ws) : t.2.2 = (wk ws t.2.1.toNat).2.1 := by
  have := (srtX_perm x3 (arrT ws)).mem_iff.mp h
  obtain ⟨n, _, rfl⟩ := List.mem_map.mp this
  simp
theorem depS_orig {ws : List Wk} {t : T3i} (h : t ∈ depS ws) : t.2.2 = (wk ws t.2.1.toNat).1 ∧ t.1 = (wk ws t.2.1.toNat).2.2.1 ∧ 0 ≤ t.2.1 ∧ t.2.1 < (ws.length : Int) := by
  have := (srtX_perm x3 (depT ws)).mem_iff.mp h
  obtain ⟨n, hn, rfl⟩ := List.mem_map.mp this
  have := List.mem_range.mp hn
  exact ⟨by simp, by simp, by simp, by simp; omega⟩
theorem depP_eq (ws : List Wk) : depP ws = (depS ws).map pr := by
  refine (srtP_of ?_ ?_).symm
  · have h := (srtX_perm x3 (depT ws)).map pr
    refine h.trans (List.Perm.of_eq ?_)
    unfold depT pr
    rw [List.map_map]
    rfl
  · rw [List.pairwise_map]
    exact (srtX_sorted x3 (depT ws)).imp fun h => lex_of_x3 h
def keep (ws : List Wk) (used : List Int) (k : Int) (p : Int × Int) : Bool := decide ((wk ws p.2.toNat).2.1 = k ∧ p.2 ∉ used)
theorem queue0_eq (ws : List Wk) (k : Int) : queue0 ws k = (qAll ws).filter (keep ws [] k) := by
  unfold queue0 qAll
  rw [List.filter_map]
  congr 1
  refine List.filter_congr fun t ht => ?_
  unfold keep pr
  simp [arrS_goal ht]
theorem free_eq {ws : List Wk} {gap : Int} {used : List Int} {t : T3i} (ht : t ∈ depS ws) : srtP ((freeL ws gap t.2.1).filter fun a => !decide (a.2 ∈ used)) = ((qAll ws).filter (keep ws used t.2.2)).filter fun p => decide (p.1 + gap ≤ t.1) := by
  obtain ⟨o1, o2, o3, o4⟩ := depS_orig ht
  refine (srtP_of ?_ (((qAll_sorted ws).filter _).filter _)).symm
  refine (List.perm_ext_iff_of_nodup ?_ ?_).mpr fun p => ?_
  · exact List.Pairwise.filter _ (List.Pairwise.filter _ ((List.pairwise_map.mp (qAll_nd ws)).imp fun h z => h (by rw [z])))
  · unfold freeL
    refine List.Pairwise.filter _ ?_
    refine List.Pairwise.map (R := fun a b : Int => a ≠ b) _ (fun a b h z => h (congrArg Prod.snd z)) (List.Pairwise.filter _ ?_)
    refine List.Pairwise.map _ (fun (a b : Nat) h => ?_) List.nodup_range
    show ((a : Nat) : Int) ≠ (b : Int)
    omega
  · simp only [List.mem_filter, qAll_mem, decide_eq_true_eq, keep, freeL, List.mem_map, goesB, Bool.not_eq_true', decide_eq_false_iff_not, List.mem_range]
    constructor
    · rintro ⟨⟨⟨h0, h1, h2⟩, h3, h4⟩, h5⟩
      refine ⟨⟨p.2, ⟨⟨p.2.toNat, by omega, by omega⟩, h0, h1, o3, o4, by rw [h3, o1], by rw [← h2, ← o2]; exact h5⟩, ?_⟩, h4⟩
      rw [← h2]
    · rintro ⟨⟨x, ⟨⟨n, hn, hx⟩, h0, h1, _, _, h5, h6⟩, rfl⟩, h4⟩
      exact ⟨⟨⟨h0, h1, rfl⟩, by rw [h5, o1], h4⟩, by rw [o2]; exact h6⟩
def Sim (ws : List Wk) (a : Qf × List (Int × Int)) (b : List Int × List (Int × Int)) : Prop := a.2 = b.2 ∧ ∀ k, a.1 k = (qAll ws).filter (keep ws b.1 k)
theorem sim_step {ws : List Wk} {gap : Int} {a : Qf × List (Int × Int)} {b : List Int × List (Int × Int)} {t : T3i} (ht : t ∈ depS ws) (h : Sim ws a b) : Sim ws (stepQ gap a t) (stepL ws gap b (pr t)) := by
  obtain ⟨f, ls⟩ := a
  obtain ⟨used, ls'⟩ := b
  obtain ⟨h1, h2⟩ := h
  cases (show ls = ls' from h1)
  simp only at h2
  unfold stepQ stepL
  rw [show (pr t).2 = t.2.1 from rfl, free_eq ht, ← h2]
  simp only
  have srt : (f t.2.2).Pairwise lexLe := by rw [h2]; exact (qAll_sorted ws).filter _
  have nd : ((f t.2.2).map (·.2)).Nodup := by
    rw [h2]
    exact (qAll_nd ws).sublist ((List.filter_sublist).map _)
  cases hf : f t.2.2 with
  | nil => exact ⟨rfl, h2⟩
  | cons x r =>
    rw [hf] at srt nd
    simp only
    by_cases hx : x.1 + gap ≤ t.1
    · rw [if_pos hx, List.filter_cons_of_pos (by simpa using hx)]
      refine ⟨rfl, fun k => ?_⟩
      have hxm : x ∈ (qAll ws).filter (keep ws used t.2.2) := by rw [← h2, hf]; exact List.mem_cons_self
      have hxk := (List.mem_filter.mp hxm).2
      unfold keep at hxk
      have hxk := of_decide_eq_true hxk
      have e1 : (qAll ws).filter (keep ws (used ++ [x.2]) k) = ((qAll ws).filter (keep ws used k)).filter fun p => decide (p.2 ≠ x.2) := by
        rw [List.filter_filter]
        refine List.filter_congr fun p _ => ?_
        unfold keep
        rw [Bool.eq_iff_iff]
        simp
        exact ⟨fun ⟨a, b, c⟩ => ⟨c, a, b⟩, fun ⟨a, b, c⟩ => ⟨b, c, a⟩⟩
      show popF f t.2.2 r k = _
      rw [e1, ← h2]
      unfold popF
      by_cases hk : k = t.2.2
      · rw [if_pos hk, hk, hf]
        have n1 := (List.nodup_cons.mp nd).1
        rw [List.filter_cons_of_neg (by simp)]
        refine (List.filter_eq_self.mpr fun p hp => ?_).symm
        simp
        exact fun z => n1 (List.mem_map.mpr ⟨p, hp, z⟩)
      · rw [if_neg hk]
        refine (List.filter_eq_self.mpr fun p hp => ?_).symm
        rw [h2] at hp
        have hpk := (List.mem_filter.mp hp).2
        unfold keep at hpk
        have hpk := of_decide_eq_true hpk
        simp
        intro z
        rw [z] at hpk
        exact hk (hpk.1.symm.trans hxk.1)
    · rw [if_neg hx]
      have e2 : (x :: r).filter (fun p => decide (p.1 + gap ≤ t.1)) = [] := by
        rw [List.filter_eq_nil_iff]
        intro p hp
        have : x.1 ≤ p.1 := by
          rcases List.mem_cons.mp hp with rfl | hp
          · exact Int.le_refl _
          · have := (List.pairwise_cons.mp srt).1 p hp
            unfold lexLe at this
            omega
        simp
        omega
      rw [e2]
      exact ⟨rfl, h2⟩
theorem links_eq (gap : Int) (ws : List Wk) : linksP gap ws = linksL gap ws := by
  have key : ∀ (l : List T3i), (∀ t ∈ l, t ∈ depS ws) → ∀ a b, Sim ws a b → Sim ws (l.foldl (stepQ gap) a) ((l.map pr).foldl (stepL ws gap) b) := fun l => by
    induction l with
    | nil => intro _ a b h; exact h
    | cons t l ih =>
      intro hl a b h
      exact ih (fun u hu => hl u (List.mem_cons_of_mem _ hu)) _ _ (sim_step (hl t List.mem_cons_self) h)
  unfold linksP runP linksL
  rw [depP_eq]
  exact (key (depS ws) (fun _ h => h) (queue0 ws, []) ([], []) ⟨rfl, fun k => queue0_eq ws k⟩).1
/-- may this list be run -/
def fitsB (ws : List Wk) (gap : Int) (ls : List (Int × Int)) : Bool := decide ((ls.map (·.1)).Nodup) && decide ((ls.map (·.2)).Nodup) && ls.all fun p => goesB ws gap p.1 p.2
theorem fits_iff {ws : List Wk} {gap : Int} {ls : List (Int × Int)} : fitsB ws gap ls = true ↔ ∀ (i : Nat) p, ls[i]? = some p → goesB ws gap p.1 p.2 = true ∧ ∀ (j : Nat) o, j < i → ls[j]? = some o → o.1 ≠ p.1 ∧ o.2 ≠ p.2 := by
  unfold fitsB
  simp only [Bool.and_eq_true, decide_eq_true_eq, List.all_eq_true]
  constructor
  · rintro ⟨⟨h1, h2⟩, h3⟩ i p hp
    refine ⟨h3 p (List.mem_of_getElem? hp), fun j o hj ho => ?_⟩
    obtain ⟨hi, rfl⟩ := List.getElem?_eq_some_iff.mp hp
    obtain ⟨hj', rfl⟩ := List.getElem?_eq_some_iff.mp ho
    have a := List.pairwise_iff_getElem.mp h1 j i (by simpa using hj') (by simpa using hi) hj
    have b := List.pairwise_iff_getElem.mp h2 j i (by simpa using hj') (by simpa using hi) hj
    simp at a b
    exact ⟨a, b⟩
  · intro h
    refine ⟨⟨List.pairwise_iff_getElem.mpr fun j i hj hi hji => ?_, List.pairwise_iff_getElem.mpr fun j i hj hi hji => ?_⟩, fun p hp => ?_⟩
    · simp at hj hi ⊢
      exact ((h i _ (List.getElem?_eq_getElem hi)).2 j _ hji (List.getElem?_eq_getElem hj)).1
    · simp at hj hi ⊢
      exact ((h i _ (List.getElem?_eq_getElem hi)).2 j _ hji (List.getElem?_eq_getElem hj)).2
    · obtain ⟨i, hi⟩ := List.mem_iff_getElem?.mp hp
      exact (h i p hi).1
theorem stepQ_len {gap : Int} {st : Qf × List (Int × Int)} {t : T3i} : (stepQ gap st t).2.length ≤ st.2.length + 1 := by
  unfold stepQ
  split
  · split
    · simp
    · omega
  · omega
theorem run_len {gap : Int} {ws : List Wk} {l : List T3i} : (runP gap ws l).2.length ≤ l.length := by
  have key : ∀ (l : List T3i) st, (l.foldl (stepQ gap) st).2.length ≤ st.2.length + l.length := fun l => by
    induction l with
    | nil => intro st; simp
    | cons t l ih =>
      intro st
      have := ih (stepQ gap st t)
      have := @stepQ_len gap st t
      simp only [List.foldl_cons, List.length_cons]
      omega
  have := key l (queue0 ws, [])
  unfold runP
  simpa using this
end Lw

set_option Elab.async false
set_option linter.all false
set_option maxRecDepth 100000
set_option maxHeartbeats 4000000
/-! links: promises -/
namespace Lw
open PySem PySem.Spec L2
open Evl (Ex)
section
variable {K : PySem.W.Frag} {σ : L2.St} {G G' H H1 : Hp} {D : Ends} {ta : TE} {CB : Addr}
theorem ed_srtPQ {js : List (Int × Int)} (ha : EF ta σ G (DV K (dPs js))) : EF (tCB (rSortPD K) (tCons ta tNil)) σ G (LS K ((srtP js).map dP)) := fun H e Q q => ha H e _ fun x G1 H1 g1 p => by
  obtain ⟨a, xs, rfl, hs, hx⟩ := dp_lst p
  refine ⟨G1, a, xs, js, g1.ok, rfl, Evl.ex_l g1.ok hs, hx, fun ys js' p2 h1 h2 h3 h4 => ?_⟩
  have e' := srtP_of h2 h3
  subst e'
  exact q _ _ _ (g1.trans (.new g1.ok h4)) ⟨p2, ys, rfl, upd_same, dpax h1 (ex_in (none_back g1.ok h4))⟩
theorem al3 (l : List T3i) : PySem.W.AllAlike (l.map enc3) := alike_tups
theorem so3 (l : List T3i) : PySem.W.Sortable (l.map enc3) := PySem.W.Sortable.tuples fun b => ⟨_, _, rfl⟩
theorem de3 (l : List T3i) : ∀ b ∈ l, (enc3 b).depth ≤ 50 := fun b _ => by
  unfold enc3 x3
  simp [PyData.depth, PyData.depthAll]
theorem ed_sort3i {l : List T3i} (ha : EF ta σ G (DV K (.list (l.map enc3)))) : EF (tCB (rSortD K enc3) (tCons ta tNil)) σ G (LS K ((srtX x3 l).map enc3)) := by
  have h := ed_sortD (enc := enc3) ha (al3 l) (so3 l) (de3 l)
  have e : PySem.W.dataLe false enc3 = fun p q => decide (x3 p ≤ x3 q) := dataLe_tups x3
  rw [e] at h
  exact h
theorem dpa_ints3 {vs : List V} {a b c : Int} (h : DpAll K G vs [.int a, .int b, .int c]) : vs = [.int a, .int b, .int c] := dpa_ints_eq (zs := [a, b, c]) h
theorem dp_3 {x : V} {t : T3i} (h : Dp K G x (enc3 t)) : ∃ b, x = .ref b ∧ SqT K G b [.int t.1, .int t.2.1, .int t.2.2] := by
  obtain ⟨b, xs, e, hs, hx⟩ := dp_tup h
  rw [dpa_ints3 hx] at hs
  exact ⟨b, e, hs⟩
/-- the dict of the arrivals, still open -/
def arrM (ws : List Wk) : DM := (arrS ws).foldl (fun m t => addM m t.2.2 (dP (pr t))) []
def spArr (K : PySem.W.Frag) : Sp := fun vs H Q _ => ∃ (G : Hp) (a : Addr) (ws : List Wk), Ex G H ∧ vs = [.ref a] ∧ Dp K G (.ref a) (dWs ws) ∧ ws.length ≤ 200 ∧ ∀ d H', H d = none → DB K G H H' d (arrM ws) → Q (.ref d) H'
def spDep (K : PySem.W.Frag) : Sp := fun vs H Q _ => ∃ (G : Hp) (a : Addr) (ws : List Wk), Ex G H ∧ vs = [.ref a] ∧ Dp K G (.ref a) (dWs ws) ∧ ws.length ≤ 200 ∧ Ret G H (LS K ((depS ws).map enc3)) Q
theorem sa_dep {a : Addr} {ws : List Wk} (hd : Dp K G (.ref a) (dWs ws)) (hl : ws.length ≤ 200) : SA (spDep K) [.ref a] G (LS K ((depS ws).map enc3)) := fun H e Q _ q => ⟨G, a, ws, e, rfl, hd, hl, q⟩
def spMay (K : PySem.W.Frag) : Sp := fun vs H Q _ => ∃ (G : Hp) (a : Addr) (ws : List Wk) (x y gap : Int), Ex G H ∧ vs = [.ref a, .int x, .int y, .int gap] ∧ Dp K G (.ref a) (dWs ws) ∧ ws.length ≤ 200 ∧ Ret G H (XV (.bl (goesB ws gap x y))) Q
theorem sa_may {a : Addr} {ws : List Wk} {x y gap : Int} (hd : Dp K G (.ref a) (dWs ws)) (hl : ws.length ≤ 200) : SA (spMay K) [.ref a, .int x, .int y, .int gap] G (XV (.bl (goesB ws gap x y))) := fun H e Q _ q => ⟨G, a, ws, x, y, gap, e, rfl, hd, hl, q⟩
abbrev spGoes (K : PySem.W.Frag) : Sp := spMay K
def spLink (K : PySem.W.Frag) (CB : Addr) : Sp := fun vs H Q E => ∃ (G : Hp) (a : Addr) (ws : List Wk) (gap : Int), Ex G H ∧ vs = [.ref a, .int gap] ∧ Dp K G (.ref a) (dWs ws) ∧ ws.length ≤ 200 ∧ (badAt ws = none → Ret G H (DV K (dPs (srtP (linksP gap ws)))) Q) ∧ ∀ i : Nat, badAt ws = some i → Rse CB [("index", .int (i : Int))] G H E
def spIsL (K : PySem.W.Frag) (CB : Addr) : Sp := fun vs H Q E => ∃ (G : Hp) (a b : Addr) (ws : List Wk) (ls : List (Int × Int)) (gap : Int), Ex G H ∧ vs = [.ref a, .ref b, .int gap] ∧ Dp K G (.ref a) (dWs ws) ∧ Dp K G (.ref b) (dPs ls) ∧ ws.length ≤ 200 ∧ ls.length ≤ 900 ∧ (badAt ws = none → Ret G H (XV (.bl (fitsB ws gap ls))) Q) ∧ ∀ i : Nat, badAt ws = some i → Rse CB [("index", .int (i : Int))] G H E
theorem arrS_len (ws : List Wk) : (arrS ws).length = ws.length := by unfold arrS arrT; rw [(srtX_perm x3 _).length_eq]; simp
theorem depS_len (ws : List Wk) : (depS ws).length = ws.length := by unfold depS depT; rw [(srtX_perm x3 _).length_eq]; simp
structure ArrOk (l : List T3i) (m : DM) : Prop where
  nd : (m.map (·.1)).Nodup
  len : m.length ≤ l.length
  row : ∀ p ∈ m, p.2.length ≤ l.length
  get : ∀ k, getL m k = ((l.filter fun t => decide (t.2.2 = k)).map pr).map dP
def arrF (l : List T3i) : DM := l.foldl (fun m t => addM m t.2.2 (dP (pr t))) []
theorem arrF_snoc {l : List T3i} {t : T3i} : arrF (l ++ [t]) = addM (arrF l) t.2.2 (dP (pr t)) := by simp [arrF]
theorem arr_ok (l : List T3i) : ArrOk l (arrF l) := by
  have key : ∀ n, ∀ l : List T3i, l.length = n → ArrOk l (arrF l) := fun n => by
    induction n with
    | zero => intro l h; rw [List.length_eq_zero_iff.mp h]; exact ⟨by simp [arrF], by simp [arrF], by simp [arrF], fun k => rfl⟩
    | succ n ih =>
      intro l h
      have hne : l ≠ [] := by rintro rfl; simp at h
      obtain ⟨l', t, rfl⟩ : ∃ l' t, l = l' ++ [t] := ⟨_, _, (List.dropLast_concat_getLast hne).symm⟩
      have h0 := ih l' (by simpa using h)
      rw [arrF_snoc]
      refine ⟨addM_nd h0.nd, ?_, fun p hp => ?_, fun k => ?_⟩
      · have := @addM_len (arrF l') t.2.2 (dP (pr t)); have := h0.len; simp; omega
      · have := addM_row h0.row p hp; simp; omega
      · rw [getL_add, h0.get, List.filter_append, List.map_append, List.map_append]
        by_cases hk : t.2.2 = k <;> simp [hk]
  exact key _ l rfl
theorem arrM_eq (ws : List Wk) : arrM ws = arrF (arrS ws) := rfl
end
end Lw

set_option Elab.async false
set_option linter.all false
set_option maxRecDepth 100000
set_option maxHeartbeats 4000000
/-! links: the law's promises -/
namespace Lw
open PySem PySem.Spec L2
open Evl (Ex)
def spDrawB : Sp := fun vs H Q _ => ∃ (G : Hp) (c : Int) (k : Int) (n : Int), Ex G H ∧ vs = [.int c, .int k, .int n] ∧ 0 ≤ k ∧ k ≤ 2000 ∧ 1 ≤ n ∧ n ≤ 200000 ∧ Ret G H (IV fun z => 0 ≤ z ∧ z < n) Q
section
variable {K : PySem.W.Frag} {σ : L2.St} {G G' H H1 : Hp} {D : Ends} {ta tb tc tk tn te tl : TE} {t : TT} {P : VP}
theorem ei_drawB {E : XK} {n : Int} (hc : EF tc σ G (IV fun _ => True)) (hk : EF tk σ G (IV fun z => 0 ≤ z ∧ z ≤ 2000)) (hn : EF tn σ G (IV (· = n))) (h1 : 1 ≤ n) (h2 : n ≤ 200000) : EF (tCall spDrawB [] E (tCons tc (tCons tk (tCons tn tNil)))) σ G (IV fun z => 0 ≤ z ∧ z < n) :=
  ef_call (ea_three mo_IV mo_IV mo_IV hc hk hn) fun vs G' _ ⟨x, y, z, ev, ⟨a, ha, _⟩, ⟨b, hb, hb2⟩, ⟨c, hc', hc2⟩⟩ => by
    subst ev ha hb hc' hc2
    exact fun H e Q _ q => ⟨G', a, b, c, e, rfl, hb2.1, hb2.2, h1, h2, q⟩
theorem st_appB {l : Addr} {xs : List V} (hG : Ex G H) (hl : H l = some (.lst xs)) (ho : EF ta σ G (XV (.ref l))) (h : EF te σ G P) (hz : xs.length < 1000000) (k : ∀ v G' H', Gr G G' H H' → P v G' → D.nx σ (upd H' l (.lst (xs ++ [v])))) :
    tDrop (tBM K "list" rAppend ta (tCons te tNil)) D σ H := ho H hG _ fun v1 G1 H1 g1 p1 => by
  cases (show v1 = .ref l from p1)
  refine ⟨.inl ⟨rfl, xs, Evl.sq_of (g1.hp _ _ hl)⟩, h H1 (hG.trans g1.hp) _ fun v2 G2 H2 g2 p2 => ?_⟩
  refine ⟨l, xs, v2, rfl, rfl, g2.hp _ _ (g1.hp _ _ hl), Nat.lt_of_lt_of_le hz (by decide), ?_⟩
  exact k v2 G2 H2 ⟨g2.up, g2.ok, g1.hp.trans g2.hp, fun a h g => g2.2.2.2 a (exNe g1.hp h) g⟩ p2
/-- sorted of pairs: a new list -/
theorem ed_srtPN {js : List (Int × Int)} (ha : EF ta σ G (DV K (dPs js))) : EF (tCB (rSortPD K) (tCons ta tNil)) σ G fun v G' => ∃ (r : Addr) (xs : List V), v = .ref r ∧ G r = none ∧ G' r = some (.lst xs) ∧ DpAll K G' xs ((srtP js).map dP) := fun H e Q q => ha H e _ fun x G1 H1 g1 p => by
  obtain ⟨a, xs, rfl, hs, hx⟩ := dp_lst p
  refine ⟨G1, a, xs, js, g1.ok, rfl, Evl.ex_l g1.ok hs, hx, fun ys js' p2 h1 h2 h3 h4 => ?_⟩
  have e' := srtP_of h2 h3
  subst e'
  exact q _ _ _ (g1.trans (.new g1.ok h4)) ⟨p2, ys, rfl, none_back (g1.up.trans g1.ok) h4, upd_same, dpax h1 (ex_in (none_back g1.ok h4))⟩
theorem dpa_drop_P {u : Addr} {ys : List V} : ∀ {xs : List V} {js : List (Int × Int)}, DpAll K G xs (js.map dP) → G u = some (.lst ys) → DpAll K (dropA G u) xs (js.map dP)
  | [], [], _, _ => .nil
  | [], _ :: _, h, _ => nomatch h
  | _ :: _, [], h, _ => nomatch h
  | x :: xs, p :: js, h, hu => by
    cases h with
    | cons h1 h2 =>
      refine .cons ?_ (dpa_drop_P h2 hu)
      obtain ⟨b, rfl, hb⟩ := dp_P h1
      refine .tup (xs := [.int p.1, .int p.2]) ?_ (dpa_ints [p.1, p.2])
      rcases hb with hb | hb
      · refine .inl ?_
        rcases hb with hb | ⟨o, hb⟩
        · exact .inl (by rw [dropA_ne fun z => by rw [z, hu] at hb; cases hb]; exact hb)
        · exact .inr ⟨o, by rw [dropA_ne fun z => by rw [z, hu] at hb; cases hb]; exact hb⟩
      · exact .inr hb
/-- [g(x) for x in range(n) if p(x)] -/
theorem el_filR {ta : TA} {j : Nat} {n : Nat} {g : Nat → PyData} {p : Nat → Bool} (h : EA ta σ G fun us _ => us = [.int (n : Int)]) (hn : n ≤ 40000) (hw : ∀ x, wipe ((wipe σ [j]).set j (some x)) [j] = wipe σ [j])
    (ht : ∀ (i : Nat) G', Ex G G' → i < n → ET t ((wipe σ [j]).set j (some (.int (i : Int)))) G' (· = p i)) (he : ∀ (i : Nat) G', Ex G G' → i < n → EF te ((wipe σ [j]).set j (some (.int (i : Int)))) G' (DV K (g i))) :
    EF (tLc (iRng1 ta) (gName j) t te [j]) σ G (LS K (((List.range n).filter p).map g)) := by
  refine ef_lcR1 (n := (n : Int)) (fun i acc G' => DpAll K G' acc (((List.range i).filter p).map g)) h ⟨by omega, by omega⟩ hw (fun G' _ => .nil) (fun i acc G' e1 hi hI => ?_) (fun p acc G' h1 h2 _ _ hI => ⟨p, acc, rfl, upd_same, ?_⟩)
  · rw [List.range_succ, List.filter_append]
    refine ec_if (ht i G' e1 (by omega)) (fun hb => (he i G' e1 (by omega)).imp fun v G2 e2 pv => ?_) (fun hb => ?_)
    · rw [show ([i].filter p) = [i] by simp [← hb], List.map_append]
      exact dpa_snoc (dpax hI e2) pv
    · rw [show ([i].filter p) = [] by simp [← hb], List.append_nil]
      exact hI
  · have en : ((n : Int)).toNat = n := by omega
    rw [en] at hI
    exact dpax hI (ex_in h2)
def spLD (K : PySem.W.Frag) : Sp := fun vs H Q _ => ∃ (G : Hp) (a : Addr) (ws : List Wk) (gap : Int), Ex G H ∧ vs = [.ref a, .int gap] ∧ Dp K G (.ref a) (dWs ws) ∧ ws.length ≤ 200 ∧ Ret G H (LS K ((srtP (linksL gap ws)).map dP)) Q
theorem sa_ld {a : Addr} {ws : List Wk} {gap : Int} (hd : Dp K G (.ref a) (dWs ws)) (hl : ws.length ≤ 200) : SA (spLD K) [.ref a, .int gap] G (LS K ((srtP (linksL gap ws)).map dP)) := fun H e Q _ q => ⟨G, a, ws, gap, e, rfl, hd, hl, q⟩
def spFits (K : PySem.W.Frag) : Sp := fun vs H Q _ => ∃ (G : Hp) (a b : Addr) (ws : List Wk) (ls : List (Int × Int)) (gap : Int), Ex G H ∧ vs = [.ref a, .ref b, .int gap] ∧ Dp K G (.ref a) (dWs ws) ∧ Dp K G (.ref b) (dPs ls) ∧ ws.length ≤ 200 ∧ ls.length ≤ 900 ∧ Ret G H (XV (.bl (fitsB ws gap ls))) Q
theorem sa_fits {a b : Addr} {ws : List Wk} {ls : List (Int × Int)} {gap : Int} (hd : Dp K G (.ref a) (dWs ws)) (dl : Dp K G (.ref b) (dPs ls)) (hl : ws.length ≤ 200) (hll : ls.length ≤ 900) : SA (spFits K) [.ref a, .ref b, .int gap] G (XV (.bl (fitsB ws gap ls))) := fun H e Q _ q => ⟨G, a, b, ws, ls, gap, e, rfl, hd, dl, hl, hll, q⟩
def PrV (K : PySem.W.Frag) (N : Nat) : VP := fun v G => ∃ ps : List (Int × Int), ps.length ≤ N ∧ LS K (ps.map dP) v G
def spPairs (K : PySem.W.Frag) : Sp := fun vs H Q _ => ∃ (G : Hp) (a : Addr) (ws : List Wk) (gap : Int), Ex G H ∧ vs = [.ref a, .int gap] ∧ Dp K G (.ref a) (dWs ws) ∧ ws.length ≤ 200 ∧ Ret G H (PrV K 40000) Q
theorem sa_pairs {a : Addr} {ws : List Wk} {gap : Int} (hd : Dp K G (.ref a) (dWs ws)) (hl : ws.length ≤ 200) : SA (spPairs K) [.ref a, .int gap] G (PrV K 40000) := fun H e Q _ q => ⟨G, a, ws, gap, e, rfl, hd, hl, q⟩
def TrV (K : PySem.W.Frag) : VP := fun v G => ∃ rows : List (List (Int × Int)), rows.length ≤ 20 ∧ (∀ r ∈ rows, r.length ≤ 300) ∧ DV K (.list (rows.map dPs)) v G
def spTries (K : PySem.W.Frag) : Sp := fun vs H Q _ => ∃ (G : Hp) (a b : Addr) (ws : List Wk) (ls : List (Int × Int)) (gap c bs : Int), Ex G H ∧ vs = [.ref a, .ref b, .int gap, .int c, .int bs] ∧ Dp K G (.ref a) (dWs ws) ∧ LS K (ls.map dP) (.ref b) G ∧ ws.length ≤ 200 ∧ ls.length ≤ 250 ∧ 0 ≤ bs ∧ bs ≤ 100 ∧ Ret G H (TrV K) Q
theorem sa_tries {a b : Addr} {ws : List Wk} {ls : List (Int × Int)} {gap c bs : Int} (hd : Dp K G (.ref a) (dWs ws)) (dl : LS K (ls.map dP) (.ref b) G) (hl : ws.length ≤ 200) (hll : ls.length ≤ 250) (h0 : 0 ≤ bs) (h1 : bs ≤ 100) : SA (spTries K) [.ref a, .ref b, .int gap, .int c, .int bs] G (TrV K) := fun H e Q _ q => ⟨G, a, b, ws, ls, gap, c, bs, e, rfl, hd, dl, hl, hll, h0, h1, q⟩
def linD (ws : List Wk) (t : Int) : PyData := match badAt ws with
  | some i => errD "BadWorking" (i : Int) true true false
  | none => .tuple [.str "told", dPs (srtP (linksP (gapOf t) ws))]
def spLin (K : PySem.W.Frag) : Sp := fun vs H Q _ => ∃ (G : Hp) (a : Addr) (ws : List Wk) (t : Int), Ex G H ∧ vs = [.ref a, .int t] ∧ Dp K G (.ref a) (dWs ws) ∧ ws.length ≤ 200 ∧ Ret G H (DV K (linD ws t)) Q
theorem sa_lin {a : Addr} {ws : List Wk} {t : Int} (hd : Dp K G (.ref a) (dWs ws)) (hl : ws.length ≤ 200) : SA (spLin K) [.ref a, .int t] G (DV K (linD ws t)) := fun H e Q _ q => ⟨G, a, ws, t, e, rfl, hd, hl, q⟩
def islD (ws : List Wk) (ls : List (Int × Int)) (t : Int) : PyData := match badAt ws with
  | some i => errD "BadWorking" (i : Int) true true false
  | none => .tuple [.str "told", .bool (fitsB ws (gapOf t) ls)]
def spIsl (K : PySem.W.Frag) : Sp := fun vs H Q _ => ∃ (G : Hp) (a b : Addr) (ws : List Wk) (ls : List (Int × Int)) (t : Int), Ex G H ∧ vs = [.ref a, .ref b, .int t] ∧ Dp K G (.ref a) (dWs ws) ∧ Dp K G (.ref b) (dPs ls) ∧ ws.length ≤ 200 ∧ ls.length ≤ 900 ∧ Ret G H (DV K (islD ws ls t)) Q
theorem sa_isl {a b : Addr} {ws : List Wk} {ls : List (Int × Int)} {t : Int} (hd : Dp K G (.ref a) (dWs ws)) (dl : Dp K G (.ref b) (dPs ls)) (hl : ws.length ≤ 200) (hll : ls.length ≤ 900) : SA (spIsl K) [.ref a, .ref b, .int t] G (DV K (islD ws ls t)) := fun H e Q _ q => ⟨G, a, b, ws, ls, t, e, rfl, hd, dl, hl, hll, q⟩
end
end Lw

set_option Elab.async false
set_option linter.all false
set_option maxRecDepth 100000
set_option maxHeartbeats 4000000
/-! first in first out needs the fewest sets -/
namespace Lw
open PySem PySem.Spec L2
theorem nd_len : ∀ {a b : List Int}, a.Nodup → (∀ x ∈ a, x ∈ b) → a.length ≤ b.length
  | [], _, _, _ => Nat.zero_le _
  | x :: a, b, h, hs => by
    obtain ⟨h1, h2⟩ := List.nodup_cons.mp h
    have hx := hs x List.mem_cons_self
    have ih := nd_len (a := a) (b := b.erase x) h2 fun y hy => (List.mem_erase_of_ne (a := y) (b := x) fun e => h1 (by rw [← e]; exact hy)).mpr (hs y (List.mem_cons_of_mem _ hy))
    rw [List.length_erase_of_mem hx] at ih
    have : 0 < b.length := List.length_pos_of_mem hx
    simp only [List.length_cons]
    omega
/-- the workings from p that no pair has second -/
def newS (ws : List Wk) (ls : List (Int × Int)) (p : Int) : List Nat := (List.range ws.length).filter fun k => decide ((wk ws k).1 = p) && !decide ((k : Int) ∈ ls.map (·.2))
theorem wk_map {ws : List Wk} : (List.range ws.length).map (wk ws) = ws := by
  apply List.ext_getElem
  · simp
  · intro i h1 h2
    simp only [List.length_map, List.length_range] at h1
    simp only [List.getElem_map, List.getElem_range]
    exact wk_get (List.getElem?_eq_getElem h1)
theorem left_len {ws : List Wk} {p m : Int} : (leftN p ws m).length = ((List.range ws.length).filter fun k => decide ((wk ws k).1 = p ∧ (wk ws k).2.2.1 ≤ m)).length := by
  unfold leftN
  conv => lhs; rw [← @wk_map ws, List.filter_map, List.length_map]
  rfl
theorem ready_len {ws : List Wk} {p gap m : Int} : (readyN p gap ws m).length = ((List.range ws.length).filter fun k => decide ((wk ws k).2.1 = p ∧ (wk ws k).2.2.2 + gap ≤ m)).length := by
  unfold readyN
  conv => lhs; rw [← @wk_map ws, List.filter_map, List.length_map]
  rfl
theorem goes_of {ws : List Wk} {gap a b : Int} (h : goesB ws gap a b = true) : 0 ≤ a ∧ a < (ws.length : Int) ∧ 0 ≤ b ∧ b < (ws.length : Int) ∧ (wk ws a.toNat).2.1 = (wk ws b.toNat).1 ∧ (wk ws a.toNat).2.2.2 + gap ≤ (wk ws b.toNat).2.2.1 := of_decide_eq_true h
/-- no linking needs fewer than the surplus at a moment -/
theorem low_bound {ws : List Wk} {gap p : Int} {ls : List (Int × Int)} (h : fitsB ws gap ls = true) (m : Int) : sm (evs gap p ws) m ≤ ((newS ws ls p).length : Int) := by
  unfold fitsB at h
  simp only [Bool.and_eq_true, decide_eq_true_eq, List.all_eq_true] at h
  obtain ⟨⟨n1, n2⟩, hg⟩ := h
  rw [← surplus_eq, left_len, ready_len]
  let A : List Nat := (List.range ws.length).filter fun k : Nat => decide ((wk ws k).1 = p ∧ (wk ws k).2.2.1 ≤ m)
  let B : List Nat := (List.range ws.length).filter fun k : Nat => decide ((wk ws k).2.1 = p ∧ (wk ws k).2.2.2 + gap ≤ m)
  let A1 : List Nat := A.filter fun k : Nat => decide ((k : Int) ∈ ls.map (·.2))
  let A2 : List Nat := A.filter fun k : Nat => !decide ((k : Int) ∈ ls.map (·.2))
  have split : A.length = A1.length + A2.length := by
    have : ∀ l : List Nat, l.length = (l.filter fun k : Nat => decide ((k : Int) ∈ ls.map (·.2))).length + (l.filter fun k : Nat => !decide ((k : Int) ∈ ls.map (·.2))).length := fun l => by
      induction l with
      | nil => rfl
      | cons x l ih =>
        by_cases hx : (x : Int) ∈ ls.map (·.2)
        · rw [List.filter_cons_of_pos (by simpa using hx), List.filter_cons_of_neg (by simpa using hx)]
          simp only [List.length_cons]; omega
        · rw [List.filter_cons_of_neg (by simpa using hx), List.filter_cons_of_pos (by simpa using hx)]
          simp only [List.length_cons]; omega
    exact this A
  have cast_nd : ∀ l : List Nat, l.Nodup → (l.map fun k : Nat => (k : Int)).Nodup := fun l hl => by
    refine List.Pairwise.map _ (fun (a b : Nat) h => ?_) hl
    show ((a : Nat) : Int) ≠ (b : Int)
    omega
  have ndA : A.Nodup := List.Pairwise.filter _ List.nodup_range
  have h2 : A2.length ≤ (newS ws ls p).length := by
    have := nd_len (a := A2.map fun k : Nat => (k : Int)) (b := (newS ws ls p).map fun k : Nat => (k : Int)) (cast_nd _ (List.Pairwise.filter _ ndA)) fun x hx => by
      obtain ⟨k, hk, rfl⟩ := List.mem_map.mp hx
      obtain ⟨hk1, hk2⟩ := List.mem_filter.mp hk
      obtain ⟨hk3, hk4⟩ := List.mem_filter.mp hk1
      refine List.mem_map.mpr ⟨k, List.mem_filter.mpr ⟨hk3, ?_⟩, rfl⟩
      have := of_decide_eq_true hk4
      rw [decide_eq_true this.1, hk2]; rfl
    simpa using this
  let L := ls.filter fun q => decide ((wk ws q.2.toNat).1 = p ∧ (wk ws q.2.toNat).2.2.1 ≤ m)
  have h1 : A1.length ≤ L.length := by
    have := nd_len (a := A1.map fun k : Nat => (k : Int)) (b := L.map (·.2)) (cast_nd _ (List.Pairwise.filter _ ndA)) fun x hx => by
      obtain ⟨k, hk, rfl⟩ := List.mem_map.mp hx
      obtain ⟨hk1, hk2⟩ := List.mem_filter.mp hk
      obtain ⟨hk3, hk4⟩ := List.mem_filter.mp hk1
      obtain ⟨q, hq, hqk⟩ := List.mem_map.mp (of_decide_eq_true hk2)
      refine List.mem_map.mpr ⟨q, List.mem_filter.mpr ⟨hq, ?_⟩, hqk⟩
      rw [hqk, Int.toNat_natCast]
      exact hk4
    simpa using this
  have h3 : L.length ≤ B.length := by
    have ndL : (L.map (·.1)).Nodup := n1.sublist (List.filter_sublist.map _)
    have := nd_len (a := L.map (·.1)) (b := B.map fun k : Nat => (k : Int)) ndL fun x hx => by
      obtain ⟨q, hq, rfl⟩ := List.mem_map.mp hx
      obtain ⟨hq1, hq2⟩ := List.mem_filter.mp hq
      obtain ⟨a0, a1, b0, b1, e1, e2⟩ := goes_of (hg q hq1)
      have hq3 := of_decide_eq_true hq2
      refine List.mem_map.mpr ⟨q.1.toNat, List.mem_filter.mpr ⟨List.mem_range.mpr (by omega), decide_eq_true ⟨by rw [e1]; exact hq3.1, by omega⟩⟩, ?_⟩
      show ((q.1.toNat : Nat) : Int) = q.1
      omega
    simpa using this
  show ((A.length : Nat) : Int) - ((B.length : Nat) : Int) ≤ _
  omega
/-! the run -/
def secs (ls : List (Int × Int)) : List Int := ls.map (·.2)
def unl (gap p : Int) (ws : List Wk) (l : List T3i) : List T3i := l.filter fun t => decide (t.2.2 = p) && !decide (t.2.1 ∈ secs (runP gap ws l).2)
def lnk (gap p : Int) (ws : List Wk) (l : List T3i) : List T3i := l.filter fun t => decide (t.2.2 = p) && decide (t.2.1 ∈ secs (runP gap ws l).2)
theorem run_snoc' {gap : Int} {ws : List Wk} {l : List T3i} {t : T3i} : runP gap ws (l ++ [t]) = stepQ gap (runP gap ws l) t := by simp [runP]
theorem secs_sub {gap : Int} {ws : List Wk} : ∀ {l : List T3i} {k : Int}, k ∈ secs (runP gap ws l).2 → k ∈ l.map (·.2.1) := by
  have key : ∀ n, ∀ l : List T3i, l.length = n → ∀ k, k ∈ secs (runP gap ws l).2 → k ∈ l.map (·.2.1) := fun n => by
    induction n with
    | zero => intro l h k hk; rw [List.length_eq_zero_iff.mp h] at hk; simp [runP, secs] at hk
    | succ n ih =>
      intro l h k hk
      have hne : l ≠ [] := by rintro rfl; simp at h
      obtain ⟨l', t, rfl⟩ : ∃ l' t, l = l' ++ [t] := ⟨_, _, (List.dropLast_concat_getLast hne).symm⟩
      rw [run_snoc'] at hk
      rw [List.map_append, List.mem_append]
      unfold stepQ at hk
      split at hk
      · split at hk
        · simp only [secs, List.map_append, List.mem_append] at hk
          rcases hk with hk | hk
          · exact .inl (ih l' (by simpa using h) k hk)
          · exact .inr (by simpa using hk)
        · exact .inl (ih l' (by simpa using h) k hk)
      · exact .inl (ih l' (by simpa using h) k hk)
  exact fun {l k} => key _ l rfl k
structure RunOk (gap p : Int) (ws : List Wk) (l : List T3i) : Prop where
  suf : (runP gap ws l).1 p <:+ queue0 ws p
  cnt : ((runP gap ws l).1 p).length + (lnk gap p ws l).length = (queue0 ws p).length
  top : unl gap p ws l = [] ∨ ∃ s, ((unl gap p ws l).length : Int) ≤ sm (evs gap p ws) s
theorem cnt_all {gap p : Int} {ws : List Wk} {l : List T3i} : (l.filter fun t => decide (t.2.2 = p)).length = (lnk gap p ws l).length + (unl gap p ws l).length := by
  unfold lnk unl
  generalize secs (runP gap ws l).2 = S
  induction l with
  | nil => rfl
  | cons t l ih =>
    by_cases h1 : t.2.2 = p <;> by_cases h2 : t.2.1 ∈ S <;> simp [h1, h2] at ih ⊢ <;> omega
theorem dep_starts (ws : List Wk) : (depS ws).Pairwise fun s t => s.1 ≤ t.1 := (srtX_sorted x3 (depT ws)).imp fun h => by
  rcases lex_of_x3 h with h | h
  · exact Int.le_of_lt h
  · exact Int.le_of_eq h.1
theorem dep_nd (ws : List Wk) : ((depS ws).map (·.2.1)).Nodup := by
  unfold depS
  rw [((srtX_perm x3 (depT ws)).map (·.2.1)).nodup_iff]
  unfold depT
  rw [List.map_map]
  refine List.Pairwise.map _ (fun (a b : Nat) h => ?_) List.nodup_range
  show ((a : Nat) : Int) ≠ (b : Int)
  omega
theorem dep_left {ws : List Wk} {p m : Int} : (leftN p ws m).length = ((depS ws).filter fun t => decide (t.2.2 = p ∧ t.1 ≤ m)).length := by
  unfold depS
  rw [left_len, ((srtX_perm x3 (depT ws)).filter _).length_eq]
  unfold depT
  rw [List.filter_map, List.length_map]
  rfl
theorem arr_ready {ws : List Wk} {p gap m : Int} : (readyN p gap ws m).length = ((queue0 ws p).filter fun q => decide (q.1 + gap ≤ m)).length := by
  rw [ready_len]
  unfold queue0 arrS
  rw [List.filter_map, List.length_map, List.filter_filter, ((srtX_perm x3 (arrT ws)).filter _).length_eq]
  unfold arrT
  rw [List.filter_map, List.length_map]
  refine congrArg List.length (List.filter_congr fun k _ => ?_)
  show decide _ = (decide _ && decide _)
  rw [Bool.decide_and, Bool.and_comm]
  rfl
theorem run_ok {gap p : Int} {ws : List Wk} : ∀ (l r : List T3i), l ++ r = depS ws → RunOk gap p ws l := by
  have key : ∀ n, ∀ l r : List T3i, l.length = n → l ++ r = depS ws → RunOk gap p ws l := fun n => by
    induction n with
    | zero =>
      intro l r h _
      rw [List.length_eq_zero_iff.mp h]
      exact ⟨⟨[], rfl⟩, by simp [runP, lnk], .inl rfl⟩
    | succ n ih =>
      intro l r h hd
      have hne : l ≠ [] := by rintro rfl; simp at h
      obtain ⟨l', t, rfl⟩ : ∃ l' t, l = l' ++ [t] := ⟨_, _, (List.dropLast_concat_getLast hne).symm⟩
      have h0 := ih l' (t :: r) (by simpa using h) (by simpa using hd)
      have nd := dep_nd ws
      rw [← hd] at nd
      have tn : t.2.1 ∉ l'.map (·.2.1) := by
        rw [List.map_append, List.map_append, List.nodup_append] at nd
        have n1 := nd.1
        rw [List.nodup_append] at n1
        exact fun z => n1.2.2 _ z t.2.1 (by simp) rfl
      have tno : t.2.1 ∉ secs (runP gap ws l').2 := fun z => tn (secs_sub z)
      have lst : ∀ u ∈ l', u.1 ≤ t.1 := fun u hu => by
        have := dep_starts ws
        rw [← hd, List.append_assoc, List.pairwise_append] at this
        exact this.2.2 u hu t (by simp)
      have same : ∀ (ls : List (Int × Int)) (u : T3i), u ∈ l' → (u.2.1 ∈ secs (ls ++ [(0, t.2.1)]) ↔ u.2.1 ∈ secs ls) := fun ls u hu => by
        simp only [secs, List.map_append, List.mem_append, List.map_cons, List.map_nil, List.mem_singleton]
        exact ⟨fun z => z.elim id fun e => absurd (List.mem_map.mpr ⟨u, hu, e⟩) tn, .inl⟩
      -- not linked
      have stay : runP gap ws (l' ++ [t]) = runP gap ws l' → (t.2.2 = p → ∀ q ∈ (runP gap ws l').1 p, ¬ (q.1 + gap ≤ t.1)) → RunOk gap p ws (l' ++ [t]) := fun e hno => by
        have eu : unl gap p ws (l' ++ [t]) = unl gap p ws l' ++ (if t.2.2 = p then [t] else []) := by
          unfold unl
          rw [e, List.filter_append]
          congr 1
          by_cases hp : t.2.2 = p <;> simp [hp, tno]
        have el : lnk gap p ws (l' ++ [t]) = lnk gap p ws l' := by
          unfold lnk
          rw [e, List.filter_append]
          simp [tno]
        refine ⟨by rw [e]; exact h0.suf, by rw [e, el]; exact h0.cnt, ?_⟩
        rw [eu]
        by_cases hp : t.2.2 = p
        · rw [if_pos hp]
          refine .inr ⟨t.1, ?_⟩
          rw [← surplus_eq, dep_left, arr_ready]
          have hall := hno hp
          obtain ⟨pre, hpre⟩ := h0.suf
          have r1 : ((queue0 ws p).filter fun q => decide (q.1 + gap ≤ t.1)).length ≤ pre.length := by
            rw [← hpre, List.filter_append, List.length_append]
            have z : ((runP gap ws l').1 p).filter (fun q => decide (q.1 + gap ≤ t.1)) = [] := List.filter_eq_nil_iff.mpr fun q hq => by simpa using hall q hq
            rw [z]
            have := List.length_filter_le (fun q : Int × Int => decide (q.1 + gap ≤ t.1)) pre
            simp; omega
          have r2 : pre.length = (lnk gap p ws l').length := by
            have := h0.cnt
            rw [← hpre, List.length_append] at this
            omega
          have r3 : ((l' ++ [t]).filter fun t => decide (t.2.2 = p)).length ≤ ((depS ws).filter fun u => decide (u.2.2 = p ∧ u.1 ≤ t.1)).length := by
            rw [← hd, List.filter_append (l₁ := l' ++ [t]) (l₂ := r), List.length_append]
            have z : (l' ++ [t]).filter (fun u => decide (u.2.2 = p ∧ u.1 ≤ t.1)) = (l' ++ [t]).filter fun u => decide (u.2.2 = p) := by
              refine List.filter_congr fun u hu => ?_
              have : u.1 ≤ t.1 := by
                rcases List.mem_append.mp hu with hu | hu
                · exact lst u hu
                · rw [List.mem_singleton.mp hu]; exact Int.le_refl _
              simp [this]
            rw [z]
            omega
          have r4 := @cnt_all gap p ws (l' ++ [t])
          rw [el, eu, if_pos hp] at r4
          rw [List.length_append] at r4 ⊢
          omega
        · rw [if_neg hp, List.append_nil]
          exact h0.top
      rw [show (runP gap ws (l' ++ [t]) = runP gap ws l' → _) = _ from rfl] at stay
      cases hf : (runP gap ws l').1 t.2.2 with
      | nil => exact stay (by rw [run_snoc']; unfold stepQ; rw [hf]) fun hp q hq => by rw [← hp, hf] at hq; cases hq
      | cons x rest =>
        by_cases hx : x.1 + gap ≤ t.1
        · have e : runP gap ws (l' ++ [t]) = (popF (runP gap ws l').1 t.2.2 rest, (runP gap ws l').2 ++ [(x.2, t.2.1)]) := by rw [run_snoc']; unfold stepQ; rw [hf]; exact if_pos hx
          have es : secs (runP gap ws (l' ++ [t])).2 = secs (runP gap ws l').2 ++ [t.2.1] := by rw [e]; simp [secs]
          have mem : ∀ u ∈ l', (u.2.1 ∈ secs (runP gap ws (l' ++ [t])).2 ↔ u.2.1 ∈ secs (runP gap ws l').2) := fun u hu => by
            rw [es, List.mem_append]
            exact ⟨fun z => z.elim id fun e => absurd (List.mem_map.mpr ⟨u, hu, List.mem_singleton.mp e⟩) tn, .inl⟩
          have tin : t.2.1 ∈ secs (runP gap ws (l' ++ [t])).2 := by rw [es]; simp
          have eu : unl gap p ws (l' ++ [t]) = unl gap p ws l' := by
            unfold unl
            rw [List.filter_append]
            have z1 : [t].filter (fun u => decide (u.2.2 = p) && !decide (u.2.1 ∈ secs (runP gap ws (l' ++ [t])).2)) = [] := by simp [tin]
            rw [z1, List.append_nil]
            refine List.filter_congr fun u hu => ?_
            rw [decide_eq_decide.mpr (mem u hu)]
          have el : lnk gap p ws (l' ++ [t]) = lnk gap p ws l' ++ (if t.2.2 = p then [t] else []) := by
            unfold lnk
            rw [List.filter_append]
            congr 1
            · refine List.filter_congr fun u hu => ?_
              rw [decide_eq_decide.mpr (mem u hu)]
            · by_cases hp : t.2.2 = p <;> simp [hp, tin]
          refine ⟨?_, ?_, by rw [eu]; exact h0.top⟩
          · rw [e]
            show popF _ _ _ p <:+ _
            unfold popF
            split
            · rename_i hp
              rw [← hp] at hf
              have := h0.suf
              rw [hf] at this
              exact List.IsSuffix.trans ⟨[x], rfl⟩ this
            · exact h0.suf
          · rw [el, e]
            show (popF _ _ _ p).length + _ = _
            unfold popF
            have := h0.cnt
            by_cases hp : p = t.2.2
            · rw [if_pos hp, if_pos hp.symm]
              rw [hp, hf] at this
              rw [hp]
              simp at this ⊢
              omega
            · rw [if_neg hp, if_neg (Ne.symm hp)]
              simpa using this
        · refine stay (by rw [run_snoc']; unfold stepQ; rw [hf]; exact if_neg hx) fun hp q hq => ?_
          rw [← hp, hf] at hq
          have srt : (queue0 ws t.2.2).Pairwise lexLe := by rw [queue0_eq]; exact (qAll_sorted ws).filter _
          have s2 : (x :: rest).Pairwise lexLe := by
            have hs := h0.suf
            rw [← hp, hf] at hs
            exact srt.sublist hs.sublist
          rcases List.mem_cons.mp hq with rfl | hq
          · exact hx
          · have := (List.pairwise_cons.mp s2).1 q hq
            unfold lexLe at this
            omega
  exact fun l r h => key _ l r rfl h
end Lw

set_option Elab.async false
set_option linter.all false
set_option maxRecDepth 100000
set_option maxHeartbeats 4000000
/-! >= of tuples; fewest sets: the rest of the mathematics -/
namespace Lw
open PySem PySem.Spec L2 PyProof.Rows
open Evl (Ex)
def rGeT (K : PySem.W.Frag) : R2 := fun x y H Q => ∃ (a b : Addr) (ns ms : List Int), x = .ref a ∧ y = .ref b ∧ SqT K H a (ns.map V.int) ∧ SqT K H b (ms.map V.int) ∧
  Q (.bl (Ob.lexAt (fun j => decide (ns.getD j 0 = ms.getD j 0)) (fun j => decide (ms.getD j 0 ≤ ns.getD j 0)) (decide (ns.length ≥ ms.length)) 0 (min ns.length ms.length))) H
theorem op_geT {X : Cx} (hu : X.A.units < cLine) : OpR X (compareOp .GtE) (rGeT X.K) := by
  intro pins s σ H x y v u Q I rx ry h
  obtain ⟨a, b, ns, ms, rfl, rfl, ha, hb, q⟩ := h
  cases rx
  cases ry
  obtain ⟨its, r1, p1, _⟩ := I.tuple ha
  obtain ⟨its2, r2, p2, _⟩ := I.tuple hb
  have i1 : IntsAre its ns := Vals.ints r1
  have i2 : IntsAre its2 ms := Vals.ints r2
  have e1 : its.toArray.size = ns.length := by rw [List.size_toArray]; exact i1.length
  have e2 : its2.toArray.size = ms.length := by rw [List.size_toArray]; exact i2.length
  have at1 : ∀ j (h1 : j < its.toArray.size), ∃ t, its.toArray[j] = .int (ns.getD j 0) t := fun j h1 => PyProof.Rows.IntsAre.int_at i1 _ _ (by simp at h1; simp [h1])
  have at2 : ∀ j (h1 : j < its2.toArray.size), ∃ t, its2.toArray[j] = .int (ms.getD j 0) t := fun j h1 => PyProof.Rows.IntsAre.int_at i2 _ _ (by simp at h1; simp [h1])
  have R := Ob.RcOp.tuples_ge (A := X.A) (s := s) (e := fun j => decide (ns.getD j 0 = ms.getD j 0)) (r := fun j => decide (ms.getD j 0 ≤ ns.getD j 0)) p1 p2 hu (fun j h1 h2 => by
    obtain ⟨t, et⟩ := at1 j h1
    obtain ⟨t', et'⟩ := at2 j h2
    rw [et, et']
    have z : (ns.getD j 0 == ms.getD j 0) = decide (ns.getD j 0 = ms.getD j 0) := by
      by_cases q : ns.getD j 0 = ms.getD j 0
      · rw [decide_eq_true q]; exact beq_iff_eq.mpr q
      · rw [decide_eq_false q]; exact beq_eq_false_iff_ne.mpr q
    rw [← z]
    exact SeqAt.EqAt.int_int _ _ _ _) (fun j h1 h2 _ => by
    obtain ⟨t, et⟩ := at1 j h1
    obtain ⟨t', et'⟩ := at2 j h2
    rw [et, et']
    exact Ob.RcOp.ge_int _ _ _ _)
  rw [e1, e2] at R
  have z : wpAny (model X.prog X.w) X.A (compareOp .GtE (.ref a) (.ref b)) (EP X pins σ Q) X.xe s := R X.prog X.w X.xe (EP X pins σ Q) ⟨.bl _, H, I, rfl, q⟩
  exact z
theorem et_geP {K : PySem.W.Frag} {σ : L2.St} {G : Hp} {ta tb : TE} {p q : Int × Int} (ha : EF ta σ G (DV K (dP p))) (hb : EF tb σ G (DV K (dP q))) (h : lexLe p q ∧ p ≠ q) : ET (tTest (tOp (rGeT K) ta tb)) σ G (· = false) :=
  et_test (ef_op (P := BV (· = false)) mo_DV mo_DV ha hb fun x y G' e hx hy => by
    obtain ⟨a, rfl, sa⟩ := dp_P hx
    obtain ⟨b, rfl, sb⟩ := dp_P hy
    intro H e2 Q k
    refine ⟨a, b, [p.1, p.2], [q.1, q.2], rfl, rfl, Evl.ex_t e2 sa, Evl.ex_t e2 sb, k _ G' H (.refl e2) ⟨_, rfl, ?_⟩⟩
    obtain ⟨h1, h2⟩ := h
    unfold lexLe at h1
    show Ob.lexAt _ _ _ 0 2 = false
    unfold Ob.lexAt
    simp only
    by_cases e1 : p.1 = q.1
    · rw [if_pos (by simpa using e1)]
      unfold Ob.lexAt
      have n2 : p.2 ≠ q.2 := fun z => h2 (Prod.ext e1 z)
      rw [if_neg (by simpa using n2)]
      simp
      omega
    · rw [if_neg (by simpa using e1)]
      simp
      omega)
/-! what the program's run is -/
theorem newS_len {ws : List Wk} {gap p : Int} : (newS ws (linksP gap ws) p).length = (unl gap p ws (depS ws)).length := by
  unfold unl linksP secs newS
  generalize (runP gap ws (depS ws)).2 = ls
  have e : (depS ws).filter (fun t => decide (t.2.2 = p) && !decide (t.2.1 ∈ ls.map (·.2))) = (depS ws).filter fun t => decide (t.2.2 = p) && !decide (t.2.1 ∈ ls.map (·.2)) := rfl
  unfold depS
  rw [((srtX_perm x3 (depT ws)).filter _).length_eq]
  unfold depT
  rw [List.filter_map, List.length_map]
  rfl
structure LinOk (ws : List Wk) (gap : Int) (B : Int → Prop) (st : List Int × List (Int × Int)) : Prop where
  fst : st.2.map (·.1) = st.1
  nd : st.1.Nodup
  sec : (st.2.map (·.2)).Nodup
  bnd : ∀ q ∈ st.2, B q.2
  goes : ∀ q ∈ st.2, goesB ws gap q.1 q.2 = true
theorem LinOk.fits {ws : List Wk} {gap : Int} {B : Int → Prop} {st : List Int × List (Int × Int)} (h : LinOk ws gap B st) : fitsB ws gap st.2 = true := by
  unfold fitsB
  rw [h.fst, decide_eq_true h.nd, decide_eq_true h.sec]
  simpa using fun a b hab => h.goes (a, b) hab
theorem LinOk.add {ws : List Wk} {gap : Int} {B : Int → Prop} {st : List Int × List (Int × Int)} {x k : Int} (h : LinOk ws gap B st) (hx : x ∉ st.1) (hk : ¬ B k) (hg : goesB ws gap x k = true) {B' : Int → Prop} (hB : ∀ z, B z → B' z) (hk' : B' k) : LinOk ws gap B' (st.1 ++ [x], st.2 ++ [(x, k)]) where
  fst := by simp [h.fst]
  nd := by
    rw [List.nodup_append]
    exact ⟨h.nd, by simp, fun a ha b hb => by cases List.mem_singleton.mp hb; exact fun e => hx (by rw [← e]; exact ha)⟩
  sec := by
    rw [List.map_append, List.nodup_append]
    refine ⟨h.sec, by simp, fun a ha b hb => ?_⟩
    simp at hb
    subst hb
    obtain ⟨q, hq, rfl⟩ := List.mem_map.mp ha
    exact fun e => hk (by rw [← e]; exact h.bnd q hq)
  bnd := fun q hq => by
    rcases List.mem_append.mp hq with hq | hq
    · exact hB _ (h.bnd q hq)
    · cases List.mem_singleton.mp hq; exact hk'
  goes := fun q hq => by
    rcases List.mem_append.mp hq with hq | hq
    · exact h.goes q hq
    · cases List.mem_singleton.mp hq; exact hg
theorem LinOk.mono {ws : List Wk} {gap : Int} {B B' : Int → Prop} {st : List Int × List (Int × Int)} (h : LinOk ws gap B st) (hB : ∀ z, B z → B' z) : LinOk ws gap B' st := ⟨h.fst, h.nd, h.sec, fun q hq => hB _ (h.bnd q hq), h.goes⟩
theorem linL_ok {ws : List Wk} {gap : Int} : fitsB ws gap (linksL gap ws) = true := by
  have ndP : ((depP ws).map (·.2)).Nodup := by
    rw [depP_eq, List.map_map]
    exact dep_nd ws
  have key : ∀ n, ∀ l r : List (Int × Int), l.length = n → l ++ r = depP ws → LinOk ws gap (· ∈ l.map (·.2)) (l.foldl (stepL ws gap) ([], [])) := fun n => by
    induction n with
    | zero => intro l r h _; rw [List.length_eq_zero_iff.mp h]; exact ⟨rfl, by simp, by simp, by simp, by simp⟩
    | succ n ih =>
      intro l r h hd
      have hne : l ≠ [] := by rintro rfl; simp at h
      obtain ⟨l', t, rfl⟩ : ∃ l' t, l = l' ++ [t] := ⟨_, _, (List.dropLast_concat_getLast hne).symm⟩
      have h0 := ih l' (t :: r) (by simpa using h) (by simpa using hd)
      have tn : t.2 ∉ l'.map (·.2) := by
        have nd := ndP
        rw [← hd, List.map_append, List.map_append, List.nodup_append] at nd
        have n1 := nd.1
        rw [List.nodup_append] at n1
        exact fun z => n1.2.2 _ z t.2 (by simp) rfl
      rw [List.foldl_append]
      generalize l'.foldl (stepL ws gap) ([], []) = st at h0
      show LinOk ws gap _ (stepL ws gap st t)
      unfold stepL
      cases hf : srtP ((freeL ws gap t.2).filter fun a => !decide (a.2 ∈ st.1)) with
      | nil => exact h0.mono fun z hz => by rw [List.map_append]; exact List.mem_append_left _ hz
      | cons x rest =>
        have hx : x ∈ (freeL ws gap t.2).filter fun a => !decide (a.2 ∈ st.1) := (srtP_perm _).mem_iff.mp (by rw [hf]; exact List.mem_cons_self)
        obtain ⟨x1, x2⟩ := List.mem_filter.mp hx
        have hg : goesB ws gap x.2 t.2 = true := by
          unfold freeL at x1
          obtain ⟨z, hz, rfl⟩ := List.mem_map.mp x1
          exact (List.mem_filter.mp hz).2
        exact h0.add (by simpa using x2) tn hg (fun z hz => by rw [List.map_append]; exact List.mem_append_left _ hz) (by simp)
  exact (key _ (depP ws) [] rfl (by simp)).fits
theorem linP_ok {ws : List Wk} {gap : Int} : fitsB ws gap (linksP gap ws) = true := by rw [links_eq]; exact linL_ok
/-- the number of new sets is the deficit -/
theorem new_top {ws : List Wk} {gap p : Int} : ((newS ws (linksP gap ws) p).length : Int) = (topP (evs gap p ws)).1 := by
  have lo := low_bound (p := p) (linP_ok (ws := ws) (gap := gap))
  have up := (run_ok (gap := gap) (p := p) (ws := ws) (depS ws) [] (by simp)).top
  rw [newS_len] at lo ⊢
  rcases topP_ok (l := evs gap p ws) evs_one with ⟨e, h⟩ | ⟨g, m, e, h0, h1, h2, h3⟩
  · rw [e]
    rcases up with u | ⟨s, u⟩
    · rw [u]; rfl
    · have := h s
      show ((unl gap p ws (depS ws)).length : Int) = 0
      omega
  · rw [e]
    have a := lo m
    rcases up with u | ⟨s, u⟩
    · rw [u] at a; simp at a; omega
    · have := h2 s
      show ((unl gap p ws (depS ws)).length : Int) = g
      omega
end Lw

set_option Elab.async false
set_option linter.all false
set_option maxRecDepth 100000
set_option maxHeartbeats 4000000
/-! fewest sets: promises -/
namespace Lw
open PySem PySem.Spec L2
open Evl (Ex)
theorem hu0 {k : Nat} {A : Around} (r : Room k A) : A.units < cLine := by have := r.un; omega
section
variable {K : PySem.W.Frag} {σ : L2.St} {G G' H H1 : Hp} {D : Ends} {ta te : TE} {t : TT}
def spCheckN (K : PySem.W.Frag) : Sp := fun vs H Q _ => ∃ (G : Hp) (a : Addr) (ws : List Wk), Ex G H ∧ vs = [.ref a] ∧ Dp K G (.ref a) (dWs ws) ∧ badAt ws = none ∧ Ret G H (XV .non) Q
theorem st_checkN {ws : List Wk} {a : Addr} {E : XK} (hG : Ex G H) (ha : EF ta σ G (XV (.ref a))) (hd : Dp K G (.ref a) (dWs ws)) (hb : badAt ws = none) (k0 : ∀ H', Ex H H' → D.nx σ H') : tDrop (tCall (spCheckN K) [] E (tCons ta tNil)) D σ H :=
  st_drop (P := XV .non) hG (ex_call1 ha fun G' e H2 e2 Q _ q => ⟨G', a, ws, e2, rfl, dpx hd e, hb, q⟩) fun v G' H' g _ => k0 H' g.hp
def spDeficitN (K : PySem.W.Frag) : Sp := fun vs H Q _ => ∃ (G : Hp) (a : Addr) (ws : List Wk) (p gap : Int), Ex G H ∧ vs = [.ref a, .int p, .int gap] ∧ Dp K G (.ref a) (dWs ws) ∧ ws.length ≤ 200 ∧ badAt ws = none ∧ Ret G H (DV K (dTop (topP (evs gap p ws)))) Q
theorem sa_deficitN {a : Addr} {ws : List Wk} {p gap : Int} (hd : Dp K G (.ref a) (dWs ws)) (hl : ws.length ≤ 200) (hb : badAt ws = none) : SA (spDeficitN K) [.ref a, .int p, .int gap] G (DV K (dTop (topP (evs gap p ws)))) := fun H e Q _ q => ⟨G, a, ws, p, gap, e, rfl, hd, hl, hb, q⟩
def spLeastN (K : PySem.W.Frag) : Sp := fun vs H Q _ => ∃ (G : Hp) (a : Addr) (ws : List Wk) (gap : Int), Ex G H ∧ vs = [.ref a, .int gap] ∧ Dp K G (.ref a) (dWs ws) ∧ ws.length ≤ 200 ∧ badAt ws = none ∧ ∀ ks : List Int, ks.Pairwise (· < ·) → (∀ k, k ∈ ks ↔ ∃ v ∈ ws, v.1 = k ∨ v.2.1 = k) → Ret G H (DV K (dPs (setsOf gap ws ks))) Q
theorem sa_leastN {a : Addr} {ws : List Wk} {gap : Int} {ps : List Int} (hd : Dp K G (.ref a) (dWs ws)) (hl : ws.length ≤ 200) (hb : badAt ws = none) (h1 : ps.Pairwise (· < ·)) (h2 : ∀ v ∈ ws, WOk ps v) : SA (spLeastN K) [.ref a, .int gap] G (DV K (dPs (setsOf gap ws ps))) := fun H e Q _ q => ⟨G, a, ws, gap, e, rfl, hd, hl, hb, fun ks ka km v G' H' g p => q v G' H' g (by rw [← sets_eq ka h1 km h2]; exact p)⟩
def spLinkN (K : PySem.W.Frag) : Sp := fun vs H Q _ => ∃ (G : Hp) (a : Addr) (ws : List Wk) (gap : Int), Ex G H ∧ vs = [.ref a, .int gap] ∧ Dp K G (.ref a) (dWs ws) ∧ ws.length ≤ 200 ∧ badAt ws = none ∧ Ret G H (DV K (dPs (srtP (linksP gap ws)))) Q
theorem sa_linkN {a : Addr} {ws : List Wk} {gap : Int} (hd : Dp K G (.ref a) (dWs ws)) (hl : ws.length ≤ 200) (hb : badAt ws = none) : SA (spLinkN K) [.ref a, .int gap] G (DV K (dPs (srtP (linksP gap ws)))) := fun H e Q _ q => ⟨G, a, ws, gap, e, rfl, hd, hl, hb, q⟩
def spIsLN (K : PySem.W.Frag) : Sp := fun vs H Q _ => ∃ (G : Hp) (a b : Addr) (ws : List Wk) (ls : List (Int × Int)) (gap : Int), Ex G H ∧ vs = [.ref a, .ref b, .int gap] ∧ Dp K G (.ref a) (dWs ws) ∧ Dp K G (.ref b) (dPs ls) ∧ ws.length ≤ 200 ∧ ls.length ≤ 900 ∧ badAt ws = none ∧ Ret G H (XV (.bl (fitsB ws gap ls))) Q
theorem sa_isLN {a b : Addr} {ws : List Wk} {ls : List (Int × Int)} {gap : Int} (hd : Dp K G (.ref a) (dWs ws)) (dl : Dp K G (.ref b) (dPs ls)) (hl : ws.length ≤ 200) (hll : ls.length ≤ 900) (hb : badAt ws = none) : SA (spIsLN K) [.ref a, .ref b, .int gap] G (XV (.bl (fitsB ws gap ls))) := fun H e Q _ q => ⟨G, a, b, ws, ls, gap, e, rfl, hd, dl, hl, hll, hb, q⟩
def WkS (ps : List Int) (v : Wk) : Prop := WOk ps v ∧ v.2.2.1 < v.2.2.2
theorem wks_bad {ps : List Int} {ws : List Wk} (h : ∀ v ∈ ws, WkS ps v) : badAt ws = none := by
  unfold badAt
  rw [List.findIdx?_eq_none_iff]
  intro v hv
  exact decide_eq_false (by have := (h v hv).2; omega)
def spWorkS (K : PySem.W.Frag) : Sp := fun vs H Q _ => ∃ (G : Hp) (c kd : Int) (a : Addr) (ps : List Int), Ex G H ∧ vs = [.int c, .int kd, .ref a] ∧ SqL K G a (ps.map V.int) ∧ 1 ≤ ps.length ∧ ps.length ≤ 2000 ∧ Ret G H (fun v G' => ∃ w : Wk, WkS ps w ∧ Dp K G' v (dW w)) Q
theorem sa_workS {c kd : Int} {a : Addr} {ps : List Int} (hs : SqL K G a (ps.map V.int)) (h1 : 1 ≤ ps.length) (h2 : ps.length ≤ 2000) : SA (spWorkS K) [.int c, .int kd, .ref a] G (fun v G' => ∃ w : Wk, WkS ps w ∧ Dp K G' v (dW w)) := fun H e Q _ q => ⟨G, c, kd, a, ps, e, rfl, hs, h1, h2, q⟩
def spIsP (K : PySem.W.Frag) : Sp := fun vs H Q _ => ∃ (G : Hp) (x : V) (p : Int × Int), Ex G H ∧ vs = [x] ∧ Dp K G x (dP p) ∧ Ret G H (XV (.bl true)) Q
theorem sa_isP {x : V} {p : Int × Int} (h : Dp K G x (dP p)) : SA (spIsP K) [x] G (XV (.bl true)) := fun H e Q _ q => ⟨G, x, p, e, rfl, h, q⟩
def spIsR (K : PySem.W.Frag) : Sp := fun vs H Q _ => ∃ (G : Hp) (a b : Addr) (ws : List Wk) (ls : List (Int × Int)) (gap : Int), Ex G H ∧ vs = [.ref a, .ref b, .int gap] ∧ Dp K G (.ref a) (dWs ws) ∧ Dp K G (.ref b) (dPs ls) ∧ ws.length ≤ 200 ∧ ls.length ≤ ws.length ∧ fitsB ws gap ls = true ∧ ls.Pairwise lexLe ∧ Ret G H (XV (.bl true)) Q
theorem sa_isR {a b : Addr} {ws : List Wk} {ls : List (Int × Int)} {gap : Int} (hd : Dp K G (.ref a) (dWs ws)) (dl : Dp K G (.ref b) (dPs ls)) (hl : ws.length ≤ 200) (hll : ls.length ≤ ws.length) (hf : fitsB ws gap ls = true) (hs : ls.Pairwise lexLe) : SA (spIsR K) [.ref a, .ref b, .int gap] G (XV (.bl true)) := fun H e Q _ q => ⟨G, a, b, ws, ls, gap, e, rfl, hd, dl, hl, hll, hf, hs, q⟩
def FitV (K : PySem.W.Frag) (ws : List Wk) (gap : Int) : VP := fun v G => ∃ ls : List (Int × Int), fitsB ws gap ls = true ∧ ls.length ≤ 200 ∧ LS K (ls.map dP) v G
def spOthL (K : PySem.W.Frag) : Sp := fun vs H Q _ => ∃ (G : Hp) (a s : Addr) (ws : List Wk) (ns : List Int) (gap : Int), Ex G H ∧ vs = [.ref a, .int gap, .ref s] ∧ Dp K G (.ref a) (dWs ws) ∧ ws.length ≤ 200 ∧ SqL K G s (ns.map V.int) ∧ ns.length ≤ 63 ∧ Ret G H (FitV K ws gap) Q
theorem sa_othL {a s : Addr} {ws : List Wk} {ns : List Int} {gap : Int} (hd : Dp K G (.ref a) (dWs ws)) (hl : ws.length ≤ 200) (hs : SqL K G s (ns.map V.int)) (hn : ns.length ≤ 63) : SA (spOthL K) [.ref a, .int gap, .ref s] G (FitV K ws gap) := fun H e Q _ q => ⟨G, a, s, ws, ns, gap, e, rfl, hd, hl, hs, hn, q⟩
def spNew (K : PySem.W.Frag) : Sp := fun vs H Q _ => ∃ (G : Hp) (a b : Addr) (ws : List Wk) (ls : List (Int × Int)) (p : Int), Ex G H ∧ vs = [.ref a, .ref b, .int p] ∧ Dp K G (.ref a) (dWs ws) ∧ Dp K G (.ref b) (dPs ls) ∧ ws.length ≤ 200 ∧ ls.length ≤ 900 ∧ Ret G H (XV (.int ((newS ws ls p).length : Nat))) Q
theorem sa_new {a b : Addr} {ws : List Wk} {ls : List (Int × Int)} {p : Int} (hd : Dp K G (.ref a) (dWs ws)) (dl : Dp K G (.ref b) (dPs ls)) (hl : ws.length ≤ 200) (hll : ls.length ≤ 900) : SA (spNew K) [.ref a, .ref b, .int p] G (XV (.int ((newS ws ls p).length : Nat))) := fun H e Q _ q => ⟨G, a, b, ws, ls, p, e, rfl, hd, dl, hl, hll, q⟩
def spIsD (K : PySem.W.Frag) : Sp := fun vs H Q _ => ∃ (G : Hp) (a : Addr) (x : V) (ws : List Wk) (p gap : Int), Ex G H ∧ vs = [.ref a, .int p, .int gap, x, .int (topAt gap ws p)] ∧ Dp K G (.ref a) (dWs ws) ∧ Dp K G x (dTop (topP (evs gap p ws))) ∧ ws.length ≤ 200 ∧ Ret G H (XV (.bl true)) Q
theorem sa_isD {a : Addr} {x : V} {ws : List Wk} {p gap : Int} (hd : Dp K G (.ref a) (dWs ws)) (hx : Dp K G x (dTop (topP (evs gap p ws)))) (hl : ws.length ≤ 200) : SA (spIsD K) [.ref a, .int p, .int gap, x, .int (topAt gap ws p)] G (XV (.bl true)) := fun H e Q _ q => ⟨G, a, x, ws, p, gap, e, rfl, hd, hx, hl, q⟩
def tolD (ws : List Wk) (ps : List Int) (p gap : Int) : PyData := .tuple [dPs (srtP (linksP gap ws)), dPs (setsOf gap ws ps), dTop (topP (evs gap p ws)), .bool true]
def spTol (K : PySem.W.Frag) : Sp := fun vs H Q _ => ∃ (G : Hp) (a b : Addr) (ws : List Wk) (ls : List (Int × Int)) (ps : List Int) (p t : Int), Ex G H ∧ vs = [.ref a, .ref b, .int p, .int t] ∧ Dp K G (.ref a) (dWs ws) ∧ Dp K G (.ref b) (dPs ls) ∧ ws.length ≤ 200 ∧ ls.length ≤ 900 ∧ badAt ws = none ∧ fitsB ws (gapOf t) ls = true ∧ ps.Pairwise (· < ·) ∧ (∀ v ∈ ws, WOk ps v) ∧ Ret G H (DV K (tolD ws ps p (gapOf t))) Q
theorem sa_tol {a b : Addr} {ws : List Wk} {ls : List (Int × Int)} {ps : List Int} {p t : Int} (hd : Dp K G (.ref a) (dWs ws)) (dl : Dp K G (.ref b) (dPs ls)) (hl : ws.length ≤ 200) (hll : ls.length ≤ 900) (hb : badAt ws = none) (hf : fitsB ws (gapOf t) ls = true) (h1 : ps.Pairwise (· < ·)) (h2 : ∀ v ∈ ws, WOk ps v) : SA (spTol K) [.ref a, .ref b, .int p, .int t] G (DV K (tolD ws ps p (gapOf t))) := fun H e Q _ q => ⟨G, a, b, ws, ls, ps, p, t, e, rfl, hd, dl, hl, hll, hb, hf, h1, h2, q⟩
/-- [x for x in range(n) if p(x)]: a new list -/
theorem el_filRN {ta : TA} {j : Nat} {n : Nat} {p : Nat → Bool} (h : EA ta σ G fun us _ => us = [.int (n : Int)]) (hn : n ≤ 40000) (hw : ∀ x, wipe ((wipe σ [j]).set j (some x)) [j] = wipe σ [j]) (hj : ∀ x, ((wipe σ [j]).set j (some x))[j]? = some (some x))
    (ht : ∀ (i : Nat) G', Ex G G' → i < n → ET t ((wipe σ [j]).set j (some (.int (i : Int)))) G' (· = p i)) :
    EF (tLc (iRng1 ta) (gName j) t (tVar j) [j]) σ G (fun v G' => ∃ r : Addr, v = .ref r ∧ G r = none ∧ G' r = some (.lst (((List.range n).filter p).map fun i : Nat => V.int (i : Int)))) := by
  refine ef_lcR1 (n := (n : Int)) (fun i acc G' => acc = ((List.range i).filter p).map fun i : Nat => V.int (i : Int)) h ⟨by omega, by omega⟩ hw (fun G' _ => rfl) (fun i acc G' e1 hi hI => ?_) (fun p acc G' h1 h2 _ _ hI => ⟨p, rfl, h1, ?_⟩)
  · rw [List.range_succ, List.filter_append]
    refine ec_if (ht i G' e1 (by omega)) (fun hb => EF.imp (P := XV (.int (i : Int))) (ex_var (hj _)) fun v G2 e2 pv => ?_) (fun hb => ?_)
    · rw [show ([i].filter p) = [i] by simp [← hb], List.map_append, hI, show v = _ from pv]
      rfl
    · rw [show ([i].filter p) = [] by simp [← hb], List.append_nil]
      exact hI
  · have en : ((n : Int)).toNat = n := by omega
    rw [en] at hI
    rw [upd_same, hI]
end
end Lw

set_option Elab.async false
set_option linter.all false
set_option maxRecDepth 100000
set_option maxHeartbeats 4000000
/-! calls with a keyword; fewest sets: the rest -/
namespace Lw
open PySem PySem.Spec L2
open Evl (Ex)
/-- x is not c, x being c -/
def rNotC (c : Bool) : R2 := fun x y H Q => x = .bl c ∧ y = .bl c ∧ Q (.bl false) H
theorem op_notC {X : Cx} {c : Bool} : OpR X (compareOp .IsNot) (rNotC c) := by
  intro pins s σ H x y v u Q I rx ry h
  obtain ⟨rfl, rfl, q⟩ := h
  cases (show u = Value.bool c from ry)
  cases (show v = Value.bool c from rx)
  exact wpAny_isNot_self rfl ⟨.bl false, H, I, rfl, q⟩
section
variable {K : PySem.W.Frag} {σ : L2.St} {G G' H H1 : Hp} {P : VP} {ta te tl : TE} {t : TT}
theorem ef_callK {sp : Sp} {gV : List V → List V → List V} {E : XK} {t tk : TA} {us ws : List V} (h : EA t σ G fun vs _ => vs = us) (hk : EA tk σ G fun vs _ => vs = ws) (hr : ∀ G', Ex G G' → SA sp (gV us ws) G' P) : EF (tCallK sp gV E t tk) σ G P := fun H e Q q =>
  h H e _ fun vs G1 H1 g1 p1 => hk H1 (g1.up.trans g1.ok) _ fun zs G2 H2 g2 p2 => by
    subst p1 p2
    obtain ⟨G3, f1, f2, g3⟩ := g1.join g2
    exact hr G3 g3.up H2 g3.ok Q E fun v G4 H4 g4 p4 => q v G4 H4 (g3.trans g4) p4
theorem et_notC {c : Bool} {tb : TE} (ha : EF ta σ G (XV (.bl c))) (hb : EF tb σ G (XV (.bl c))) : ET (tTest (tOp (rNotC c) ta tb)) σ G (· = false) := et_test (ef_op (P := BV (· = false)) mo_XV mo_XV ha hb fun x y G' _ hx hy => by
  cases (show x = .bl c from hx)
  cases (show y = .bl c from hy)
  exact fun H e Q k => ⟨rfl, rfl, k _ G' H (.refl e) ⟨_, rfl, rfl⟩⟩)
def DayS (K : PySem.W.Frag) : VP := fun v G' => ∃ (q lp lw : Addr) (ps : List Int) (ws : List Wk) (t : Int), v = .ref q ∧ SqT K G' q [.ref lp, .ref lw, .int t] ∧ G' lp = some (.lst (ps.map V.int)) ∧ Dp K G' (.ref lw) (dWs ws) ∧ ps.Pairwise (· < ·) ∧ 1 ≤ ps.length ∧ ps.length ≤ 4 ∧ (∀ v ∈ ws, WkS ps v) ∧ 1 ≤ ws.length ∧ ws.length ≤ 101
def spDayS (K : PySem.W.Frag) : Sp := fun vs H Q _ => ∃ (G : Hp) (a : Addr) (ns : List Int), Ex G H ∧ vs = [.ref a] ∧ SqL K G a (ns.map V.int) ∧ ns.length ≤ 63 ∧ Ret G H (DayS K) Q
theorem sa_dayS {a : Addr} {ns : List Int} (hs : SqL K G a (ns.map V.int)) (hn : ns.length ≤ 63) : SA (spDayS K) [.ref a] G (DayS K) := fun H e Q _ q => ⟨G, a, ns, e, rfl, hs, hn, q⟩
end
end Lw

set_option Elab.async false
set_option linter.all false
set_option maxRecDepth 100000
set_option maxHeartbeats 4000000
/-! fewest sets: what the law needs -/
namespace Lw
open PySem PySem.Spec L2
open Evl (Ex)
theorem newS_srt {ws : List Wk} {l : List (Int × Int)} {p : Int} : newS ws (srtP l) p = newS ws l p := by
  unfold newS
  refine List.filter_congr fun k _ => ?_
  have e : ((k : Int) ∈ (srtP l).map (·.2)) ↔ ((k : Int) ∈ l.map (·.2)) := ((srtP_perm l).map _).mem_iff
  simp only [e]
theorem fits_srt {ws : List Wk} {gap : Int} {l : List (Int × Int)} (h : fitsB ws gap l = true) : fitsB ws gap (srtP l) = true := by
  unfold fitsB at h ⊢
  simp only [Bool.and_eq_true, decide_eq_true_eq, List.all_eq_true] at h ⊢
  obtain ⟨⟨h1, h2⟩, h3⟩ := h
  exact ⟨⟨((srtP_perm l).map _).nodup_iff.mpr h1, ((srtP_perm l).map _).nodup_iff.mpr h2⟩, fun p hp => h3 p ((srtP_perm l).mem_iff.mp hp)⟩
theorem lnk_len {gap : Int} {ws : List Wk} : (srtP (linksP gap ws)).length ≤ ws.length := by
  rw [(srtP_perm _).length_eq]
  have := @run_len gap ws (depS ws)
  rw [depS_len] at this
  exact this
theorem low_top {ws : List Wk} {gap p : Int} {ls : List (Int × Int)} (h : fitsB ws gap ls = true) : topAt gap ws p ≤ ((newS ws ls p).length : Int) := by
  unfold topAt
  rcases topP_ok (l := evs gap p ws) evs_one with ⟨e, _⟩ | ⟨g, m, e, _, h1, _, _⟩
  · rw [e]; show (0 : Int) ≤ _; omega
  · rw [e]
    have := low_bound (p := p) h m
    show g ≤ _
    omega
theorem new_at {ws : List Wk} {gap p : Int} : (((newS ws (srtP (linksP gap ws)) p).length : Nat) : Int) = topAt gap ws p := by
  rw [newS_srt]
  exact new_top
theorem sets_snoc {gap : Int} {ws : List Wk} {ps : List Int} {p : Int} : setsOf gap ws (ps ++ [p]) = setsOf gap ws ps ++ if topAt gap ws p > 0 then [(p, topAt gap ws p)] else [] := by
  unfold setsOf
  rw [List.map_append, List.filter_append]
  congr 1
  by_cases h : topAt gap ws p > 0
  · rw [if_pos h]; simp [h]
  · rw [if_neg h]; simp; omega
theorem sets_lenL {gap : Int} {ws : List Wk} {ps : List Int} : (setsOf gap ws ps).length ≤ ps.length := by
  unfold setsOf
  exact Nat.le_trans (List.length_filter_le _ _) (by simp)
theorem okb_psL (l : List (Int × Int)) (h : l.length ≤ 900) : Okb 3 (dPs l) := by
  refine ⟨by rw [List.length_map]; omega, fun d hd => ?_⟩
  obtain ⟨q, _, rfl⟩ := List.mem_map.mp hd
  simp [dP, Okb]
theorem okb_wsL (ws : List Wk) (h : ws.length ≤ 900) : Okb 3 (dWs ws) := by
  refine ⟨by rw [List.length_map]; omega, fun d hd => ?_⟩
  obtain ⟨q, _, rfl⟩ := List.mem_map.mp hd
  simp [dW, Okb]
end Lw

set_option Elab.async false
set_option linter.all false
set_option maxRecDepth 100000
set_option maxHeartbeats 4000000
/-! [x] * n, while, range downward, min and sum of a list -/
namespace Lw
open PySem PySem.Spec L2
open Evl (Ex)
section
variable {K : PySem.W.Frag} {σ : L2.St} {G G' H H1 : Hp} {D : Ends} {ta tb te tl : TE} {t : TT} {tu : TS} {P : VP}
theorem rep_flat {x : V} : ∀ {n : Nat}, (List.replicate n [x]).flatten = List.replicate n x
  | 0 => rfl
  | n + 1 => by rw [List.replicate_succ, List.flatten_cons, rep_flat, List.replicate_succ]; rfl
/-- [x] * n: a NEW list -/
theorem ef_repX {x : V} {n : Nat} (ha : EF ta σ G (XV x)) (hb : EF tb σ G (XV (.int (n : Int)))) (hn : n ≤ 100000) : EF (tOp rRep (tLst (tCons ta tNil)) tb) σ G fun v G' => ∃ p : Addr, v = .ref p ∧ G p = none ∧ G' p = some (.lst (List.replicate n x)) :=
  fun H e Q q => by
    refine (ef_lst (P := fun v G1 => ∃ r : Addr, v = .ref r ∧ G1 r = some (.lst [x])) (ea_x ha ea_nil) (fun vs _ ev => by rw [ev]; simp) fun p vs G' _ _ _ ev => ⟨p, rfl, by rw [ev]; exact upd_same⟩) H e _ fun v1 G1 H1 g1 ⟨r, ev, hr⟩ => ?_
    subst ev
    refine hb H1 (g1.up.trans g1.ok) _ fun v2 G2 H2 g2 p2 => ?_
    cases (show v2 = .int (n : Int) from p2)
    obtain ⟨G3, f1, f2, g3⟩ := g1.join g2
    refine ⟨r, (n : Int), [x], rfl, rfl, g2.hp _ _ (g1.ok _ _ hr), by omega, by omega, ?_, fun p hp => ?_⟩
    · have : (100000 : Nat) ≤ sizeLine := by decide
      simp
      omega
    · have e1 : (List.replicate ((n : Int).toNat) [x]).flatten = List.replicate n x := by
        rw [Int.toNat_natCast]
        exact rep_flat
      rw [e1]
      exact q _ _ _ (g3.trans (.new g3.ok hp)) ⟨p, rfl, none_back (g3.up.trans g3.ok) hp, upd_same⟩
theorem ex_minL {ns : List Int} {m : Int} (h : EF ta σ G (DV K (dI ns))) (hm : m ∈ ns) (hl : ∀ y ∈ ns, m ≤ y) : EF (tCB (rMin K) (tCons ta tNil)) σ G (XV (.int m)) := fun H e Q k => (ea_one h) H e _ fun vs G1 H1 g1 ⟨x, ev, d⟩ => by
  obtain ⟨a, xs, rfl, hs, hd⟩ := dp_lst d
  rw [dpa_ints_eq hd] at hs
  subst ev
  refine ⟨a, ns, rfl, Evl.ex_l g1.ok hs, List.length_pos_of_mem hm, fun m' h1 h2 => ?_⟩
  have : m' = m := Int.le_antisymm (h2 m hm) (hl m' h1)
  rw [this]
  exact k _ G1 H1 g1 rfl
theorem ex_sumL {ns : List Int} (h : EF ta σ G (DV K (dI ns))) : EF (tCB (rSum K) (tCons ta tNil)) σ G (XV (.int ns.sum)) := fun H e Q k => (ea_one h) H e _ fun vs G1 H1 g1 ⟨x, ev, d⟩ => by
  obtain ⟨a, xs, rfl, hs, hd⟩ := dp_lst d
  rw [dpa_ints_eq hd] at hs
  subst ev
  exact ⟨a, ns, rfl, Evl.ex_l g1.ok hs, k _ G1 H1 g1 rfl⟩
/-- while c: .. with a falling number -/
theorem st_whileN (W : Nat → L2.St → Hp → Prop) {m0 : Nat} (h0 : W m0 σ H)
    (hs : ∀ m σ' H', W m σ' H' → ∃ (G' : Hp) (b : Bool), Ex G' H' ∧ ET t σ' G' (· = b) ∧ (b = true → ∀ H1, Ex H' H1 → tu { D with nx := fun σ2 H2 => ∃ m', m' < m ∧ W m' σ2 H2, ct := fun σ2 H2 => ∃ m', m' < m ∧ W m' σ2 H2, bk := D.nx } σ' H1) ∧ (b = false → ∀ H1, Ex H' H1 → D.nx σ' H1)) : tWhile t tu D σ H :=
  ⟨W, ⟨m0, h0⟩, fun m σ' H' hw => by
    obtain ⟨G', b, e, ht, h1, h2⟩ := hs m σ' H' hw
    refine ht H' e _ fun c H1 e1 pc => ?_
    rw [pc]
    cases b with
    | true => exact ⟨_, fun _ _ h => h, h1 rfl H1 e1⟩
    | false => exact h2 rfl H1 e1⟩
theorem for_rangeC {lo c : Int} {n : Nat} {g : TG} {tb : TS} {D : Ends} {σ : L2.St} {H : Hp} (Pv : Nat → L2.St → Hp → Prop) (h0 : Pv 0 σ H)
    (hs : ∀ i σ H, i < n → Pv i σ H → g (.int (lo + (i : Nat) * c)) σ H fun σ2 H2 => tb { D with nx := Pv (i + 1), ct := Pv (i + 1), bk := D.nx } σ2 H2) (hd : ∀ σ H, Pv n σ H → D.nx σ H) :
    ∃ W : Nat → Nat → L2.St → Hp → Prop, (∃ m, W 0 m σ H) ∧ ∀ i m σ H, W i m σ H →
      ((Itc lo c n).stop i H ∧ D.nx σ H) ∨ ((Itc lo c n).go i H ∧ ∃ N : L2.St → Hp → Prop, (∀ σ' H', N σ' H' → ∃ m', m' < m ∧ W (i + 1) m' σ' H') ∧ ∀ x H', (Itc lo c n).yld i H x H' → g x σ H' fun σ2 H2 => tb { D with nx := N, ct := N, bk := D.nx } σ2 H2) := by
  refine ⟨fun i m σ H => m = n - i ∧ i ≤ n ∧ Pv i σ H, ⟨n, by simp, Nat.zero_le _, h0⟩, ?_⟩
  rintro i m σ H ⟨rfl, hi, p⟩
  by_cases hlt : i < n
  · refine .inr ⟨hlt, Pv (i + 1), fun σ' H' p' => ⟨n - (i + 1), by omega, rfl, hlt, p'⟩, fun x H' y => ?_⟩
    obtain ⟨e, y⟩ := y
    subst e y
    exact hs i σ _ hlt p
  · have e : i = n := by omega
    subst e
    exact .inl ⟨Nat.le_refl _, hd σ H p⟩
/-- for j in range(lo, hi, -1) -/
theorem st_forDn {j : Nat} {lo hi : Int} {ta : TA} (hG : Ex G H) (h : EA ta σ G fun vs _ => vs = [.int lo, .int hi, .int (-1)]) (hn : -100000 ≤ lo ∧ lo ≤ 100000 ∧ -100000 ≤ hi ∧ hi ≤ 100000) (W : Nat → L2.St → Hp → Prop) (h0 : ∀ H', Ex H H' → W 0 σ H')
    (hs : ∀ (i : Nat) σ' H', i < (lo - hi).toNat → W i σ' H' → tu { D with nx := W (i + 1), ct := W (i + 1), bk := D.nx } (σ'.set j (some (.int (lo - (i : Int))))) H') (hd : ∀ σ' H', W (lo - hi).toNat σ' H' → D.nx σ' H') : tFor (iRng3 ta) (gName j) tu D σ H :=
  h H hG _ fun vs G1 H1 g1 e => ⟨lo, hi, -1, (lo - hi).toNat, e, RgC.neg (by omega) (by omega) (by omega) (by omega), for_rangeC W (h0 H1 g1.hp) (fun i σ' H' hi' p => by
    have e0 : lo + (i : Int) * (-1) = lo - (i : Int) := by omega
    show tu { D with nx := W (i + 1), ct := W (i + 1), bk := D.nx } (σ'.set j (some (.int (lo + (i : Int) * (-1))))) H'
    rw [e0]
    exact hs i σ' H' hi' p) hd⟩
end
end Lw

set_option Elab.async false
set_option linter.all false
set_option maxRecDepth 100000
set_option maxHeartbeats 4000000
/-! comprehensions over any walk of ints; the long track -/
namespace Lw
open PySem PySem.Spec L2
open Evl (Ex)
section
variable {K : PySem.W.Frag} {σ : L2.St} {G H H1 : Hp} {D : Ends} {ta tb te tl : TE} {t : TT} {tu : TS} {P : VP} {wi : TI} {J : It} {n : Nat} {f : Nat → Int}
def WI (wi : TI) (σ : L2.St) (G : Hp) (J : It) : Prop := ∀ H, Ex G H → ∀ R : It → Hp → Prop, (∀ G1 H1, Gr G G1 H H1 → R J H1) → wi σ H R
theorem wi_1 {ta : TA} {z : Int} (h : EA ta σ G fun us _ => us = [.int z]) (hz : -100000 ≤ z ∧ z ≤ 100000) : WI (iRng1 ta) σ G (Itr 0 z.toNat) := fun H e R k => h H e _ fun vs G1 H1 g ev => ⟨z, ev, by omega, by omega, k G1 H1 g⟩
theorem wi_2 {ta : TA} {lo hi : Int} (h : EA ta σ G fun us _ => us = [.int lo, .int hi]) (hz : -100000 ≤ lo ∧ lo ≤ 100000 ∧ -100000 ≤ hi ∧ hi ≤ 100000) : WI (iRng2 ta) σ G (Itr lo (hi - lo).toNat) := fun H e R k => h H e _ fun vs G1 H1 g ev => ⟨lo, hi, ev, by omega, k G1 H1 g⟩
theorem wi_rev {z : Int} (h : EF te σ G (XV (.int z))) (hz : 0 ≤ z ∧ z ≤ 100000) : WI (iRevR (tRg1 te)) σ G (Itc (z - 1) (-1) z.toNat) := fun H e R k => h H e _ fun v G1 H1 g ev => ⟨z, ev, by omega, by omega, by omega, by omega, by
  have e1 : (0 : Int) + (((z - 0).toNat : Nat) : Int) - 1 = z - 1 := by omega
  have e2 : (z - 0).toNat = z.toNat := by rw [Int.sub_zero]
  rw [e1, e2]
  exact k G1 H1 g⟩
theorem ef_lcW {j : Nat} {vs : List Nat} (I : Nat → List V → Hp → Prop) (w : Walk J n (fun _ => True) (YFn fun i => .int (f i))) (h : WI wi σ G J) (hn : n ≤ 40000) (hw : ∀ x, wipe ((wipe σ vs).set j (some x)) vs = wipe σ vs) (h0 : ∀ G', Ex G G' → I 0 [] G')
    (hs : ∀ (i : Nat) xs G', Ex G G' → i < n → I i xs G' → EC t te ((wipe σ vs).set j (some (.int (f i)))) G' (fun G' => I (i + 1) xs G') fun y G' => I (i + 1) (xs ++ [y]) G')
    (hP : ∀ p xs G', G p = none → G' p = none → Ex G G' → xs.length ≤ n → I n xs G' → P (.ref p) (upd G' p (.lst xs))) : EF (tLc wi (gName j) t te vs) σ G P := fun H0 e Q q => h H0 e _ fun G1 H1 g1 Dl hD =>
  lc_it w (CW G1 H1 Dl I) (cw_start g1.ok hD (h0 G1 g1.up)) (fun _ _ _ _ => trivial) (fun i x H2 H' hi p y => by
    obtain ⟨e1, e2⟩ := y
    subst e1 e2
    exact ⟨hw _, cw_turn hD p (by omega) fun xs G' e' hI => hs i xs G' (g1.up.trans e') hi hI⟩) (fun H' p => cw_end (P := P) hD g1.ok p (fun p xs G' g g' e' hl hI => hP p xs G' (none_back g1.up g) g' (g1.up.trans e') hl hI) fun v G' H' g' p' => q v G' H' (g1.trans g') p')
theorem el_filW {p : Int → Bool} {j : Nat} (w : Walk J n (fun _ => True) (YFn fun i => .int (f i))) (h : WI wi σ G J) (hn : n ≤ 40000) (hw : ∀ x, wipe ((wipe σ [j]).set j (some x)) [j] = wipe σ [j]) (hj : ∀ x, ((wipe σ [j]).set j (some x))[j]? = some (some x))
    (he : ∀ i G', Ex G G' → i < n → ET t ((wipe σ [j]).set j (some (.int (f i)))) G' (· = p (f i))) : EF (tLc wi (gName j) t (tVar j) [j]) σ G (LS K ((((List.range n).map f).filter p).map PyData.int)) := by
  refine ef_lcW (fun i acc G' => acc = (((List.range i).map f).filter p).map V.int) w h hn hw (fun _ _ => rfl) (fun i acc G' e hi hI => ?_) fun q acc G' _ h2 _ _ hI => ⟨q, acc, rfl, upd_same, by rw [hI]; exact dpa_ints _⟩
  subst hI
  refine ec_if (he i G' e hi) (fun hb => EF.imp (P := XV (.int (f i))) (ex_var (hj _)) fun v G2 e2 pv => ?_) (fun hb => ?_)
  · show _ = _
    rw [List.range_succ, List.map_append, List.filter_append, List.map_append, show v = _ from pv]
    simp [← hb]
  · show _ = _
    rw [List.range_succ, List.map_append, List.filter_append, List.map_append]
    simp [← hb]
theorem el_mapW {g : Nat → PyData} {j : Nat} (w : Walk J n (fun _ => True) (YFn fun i => .int (f i))) (h : WI wi σ G J) (hn : n ≤ 40000) (hw : ∀ x, wipe ((wipe σ [j]).set j (some x)) [j] = wipe σ [j])
    (he : ∀ i G', Ex G G' → i < n → EF te ((wipe σ [j]).set j (some (.int (f i)))) G' (DV K (g i))) : EF (tLc wi (gName j) tYes te [j]) σ G (LS K ((List.range n).map g)) := by
  refine ef_lcW (fun i acc G' => DpAll K G' acc ((List.range i).map g)) w h hn hw (fun _ _ => .nil) (fun i acc G' e hi hI => ?_) fun q acc G' _ h2 _ _ hI => ⟨q, acc, rfl, upd_same, dpax hI (ex_in h2)⟩
  refine ec_all ((he i G' e hi).imp fun v G2 e2 p => ?_)
  rw [List.range_succ, List.map_append]
  exact dpa_snoc (dpax hI e2) p
/-- for j in range(lo, n), lo below 0 or not -/
theorem st_forR2N {j : Nat} {lo n : Int} {ta : TA} (hG : Ex G H) (h : EA ta σ G fun vs _ => vs = [.int lo, .int n]) (hn : -100000 ≤ lo ∧ lo ≤ 100000 ∧ -100000 ≤ n ∧ n ≤ 100000) (W : Nat → L2.St → Hp → Prop) (h0 : ∀ H', Ex H H' → W 0 σ H')
    (hs : ∀ (i : Nat) σ' H', lo + (i : Int) < n → W i σ' H' → tu { D with nx := W (i + 1), ct := W (i + 1), bk := D.nx } (σ'.set j (some (.int (lo + (i : Int))))) H') (hd : ∀ σ' H', W (n - lo).toNat σ' H' → D.nx σ' H') : tFor (iRng2 ta) (gName j) tu D σ H :=
  h H hG _ fun vs G1 H1 g1 e => ⟨lo, n, e, ⟨by omega, by omega, by omega, by omega⟩, for_range (lo := lo) (n := (n - lo).toNat) W (h0 H1 g1.hp) (fun i σ' H' hi p => hs i σ' H' (by omega) p) hd⟩
end
/-! the long track: every block is joined to the next and the one after -/
theorem mem_nxO {js : List (Int × Int)} {a b c : Int} : c ∈ nxO js b a ↔ if a < b then (a, c) ∈ js ∧ c ≤ b else (c, a) ∈ js ∧ b ≤ c := by
  unfold nxO nxT
  split
  · rw [List.mem_filter, (srtI_perm _).mem_iff, mem_eo]; simp
  · rw [List.mem_filter, (srtI_perm _).mem_iff, mem_wo]; simp
theorem dsO_of {n : Int} {parks lens : List Int} {js : List (Int × Int)} {b : Int} (hJ : JOk n parks js) (f : Int → Int) (I : Int → Prop) (hb : f b = lenOf lens b) (hI : ∀ a, I a → ∀ c ∈ nxO js b a, I c) (h : ∀ a, I a → a ≠ b → (∃ c ∈ nxO js b a, f c + lenOf lens a = f a) ∧ ∀ c ∈ nxO js b a, f a ≤ f c + lenOf lens a) : ∀ k a, (a - b).natAbs < k → I a → dsO lens js b a = some (f a) := fun k => by
  induction k with
  | zero => intro a h; omega
  | succ k ih =>
    intro a hk ia
    rw [dsO_eq hJ]
    split
    · rename_i z
      rw [z, hb]
    · rename_i z
      obtain ⟨⟨c, hc, ec⟩, lo⟩ := h a ia z
      have key : ((nxO js b a).filterMap (dsO lens js b)).min? = some (f c) := by
        rw [List.min?_eq_some_iff]
        have at_ : ∀ c' ∈ nxO js b a, dsO lens js b c' = some (f c') := fun c' m => ih c' (by have := nxO_rk hJ a c' m; omega) (hI a ia c' m)
        refine ⟨List.mem_filterMap.mpr ⟨c, hc, at_ c hc⟩, fun x hx => ?_⟩
        obtain ⟨c', m, e⟩ := List.mem_filterMap.mp hx
        rw [at_ c' m] at e
        cases e
        have := lo c' m
        omega
      rw [key]
      simp only [Option.map_some]
      rw [ec]
def onL (n : Nat) : List Int := (List.range n).map fun _ => (1 : Int)
theorem onL_len {n : Nat} : (onL n).length = n := by simp [onL]
theorem onL_at {n : Nat} {b : Int} (h0 : 0 ≤ b) (h1 : b < (n : Int)) : lenOf (onL n) b = 1 := by
  unfold lenOf onL
  rw [List.getD_eq_getElem?_getD, List.getElem?_map, List.getElem?_range (by omega)]
  rfl
section
variable {n : Nat}
theorem long_w (hn : 1 ≤ n) : ∀ a, 0 ≤ a ∧ a < (n : Int) → dsO (onL n) (longJ n) 0 a = some (1 + (a + 1) / 2) := fun a ha =>
  dsO_of (long_ok n []) (fun a => 1 + (a + 1) / 2) (fun a => 0 ≤ a ∧ a < (n : Int)) (by rw [onL_at (by omega) (by omega)]; rfl) (fun a ia c m => by
    rw [mem_nxO, if_neg (by omega), mem_longJ] at m
    omega) (fun a ia na => by
    rw [onL_at ia.1 ia.2]
    constructor
    · by_cases h1 : a = 1
      · refine ⟨0, ?_, by omega⟩
        rw [mem_nxO, if_neg (by omega), mem_longJ]
        omega
      · refine ⟨a - 2, ?_, by omega⟩
        rw [mem_nxO, if_neg (by omega), mem_longJ]
        omega
    · intro c m
      rw [mem_nxO, if_neg (by omega), mem_longJ] at m
      omega) _ a (Nat.lt_succ_self _) ha
theorem long_e (hn : 1 ≤ n) : ∀ a, 0 ≤ a ∧ a < (n : Int) → dsO (onL n) (longJ n) ((n : Int) - 1) a = some (1 + ((n : Int) - 1 - a + 1) / 2) := fun a ha =>
  dsO_of (long_ok n []) (fun a => 1 + ((n : Int) - 1 - a + 1) / 2) (fun a => 0 ≤ a ∧ a < (n : Int)) (by rw [onL_at (by omega) (by omega)]; omega) (fun a ia c m => by
    rw [mem_nxO] at m
    split at m
    · rw [mem_longJ] at m; omega
    · rw [mem_longJ] at m; omega) (fun a ia na => by
    rw [onL_at ia.1 ia.2]
    constructor
    · by_cases h1 : a = (n : Int) - 2
      · refine ⟨(n : Int) - 1, ?_, by omega⟩
        rw [mem_nxO, if_pos (by omega), mem_longJ]
        omega
      · refine ⟨a + 2, ?_, by omega⟩
        rw [mem_nxO, if_pos (by omega), mem_longJ]
        omega
    · intro c m
      rw [mem_nxO, if_pos (by omega), mem_longJ] at m
      omega) _ a (Nat.lt_succ_self _) ha
def evL (lo : Int) (k : Nat) : List Int := (List.range (k + 1)).map fun i : Nat => lo + 2 * (i : Int)
theorem evL_cons {lo : Int} {k : Nat} : evL lo (k + 1) = lo :: evL (lo + 2) k := by
  unfold evL
  rw [List.range_succ_eq_map, List.map_cons, List.map_map]
  congr 1
  · omega
  · apply List.map_congr_left
    intro i _
    simp
    omega
theorem evL_hd {lo : Int} {k : Nat} : ∃ q, evL lo k = lo :: q := by
  cases k with
  | zero => exact ⟨[], by simp [evL]⟩
  | succ k => exact ⟨_, evL_cons⟩
theorem evL_snoc {lo : Int} {k : Nat} : evL lo (k + 1) = evL lo k ++ [lo + 2 * ((k + 1 : Nat) : Int)] := by
  unfold evL
  rw [List.range_succ, List.map_append]
  rfl
theorem gd_up (hn : 1 ≤ n) : ∀ (k : Nat) (lo : Int), 0 ≤ lo → lo + 2 * (k : Int) = (n : Int) - 1 → Gd (nxO (longJ n) ((n : Int) - 1)) (lenOf (onL n)) ((n : Int) - 1) (dsO (onL n) (longJ n) ((n : Int) - 1)) (evL lo k) := fun k => by
  induction k with
  | zero =>
    intro lo h0 e
    have : evL lo 0 = [(n : Int) - 1] := by simp [evL]; omega
    rw [this]
    exact .one
  | succ k ih =>
    intro lo h0 e
    have := ih (lo + 2) (by omega) (by omega)
    rw [evL_cons]
    obtain ⟨q, hq⟩ := evL_hd (lo := lo + 2) (k := k)
    rw [hq] at this ⊢
    refine .more (d := (k : Int) + 2) (by omega) (by rw [long_e hn _ (by omega)]; congr 1; omega) ?_ ?_ ?_ this
    · rw [mem_nxO, if_pos (by omega), mem_longJ]; omega
    · rw [long_e hn _ (by omega), onL_at (by omega) (by omega)]; congr 1; omega
    · intro c' m e'
      rw [mem_nxO, if_pos (by omega), mem_longJ] at m
      rw [long_e hn _ (by omega), onL_at (by omega) (by omega)] at e'
      have := Option.some.inj e'
      omega
theorem gd_upO (hn : 1 ≤ n) (k : Nat) (e : 1 + 2 * (k : Int) = (n : Int) - 1) : Gd (nxO (longJ n) ((n : Int) - 1)) (lenOf (onL n)) ((n : Int) - 1) (dsO (onL n) (longJ n) ((n : Int) - 1)) (0 :: evL 1 k) := by
  have := gd_up hn k 1 (by omega) e
  obtain ⟨q, hq⟩ := evL_hd (lo := 1) (k := k)
  rw [hq] at this ⊢
  refine .more (d := (k : Int) + 2) (by omega) (by rw [long_e hn _ (by omega)]; congr 1; omega) ?_ ?_ ?_ this
  · rw [mem_nxO, if_pos (by omega), mem_longJ]; omega
  · rw [long_e hn _ (by omega), onL_at (by omega) (by omega)]; congr 1; omega
  · intro c' m e'
    rw [mem_nxO, if_pos (by omega), mem_longJ] at m
    omega
theorem dn_cons {lo : Int} {k : Nat} : (evL lo (k + 1)).reverse = (lo + 2 * ((k + 1 : Nat) : Int)) :: (evL lo k).reverse := by
  rw [evL_snoc, List.reverse_append]
  rfl
theorem dn_hd {lo : Int} {k : Nat} : ∃ q, (evL lo k).reverse = (lo + 2 * (k : Int)) :: q := by
  cases k with
  | zero => exact ⟨[], by simp [evL]⟩
  | succ k => exact ⟨_, dn_cons⟩
theorem gd_dn (hn : 1 ≤ n) : ∀ k : Nat, 2 * (k : Int) < (n : Int) → Gd (nxO (longJ n) 0) (lenOf (onL n)) 0 (dsO (onL n) (longJ n) 0) (evL 0 k).reverse := fun k => by
  induction k with
  | zero =>
    intro e
    have : (evL 0 0).reverse = [0] := by simp [evL]
    rw [this]
    exact .one
  | succ k ih =>
    intro e
    have := ih (by omega)
    rw [dn_cons]
    obtain ⟨q, hq⟩ := dn_hd (lo := 0) (k := k)
    rw [hq] at this ⊢
    refine .more (d := (k : Int) + 2) (by omega) (by rw [long_w hn _ (by omega)]; congr 1; omega) ?_ ?_ ?_ this
    · rw [mem_nxO, if_neg (by omega), mem_longJ]; omega
    · rw [long_w hn _ (by omega), onL_at (by omega) (by omega)]; congr 1; omega
    · intro c' m e'
      rw [mem_nxO, if_neg (by omega), mem_longJ] at m
      omega
theorem gd_dnO (hn : 1 ≤ n) : ∀ k : Nat, 1 + 2 * (k : Int) < (n : Int) → Gd (nxO (longJ n) 0) (lenOf (onL n)) 0 (dsO (onL n) (longJ n) 0) ((evL 1 k).reverse ++ [0]) := fun k => by
  induction k with
  | zero =>
    intro e
    have : (evL 1 0).reverse ++ [0] = [1, 0] := by simp [evL]
    rw [this]
    refine .more (d := 2) (by omega) (by rw [long_w hn _ (by omega)]; rfl) ?_ ?_ ?_ .one
    · rw [mem_nxO, if_neg (by omega), mem_longJ]; omega
    · rw [long_w hn _ (by omega), onL_at (by omega) (by omega)]; rfl
    · intro c' m e'
      rw [mem_nxO, if_neg (by omega), mem_longJ] at m
      omega
  | succ k ih =>
    intro e
    have := ih (by omega)
    rw [dn_cons, List.cons_append]
    obtain ⟨q, hq⟩ := dn_hd (lo := 1) (k := k)
    rw [hq, List.cons_append] at this ⊢
    refine .more (d := (k : Int) + 3) (by omega) (by rw [long_w hn _ (by omega)]; congr 1; omega) ?_ ?_ ?_ this
    · rw [mem_nxO, if_neg (by omega), mem_longJ]; omega
    · rw [long_w hn _ (by omega), onL_at (by omega) (by omega)]; congr 1; omega
    · intro c' m e'
      rw [mem_nxO, if_neg (by omega), mem_longJ] at m
      omega
/-- the blocks from lo on that lie an even number before the last -/
def evF (last lo : Int) (m : Nat) : List Int := ((List.range m).map fun i : Nat => lo + (i : Int)).filter fun b => decide ((last - b) % 2 = 0)
theorem evF_eq {last lo s : Int} {m k : Nat} (h1 : lo ≤ s) (h2 : s ≤ lo + 1) (h3 : s + 2 * (k : Int) = last) (h4 : last = lo + (m : Int) - 1) : evF last lo m = evL s k := by
  refine asc_uniq ?_ ?_ fun x => ?_
  · refine List.Pairwise.filter _ ?_
    rw [List.pairwise_map]
    exact (List.pairwise_lt_range (n := m)).imp fun h => by omega
  · unfold evL
    rw [List.pairwise_map]
    exact (List.pairwise_lt_range (n := k + 1)).imp fun h => by omega
  · unfold evF evL
    rw [List.mem_filter, List.mem_map, List.mem_map]
    simp only [List.mem_range, decide_eq_true_eq]
    constructor
    · rintro ⟨⟨i, hi, rfl⟩, he⟩
      exact ⟨((lo + (i : Int) - s) / 2).toNat, by omega, by omega⟩
    · rintro ⟨i, hi, rfl⟩
      exact ⟨⟨(s + 2 * (i : Int) - lo).toNat, by omega, by omega⟩, by omega⟩
end
end Lw

set_option Elab.async false
set_option linter.all false
set_option maxRecDepth 100000
set_option maxHeartbeats 4000000
/-! trains, and the releases of a train -/
namespace Lw
open PySem PySem.Spec L2
open Evl (Ex)
abbrev KV := List (Key × V)
/-- d.setdefault(k, z) -/
def setK (kvs : KV) (k : Int) (z : V) : KV := if valV kvs (.inl k : Key) = none then putK kvs (.inl k : Key) z else kvs
/-- block by block its first step -/
def stepN (way : List Int) : Nat → KV
  | 0 => []
  | i + 1 => setK (stepN way i) (way.getD i 0) (.int (i : Int))
theorem stepN_len (way : List Int) : ∀ i, (stepN way i).length ≤ i
  | 0 => by simp [stepN]
  | i + 1 => by
    have ih := stepN_len way i
    unfold stepN setK
    split
    · have := length_putK (stepN way i) (.inl (way.getD i 0) : Key) (V.int (i : Int))
      omega
    · omega
theorem stepN_val (way : List Int) (b : Int) : ∀ i, i ≤ way.length → valV (stepN way i) (.inl b : Key) = if b ∈ way.take i then some (.int (((way.take i).idxOf b : Nat) : Int)) else none
  | 0, _ => by simp [stepN, valV_nil]
  | i + 1, h => by
    have ih := stepN_val way b i (by omega)
    have iw := stepN_val way (way.getD i 0) i (by omega)
    have hw : way[i]? = some way[i] := List.getElem?_eq_getElem (by omega)
    have hg : way.getD i 0 = way[i] := by rw [List.getD_eq_getElem?_getD, hw]; rfl
    rw [take_next hw]
    rw [hg] at iw
    unfold stepN setK
    rw [hg]
    by_cases q : way[i] ∈ way.take i
    · rw [if_pos q] at iw
      rw [iw, if_neg (by simp), ih]
      by_cases m : b ∈ way.take i
      · rw [if_pos m, if_pos (List.mem_append_left _ m), List.idxOf_append, if_pos m]
      · have : b ≠ way[i] := fun z => m (z ▸ q)
        rw [if_neg m, if_neg fun z => (List.mem_append.mp z).elim m fun y => this (List.mem_singleton.mp y)]
    · rw [if_neg q] at iw
      rw [iw, if_pos rfl, valV_put]
      by_cases e : b = way[i]
      · subst e
        have hl : (way.take i).length = i := by rw [List.length_take]; omega
        have h0 : ([way[i]] : List Int).idxOf way[i] = 0 := by simp
        rw [if_pos rfl, if_pos (List.mem_append_right _ List.mem_cons_self), List.idxOf_append, if_neg q, hl, h0, Nat.zero_add]
      · have : ¬ ((.inl b : Key) = .inl way[i]) := fun z => e (Sum.inl.inj z)
        rw [if_neg this, ih]
        by_cases m : b ∈ way.take i
        · rw [if_pos m, if_pos (List.mem_append_left _ m), List.idxOf_append, if_pos m]
        · rw [if_neg m, if_neg fun z => (List.mem_append.mp z).elim m fun y => e (List.mem_singleton.mp y)]
def stepOf (way : List Int) (b : Int) : Int := if b ∈ way then ((way.idxOf b : Nat) : Int) else -1
theorem stepN_get (way : List Int) (b : Int) : (valV (stepN way way.length) (.inl b : Key)).getD (.int (-1)) = .int (stepOf way b) := by
  rw [stepN_val way b _ (Nat.le_refl _), List.take_length]
  unfold stepOf
  split <;> rfl
theorem call_listK {X : Cx} {K : PySem.W.Frag} (h : X.K = K) : CallR X (.type "list") (Evl.rListS K) := by subst h; exact call_list_of
/-! releases -/
def relGo (lens : List Int) (len : Int) : List Int → Int → Int → Int
  | [], _, j => 2 * j
  | b :: r, room, j => if room + lenOf lens b ≥ len then 2 * j + 1 else relGo lens len r (room + lenOf lens b) (j + 1)
def relOf (lens : List Int) (len : Int) (way : List Int) (step : Nat) : Int := relGo lens len (way.drop (step + 1)) 0 ((step : Int) + 1)
def relsOf (lens : List Int) (len : Int) (way : List Int) : List Int := (List.range way.length).map (relOf lens len way)
theorem relGo_nil {lens : List Int} {len room j : Int} : relGo lens len [] room j = 2 * j := rfl
theorem relGo_step {lens way : List Int} {len room : Int} {i : Nat} {b : Int} {j : Int} (h : way[i]? = some b) : relGo lens len (way.drop i) room j = if room + lenOf lens b ≥ len then 2 * j + 1 else relGo lens len (way.drop (i + 1)) (room + lenOf lens b) (j + 1) := by
  obtain ⟨hi, rfl⟩ := List.getElem?_eq_some_iff.mp h
  rw [List.drop_eq_getElem_cons hi]
  rfl
section
variable {K : PySem.W.Frag} {C CT CN CW : Addr} {σ : L2.St} {G G' H H' H1 : Hp} {D : Ends} {ta tb te tl td tk tx : TE} {P : VP} {p d : Addr} {way : List Int} {len : Int}
structure TrCl (K : PySem.W.Frag) (CT : Addr) : Prop where
  cl : Cls K CT
  way : NoAttr K CT "_way"
  at_ : NoAttr K CT "_step_at"
  length : NoAttr K CT "length"
  steps : NoAttr K CT "steps"
  last : NoAttr K CT "last"
structure TFl (fs : List (Str × V)) (l d : Addr) (len n : Int) : Prop where
  way : fs.lookup ("_way" : Str) = some (.ref l)
  at_ : fs.lookup ("_step_at" : Str) = some (.ref d)
  length : fs.lookup ("length" : Str) = some (.int len)
  steps : fs.lookup ("steps" : Str) = some (.int n)
  last : fs.lookup ("last" : Str) = some (.int (2 * n))
  no : ∀ m : Str, m ≠ "_way" → m ≠ "_step_at" → m ≠ "length" → m ≠ "steps" → m ≠ "last" → fs.lookup m = none
theorem tfl5 {l d : Addr} {len n : Int} : TFl (putF "last" (.int (2 * n)) (putF "steps" (.int n) (putF "length" (.int len) (putF "_step_at" (.ref d) (putF "_way" (.ref l) []))))) l d len n := by
  refine ⟨?_, ?_, ?_, ?_, ?_, fun m h1 h2 h3 h4 h5 => ?_⟩
  · rw [lookup_putF, if_neg (by decide +kernel), lookup_putF, if_neg (by decide +kernel), lookup_putF, if_neg (by decide +kernel), lookup_putF, if_neg (by decide +kernel), lookup_putF, if_pos rfl]
  · rw [lookup_putF, if_neg (by decide +kernel), lookup_putF, if_neg (by decide +kernel), lookup_putF, if_neg (by decide +kernel), lookup_putF, if_pos rfl]
  · rw [lookup_putF, if_neg (by decide +kernel), lookup_putF, if_neg (by decide +kernel), lookup_putF, if_pos rfl]
  · rw [lookup_putF, if_neg (by decide +kernel), lookup_putF, if_pos rfl]
  · rw [lookup_putF, if_pos rfl]
  · rw [lookup_putF, if_neg h5, lookup_putF, if_neg h4, lookup_putF, if_neg h3, lookup_putF, if_neg h2, lookup_putF, if_neg h1]
    rfl
/-- a train; its list of blocks was not there in G0 -/
def TrNew (CT : Addr) (G0 G : Hp) (p : Addr) (way : List Int) (len : Int) : Prop := ∃ dx fs l d, G p = some (.ins CT dx fs) ∧ TFl fs l d len (way.length : Int) ∧ G l = some (.lst (way.map V.int)) ∧ G d = some (.dK (stepN way way.length)) ∧ G0 l = none
def TrAtT (K : PySem.W.Frag) (CT : Addr) (G : Hp) (p : Addr) (way : List Int) (len : Int) : Prop := ∃ dx fs l d, G p = some (.ins CT dx fs) ∧ TFl fs l d len (way.length : Int) ∧ SqL K G l (way.map V.int) ∧ G d = some (.dK (stepN way way.length))
theorem TrNew.at_ {G0 : Hp} (h : TrNew CT G0 G p way len) : TrAtT K CT G p way len := by
  obtain ⟨dx, fs, l, d, h1, h2, h3, h4, _⟩ := h
  exact ⟨dx, fs, l, d, h1, h2, Evl.sq_of h3, h4⟩
theorem TrNew.ex {G0 : Hp} (h : TrNew CT G0 G p way len) (e : Ex G G') : TrNew CT G0 G' p way len := by
  obtain ⟨dx, fs, l, d, h1, h2, h3, h4, h5⟩ := h
  exact ⟨dx, fs, l, d, e _ _ h1, h2, e _ _ h3, e _ _ h4, h5⟩
theorem TrNew.low {G0 G1 : Hp} (h : TrNew CT G1 G p way len) (e : Ex G0 G1) : TrNew CT G0 G p way len := by
  obtain ⟨dx, fs, l, d, h1, h2, h3, h4, h5⟩ := h
  exact ⟨dx, fs, l, d, h1, h2, h3, h4, none_back e h5⟩
theorem TrNew.drop {G0 : Hp} {q : Addr} {xs ys : List V} (h : TrNew CT G0 G p way len) (h0 : G0 q = some (.lst xs)) (h1 : G q = some (.lst ys)) : TrAtT K CT (dropA G q) p way len := by
  obtain ⟨dx, fs, l, d, a1, a2, a3, a4, a5⟩ := h
  have np : p ≠ q := fun z => by rw [z, h1] at a1; cases a1
  have nl : l ≠ q := fun z => by rw [z, h0] at a5; cases a5
  have nd : d ≠ q := fun z => by rw [z, h1] at a4; cases a4
  exact ⟨dx, fs, l, d, by rw [dropA_ne np]; exact a1, a2, Evl.sq_of (by rw [dropA_ne nl]; exact a3), by rw [dropA_ne nd]; exact a4⟩
theorem TrAtT.ex (h : TrAtT K CT G p way len) (e : Ex G G') : TrAtT K CT G' p way len := by
  obtain ⟨dx, fs, l, d, h1, h2, h3, h4⟩ := h
  exact ⟨dx, fs, l, d, e _ _ h1, h2, Evl.ex_l e h3, e _ _ h4⟩
theorem TrAtT.meth (h : TrAtT K CT G p way len) {m : Str} (hm : m ≠ "_way" ∧ m ≠ "_step_at" ∧ m ≠ "length" ∧ m ≠ "steps" ∧ m ≠ "last") : ∃ dx fs, G p = some (.ins CT dx fs) ∧ fs.lookup m = none := by
  obtain ⟨dx, fs, l, d, h1, h2, _⟩ := h
  exact ⟨dx, fs, h1, h2.no m hm.1 hm.2.1 hm.2.2.1 hm.2.2.2.1 hm.2.2.2.2⟩
theorem ex_tlen (T : TrCl K CT) (h : TrAtT K CT G p way len) (ho : EF ta σ G (XV (.ref p))) : EF (tFld K ta "length") σ G (XV (.int len)) := by
  obtain ⟨dx, fs, l, d, h1, h2, _⟩ := h
  exact ex_fld ho h1 T.cl T.length h2.length
theorem ex_tsteps (T : TrCl K CT) (h : TrAtT K CT G p way len) (ho : EF ta σ G (XV (.ref p))) : EF (tFld K ta "steps") σ G (XV (.int (way.length : Int))) := by
  obtain ⟨dx, fs, l, d, h1, h2, _⟩ := h
  exact ex_fld ho h1 T.cl T.steps h2.steps
theorem ex_tlast (T : TrCl K CT) (h : TrAtT K CT G p way len) (ho : EF ta σ G (XV (.ref p))) : EF (tFld K ta "last") σ G (XV (.int (2 * (way.length : Int)))) := by
  obtain ⟨dx, fs, l, d, h1, h2, _⟩ := h
  exact ex_fld ho h1 T.cl T.last h2.last
/-- d.setdefault(k, z), alone -/
theorem st_setd {kvs : KV} {k : Int} {z : V} (hd : EF td σ H (XV (.ref d))) (hH : H d = some (.dK kvs)) (hk : EF tk σ H (XV (.int k))) (hz : EF tx σ H (XV z)) (hl : kvs.length < 1000) (k0 : ∀ H', Ex H H' → D.nx σ (upd H' d (.dK (setK kvs k z)))) : tDrop (tDSetd td tk tx) D σ H :=
  hd H (Ex.refl H) _ fun v G1 H1 g1 pv => by
    cases (show v = .ref d from pv)
    refine ⟨d, rfl, .inl ⟨kvs, .inl (g1.hp _ _ hH)⟩, hk H1 g1.hp _ fun y G2 H2 g2 py => ?_⟩
    cases (show y = .int k from py)
    refine hz H2 (g1.hp.trans g2.hp) _ fun w G3 H3 g3 pw => ?_
    cases (show w = z from pw)
    have e3 := g1.hp.trans (g2.hp.trans g3.hp)
    refine ⟨kvs, .inl k, e3 _ _ hH, rfl, Nat.lt_of_lt_of_le hl (by decide), fun v hv => ?_, fun hn => ?_⟩
    · have := k0 H3 e3
      unfold setK at this
      rw [if_neg (by rw [hv]; simp), upd_self' (e3 _ _ hH)] at this
      exact this
    · have := k0 H3 e3
      unfold setK at this
      rw [if_pos hn] at this
      exact this
/-- d.get(k, z) of a dict of ints -/
theorem ef_dgetV {kvs : KV} {k : Int} {z : V} (hd : EF td σ G (XV (.ref d))) (hm : G d = some (.dK kvs)) (hk : EF tk σ G (XV (.int k))) (hx : EF tx σ G (XV z)) : EF (tDGet2 td tk tx) σ G (XV ((valV kvs (.inl k : Key)).getD z)) := fun H e Q q =>
  hd H e _ fun v G1 H1 g1 pv => by
    cases (show v = .ref d from pv)
    refine ⟨d, rfl, .inl ⟨kvs, .inl (g1.hp _ _ (e _ _ hm))⟩, hk H1 (e.trans g1.hp) _ fun y G2 H2 g2 py => ?_⟩
    cases (show y = .int k from py)
    refine hx H2 (e.trans (g1.hp.trans g2.hp)) _ fun w G3 H3 g3 pw => ?_
    cases (show w = z from pw)
    obtain ⟨G4, e1, e2, g4⟩ := g1.join (g2.join g3).choose_spec.2.2
    exact ⟨valV kvs (.inl k : Key), .inl ⟨kvs, .inl k, .inl (g4.ok _ _ (g4.up _ _ hm)), rfl, rfl⟩, q _ G4 H3 g4 rfl⟩
theorem ef_dnew : EF tDNewK σ G fun v G' => ∃ q : Addr, v = .ref q ∧ G q = none ∧ G' q = some (.dK []) := fun H e Q q p hp => q _ (upd G p (.dK [])) _ (Gr.new e hp) ⟨p, rfl, none_back e hp, upd_same⟩
theorem sa_lenX {lens parks : List Int} {js : List (Int × Int)} {b : Int} (hL : LayL K C G p lens parks js) (h0 : 0 ≤ b) (h1 : b < (lens.length : Int)) : SA (spLenX K C CN) [.ref p, .int b] G (XV (.int (lenOf lens b))) := fun H e Q _ q => ⟨G, p, lens, parks, js, b, e, rfl, hL, fun z _ hz v G' H' g pv => q v G' H' g (by
    have : lenOf lens b = z := by unfold lenOf; rw [List.getD_eq_getElem?_getD, hz]; rfl
    rw [this]; exact pv), fun z => absurd ⟨h0, h1⟩ z⟩
theorem ef_lenM {E : XK} {to : TE} {lens parks : List Int} {js : List (Int × Int)} {b : Int} (ho : EF to σ G (XV (.ref p))) (hb : EF tb σ G (XV (.int b))) (hL : LayL K C G p lens parks js) (h0 : 0 ≤ b) (h1 : b < (lens.length : Int)) : EF (tMeth C "length_of" (spLenX K C CN) [] E to (tCons tb tNil)) σ G (XV (.int (lenOf lens b))) :=
  ex_meth1 ho (hL.1.meth (by decide +kernel)) hb fun G' e => sa_lenX (hL.ex e) h0 h1
theorem el_mapWN {wi : TI} {J : It} {n : Nat} {f : Nat → Int} {g : Nat → PyData} {j : Nat} (w : Walk J n (fun _ => True) (YFn fun i => .int (f i))) (h : WI wi σ G J) (hn : n ≤ 40000) (hw : ∀ x, wipe ((wipe σ [j]).set j (some x)) [j] = wipe σ [j])
    (he : ∀ i G', Ex G G' → i < n → EF te ((wipe σ [j]).set j (some (.int (f i)))) G' (DV K (g i))) : EF (tLc wi (gName j) tYes te [j]) σ G (NwD K G ((List.range n).map g)) := by
  refine ef_lcW (fun i acc G' => DpAll K G' acc ((List.range i).map g)) w h hn hw (fun _ _ => .nil) (fun i acc G' e hi hI => ?_) fun q acc G' h1 h2 _ _ hI => ⟨q, acc, rfl, h1, upd_same, dpax hI (ex_in h2)⟩
  refine ec_all ((he i G' e hi).imp fun v G2 e2 p => ?_)
  rw [List.range_succ, List.map_append]
  exact dpa_snoc (dpax hI e2) p
theorem headR_in {n : Int} {js : List (Int × Int)} {row : List Int} {c : Bool} (hh : headR n js row = .way c) : ∀ b ∈ row, 0 ≤ b ∧ b < n := by
  unfold headR at hh
  split at hh
  · cases hh
  · cases hb : badB n row with
    | some b => rw [hb] at hh; cases hh
    | none => exact badB_no hb
def spTInit (K : PySem.W.Frag) (CT CB CL : Addr) : Sp := fun vs H Q E => ∃ (G : Hp) (x dx a : Addr) (way : List Int) (len : Int), vs = [.ref x, .ref a, .int len] ∧ Ex G H ∧ G x = none ∧ H x = some (.ins CT dx []) ∧ SqL K G a (way.map V.int) ∧ way.length ≤ 400 ∧
  (way = [] → RseH CB [("at", .int 0)] H E) ∧ (way ≠ [] → len < 1 → RseH CL [("length", .int len)] H E) ∧ (way ≠ [] → 1 ≤ len → ∀ G' H', Gr G G' (outH H x) H' → TrNew CT G G' x way len → Q .non H')
theorem tr_core {Er : XK} {Q' : VK} {x dx l : Addr} (e : Ex G H) (hx : H x = none) (hd : H dx = none) (hs : SqL K G l (way.map V.int)) (hw : way.length ≤ 400) (kB : way = [] → RseH CN [("at", .int 0)] H Er) (kL : way ≠ [] → len < 1 → RseH CW [("length", .int len)] H Er) (k : way ≠ [] → 1 ≤ len → ∀ G' H', Gr G G' H H' → TrNew CT G G' x way len → Q' .non H') : spTInit K CT CN CW [.ref x, .ref l, .int len] (newO H CT x dx) Q' Er := by
  have en : Ex H (outH (newO H CT x dx) x) := ex_newO hx hd
  have e2 : Ex H (newO H CT x dx) := en.trans out_ex
  exact ⟨G, x, dx, l, way, len, rfl, e.trans e2, none_back e hx, upd_same, hs, hw, fun h => (kB h).up e2, fun h1 h2 => (kL h1 h2).up e2, fun h1 h2 G' H' g t => k h1 h2 G' H' (g.low en) t⟩
theorem nw_train {E : L2.St → XK} {t tk : TA} {Q : VK} (hG : Ex G H) (h : EA t σ G fun vs G' => ∃ l : Addr, vs = [.ref l] ∧ SqL K G' l (way.map V.int)) (hk : ∀ G', Ex G G' → EA tk σ G' fun zs _ => zs = [.int len]) (hw : way.length ≤ 400) (kB : way = [] → RseH CN [("at", .int 0)] H (E σ)) (kL : way ≠ [] → len < 1 → RseH CW [("length", .int len)] H (E σ)) (k : way ≠ [] → 1 ≤ len → ∀ x G' H', Gr G G' H H' → TrNew CT G G' x way len → Q (.ref x) H') : tNewKX CT 1 1 (spTInit K CT CN CW) (fun vs zs => vs ++ zs) E t tk σ H Q :=
  h H hG _ fun vs G1 H1 g1 ⟨l, ev, hs⟩ => hk G1 g1.up H1 g1.ok _ fun zs G2 H2 g2 ez => by
    subst ev ez
    refine ⟨rfl, rfl, fun x dx hx hd hn => ?_⟩
    have g12 := g1.trans g2
    exact tr_core g2.ok hx hd (Evl.ex_l g2.up hs) hw (fun h => (kB h).up g12.hp) (fun h1 h2 => (kL h1 h2).up g12.hp) fun h1 h2 G' H' g t => ⟨rfl, k h1 h2 x G' H' (g12.trans g) (t.low g12.up)⟩
theorem ef_trainK {E : XK} {t tk : TA} (h : EA t σ G fun vs G' => ∃ l : Addr, vs = [.ref l] ∧ SqL K G' l (way.map V.int)) (hk : ∀ G', Ex G G' → EA tk σ G' fun zs _ => zs = [.int len]) (hw : way.length ≤ 400) (hne : way ≠ []) (hl : 1 ≤ len) : EF (tMakeK CT 1 1 (spTInit K CT CN CW) (fun vs zs => vs ++ zs) E t tk) σ G fun v G' => ∃ x, v = .ref x ∧ TrNew CT G G' x way len := fun H hG Q q =>
  h H hG _ fun vs G1 H1 g1 ⟨l, ev, hs⟩ => hk G1 g1.up H1 g1.ok _ fun zs G2 H2 g2 ez => by
    subst ev ez
    refine ⟨rfl, rfl, fun x dx hx hd hn => ?_⟩
    have g12 := g1.trans g2
    exact tr_core g2.ok hx hd (Evl.ex_l g2.up hs) hw (fun h => absurd h hne) (fun _ h2 => by omega) fun h1 h2 G' H' g t => ⟨rfl, q _ G' H' (g12.trans g) ⟨x, rfl, t.low g12.up⟩⟩
theorem ef_trainD {E : XK} {t : TA} (h : EA t σ G fun vs G' => ∃ l : Addr, vs = [.ref l] ∧ SqL K G' l (way.map V.int)) (hw : way.length ≤ 400) (hne : way ≠ []) : EF (tMake CT (spTInit K CT CN CW) [.int 1] E t) σ G fun v G' => ∃ x, v = .ref x ∧ TrNew CT G G' x way 1 := fun H hG Q q =>
  h H hG _ fun vs G1 H1 g1 ⟨l, ev, hs⟩ => by
    subst ev
    intro x dx hx hd hn
    exact tr_core g1.ok hx hd hs hw (fun h => absurd h hne) (fun _ h2 => by omega) fun h1 h2 G' H' g t => ⟨rfl, q _ G' H' (g1.trans g) ⟨x, rfl, t.low g1.up⟩⟩
def spBlocksT (K : PySem.W.Frag) (CT : Addr) : Sp := fun vs H Q _ => ∃ (G : Hp) (p : Addr) (way : List Int) (len : Int), Ex G H ∧ vs = [.ref p] ∧ TrAtT K CT G p way len ∧ Ret G H (NwD K G (way.map PyData.int)) Q
theorem sa_blocksT (h : TrAtT K CT G p way len) : SA (spBlocksT K CT) [.ref p] G (NwD K G (way.map PyData.int)) := fun H e Q _ q => ⟨G, p, way, len, e, rfl, h, q⟩
def spStepOf (K : PySem.W.Frag) (CT : Addr) : Sp := fun vs H Q _ => ∃ (G : Hp) (p : Addr) (way : List Int) (len b : Int), Ex G H ∧ vs = [.ref p, .int b] ∧ TrAtT K CT G p way len ∧ Ret G H (XV (.int (stepOf way b))) Q
theorem sa_stepOf {b : Int} (h : TrAtT K CT G p way len) : SA (spStepOf K CT) [.ref p, .int b] G (XV (.int (stepOf way b))) := fun H e Q _ q => ⟨G, p, way, len, b, e, rfl, h, q⟩
def spRel1 (K : PySem.W.Frag) (C CT : Addr) : Sp := fun vs H Q _ => ∃ (G : Hp) (p q a : Addr) (lens parks : List Int) (js : List (Int × Int)) (way : List Int) (len : Int) (step : Nat), Ex G H ∧ vs = [.ref p, .ref q, .ref a, .int (step : Int)] ∧ LayL K C G p lens parks js ∧ TrAtT K CT G q way len ∧ SqL K G a (way.map V.int) ∧ (∀ b ∈ way, 0 ≤ b ∧ b < (lens.length : Int)) ∧ step < way.length ∧ way.length ≤ 400 ∧ Ret G H (XV (.int (relOf lens len way step))) Q
theorem sa_rel1 {q a : Addr} {lens parks : List Int} {js : List (Int × Int)} {step : Nat} (hL : LayL K C G p lens parks js) (hT : TrAtT K CT G q way len) (hs : SqL K G a (way.map V.int)) (hb : ∀ b ∈ way, 0 ≤ b ∧ b < (lens.length : Int)) (hi : step < way.length) (hl : way.length ≤ 400) : SA (spRel1 K C CT) [.ref p, .ref q, .ref a, .int (step : Int)] G (XV (.int (relOf lens len way step))) := fun H e Q _ k => ⟨G, p, q, a, lens, parks, js, way, len, step, e, rfl, hL, hT, hs, hb, hi, hl, k⟩
def spRels (K : PySem.W.Frag) (C CT CN CW : Addr) : Sp := fun vs H Q E => ∃ (G : Hp) (p q : Addr) (lens parks : List Int) (js : List (Int × Int)) (way : List Int) (len : Int), Ex G H ∧ vs = [.ref p, .ref q] ∧ LayL K C G p lens parks js ∧ TrAtT K CT G q way len ∧ way.length ≤ 400 ∧ HRet CN CW G H (headR (lens.length : Int) js way) (fun _ => NwD K G ((relsOf lens len way).map PyData.int)) Q E
end
end Lw

set_option Elab.async false
set_option linter.all false
set_option maxRecDepth 100000
set_option maxHeartbeats 8000000
/-! trains and their releases -/
namespace Kx
open PySem L2 Lw
open Evl (Ex)
abbrev s_Train_init : Stmt := inClass (top 16) 0
theorem sc_Train_init : FnScope ["self", "way", "length", "step"] ["self", "way", "length"] (defScope s_Train_init) := ⟨rfl, rfl, rfl, by decide +kernel, rfl, by decide +kernel, by decide +kernel⟩
abbrev s_Train_blocks : Stmt := inClass (top 16) 1
theorem sc_Train_blocks : FnScope ["self"] ["self"] (defScope s_Train_blocks) := ⟨rfl, rfl, rfl, by decide +kernel, rfl, by decide +kernel, by decide +kernel⟩
abbrev s_Train_step_of : Stmt := inClass (top 16) 2
theorem sc_Train_step_of : FnScope ["self", "block"] ["self", "block"] (defScope s_Train_step_of) := ⟨rfl, rfl, rfl, by decide +kernel, rfl, by decide +kernel, by decide +kernel⟩
abbrev s__release : Stmt := top 18
theorem sc__release : FnScope ["layout", "train", "way", "step", "room", "later"] ["layout", "train", "way", "step"] (defScope s__release) := ⟨rfl, rfl, rfl, by decide +kernel, rfl, by decide +kernel, by decide +kernel⟩
abbrev s_releases : Stmt := top 17
theorem sc_releases : FnScope ["layout", "train", "way", "step"] ["layout", "train"] (defScope s_releases) := ⟨rfl, rfl, rfl, by decide +kernel, rfl, by decide +kernel, by decide +kernel⟩
section
variable {P : Program} {w : World} {K : PySem.W.Frag} {mg : Str → Option Value} {base : Heap} {C CT CN CB CW CL : Addr} {f : Addr} {fd : FuncData}
theorem ok_tinit {fB fL : Addr} {fdB fdL : FuncData} (TT : TrCl K CT) (B : Blt mg) (Z_BadWay : Err P w K mg base "BadWay" CB fB fdB ["self", "at"] (spIni1 CB "at")) (Z_BadLength : Err P w K mg base "BadLength" CL fL fdL ["self", "length"] (spIni1 CL "length")) (F : Fun K "__init__" "Train.__init__" s_Train_init f fd) : FnOk P w K mg base (L2.CX P w) 3 f fd ["self", "way", "length"] (spTInit K CT CB CL) := by
  have m_len := B.len
  have m_list := B.list
  have m_range := B.range
  refine F.okX sc_Train_init (fun vs H Q E h => ?_) (fun cdv A outer s H vs Q E hr h => ?_)
  · obtain ⟨G, x, dx, a, way, len, rfl, _⟩ := h
    rfl
  · obtain ⟨G, x, dx, a, way, len, rfl, hG, gx, hx, hs, hw, kB, kL, k⟩ := h
    refine ⟨_, (pss_cons (ps_if (pt_cmpR op_eq (pe_callB call_len_seq (by rfl) m_len PySem.boot_len (pa_cons (pv 1) pa_nil)) pe_int (nomark _))
 (pss_one (ps_raise rfl (takes_of rfl rfl rfl rfl) (pmk_oex Z_BadWay.cls Z_BadWay.ini Z_BadWay.tI Z_BadWay.fn (hr.mono (by decide)) Z_BadWay.bnd .nil pass0 (by rfl) Z_BadWay.gl (pa_cons pe_int pa_nil)))) pss_nil)
 (pss_cons (ps_if (pt_cmpR op_lt (pv 2) pe_int (nomark _))
 (pss_one (ps_raise rfl (takes_of rfl rfl rfl rfl) (pmk_oex Z_BadLength.cls Z_BadLength.ini Z_BadLength.tI Z_BadLength.fn (hr.mono (by decide)) Z_BadLength.bnd .nil pass0 (by rfl) Z_BadLength.gl (pa_cons (pv 2) pa_nil)))) pss_nil)
 (pss_cons (ps_fld (pv 0) (pe_callTy call_list_of (by rfl) m_list (by decide +kernel) (pa_cons (pv 1) pa_nil)) rfl)
 (pss_cons (ps_fld (pv 0) pe_dnewK rfl)
 (pss_cons (ps_for (passes_of rfl) rfl (pi_range1 rfl m_range (pa_cons (pe_callB call_len_seq (by rfl) m_len PySem.boot_len (pa_cons (pv 1) pa_nil)) pa_nil)) (pg_name (i := 3) sc_Train_init.nd rfl (by first | exact Or.inl rfl | exact Or.inr rfl))
 (pss_one (ps_expr (pe_dsetd (pe_fld (pv 0) rfl) (pe_ix ix_list (pv 1) (pv 3) (fun _ _ => rfl)) (pv 3) ⟨by rfl, by rfl, by rfl, by rfl⟩))))
 (pss_cons (ps_fld (pv 0) (pv 2) rfl)
 (pss_cons (ps_fld (pv 0) (pe_callB call_len_seq (by rfl) m_len PySem.boot_len (pa_cons (pv 1) pa_nil)) rfl)
 (pss_one (ps_fld (pv 0) (pe_op op_mul pe_int (pe_callB call_len_seq (by rfl) m_len PySem.boot_len (pa_cons (pv 1) pa_nil))) rfl))))))))), ?_⟩
    have ln : ∀ {σ : L2.St} {G' : Hp}, Ex G G' → σ[1]? = some (some (.ref a)) → EF (tCB (Evl.rLenS K) (tCons (tVar 1) tNil)) σ G' (XV (.int (way.length : Int))) := fun e h => (ex_lenL (ex_var h) (Evl.ex_l e hs)).imp fun v _ _ p => by rw [show v = _ from p, List.length_map]; rfl
    refine st_if (p := (· = decide ((way.length : Int) = 0))) hG (et_eqI (ln (.refl G) rfl) ex_c) (fun h H1 e1 => ?_) (fun h H1 e1 => ?_)
    · have h := of_decide_eq_true h.symm
      exact mk_oneH (hG.trans e1) ex_c ((kB (List.eq_nil_of_length_eq_zero (by omega))).up e1)
    have h0 := of_decide_eq_false h.symm
    have hne : way ≠ [] := fun z => h0 (by rw [z]; rfl)
    dsimp only [tNext]
    refine st_if (p := (· = decide (len < 1))) (hG.trans e1) (et_ltI (ex_var rfl) ex_c) (fun h H2 e2 => ?_) (fun h H2 e2 => ?_)
    · refine mk_oneH (hG.trans (e1.trans e2)) (ex_var (i := 2) (v := .int len) rfl) ?_
      exact ((kL hne (of_decide_eq_true h.symm)).up (e1.trans e2))
    have h1 : 1 ≤ len := by have := of_decide_eq_false h.symm; omega
    have eH := e1.trans e2
    have eGs : Ex G (outH H x) := ex_out hG gx
    have ox : outH H x x = none := out_self
    have eS : Ex (outH H x) H2 := out_ex.trans eH
    have x2 := eH _ _ hx
    dsimp only [tNext]
    refine st_fld x2 (ed_list (EF.dv (ex_var (v := .ref a) rfl) (dv_row (Evl.ex_l (hG.trans eH) hs)))) (ex_var rfl) TT.cl TT.way (by simp) fun y G3 H3 f3 g3 p3 => ?_
    obtain ⟨l, xl, rfl, l0, l1, ld⟩ := p3
    have exl := dpa_ints_eq ld
    subst exl
    have lx : l ≠ x := fun z => by rw [z, x2] at l0; cases l0
    have lS : outH H x l = none := none_back eS l0
    have eS4 : Ex (outH H x) (upd H3 x (.ins CT dx (putF "_way" (.ref l) []))) := ex_off (eS.trans (f3.trans g3)) ox
    have x4 : (upd H3 x (.ins CT dx (putF "_way" (.ref l) []))) x = some (.ins CT dx (putF "_way" (.ref l) [])) := upd_same
    have l4 : (upd H3 x (.ins CT dx (putF "_way" (.ref l) []))) l = some (.lst (way.map V.int)) := by rw [upd_ne lx]; exact g3 _ _ l1
    generalize upd H3 x (.ins CT dx (putF "_way" (.ref l) [])) = H4 at eS4 x4 l4 ⊢
    dsimp only
    refine st_fld x4 (ef_dnew (G := H4)) (ex_var rfl) TT.cl TT.at_ (by have := putF_len "_way" (.ref l) []; simp at this; omega) fun y G5 H5 f5 g5 p5 => ?_
    obtain ⟨d, rfl, d0, d1⟩ := p5
    have dx' : d ≠ x := fun z => by rw [z, x4] at d0; cases d0
    have dl : d ≠ l := fun z => by rw [z, l4] at d0; cases d0
    have dS : outH H x d = none := none_back eS4 d0
    obtain ⟨fs2, hf2⟩ : ∃ fs2, fs2 = putF "_step_at" (.ref d) (putF "_way" (.ref l) []) := ⟨_, rfl⟩
    rw [← hf2]
    have eS6 : Ex (outH H x) (upd H5 x (.ins CT dx fs2)) := ex_off (eS4.trans (f5.trans g5)) ox
    have x6 : (upd H5 x (.ins CT dx fs2)) x = some (.ins CT dx fs2) := upd_same
    have l6 : (upd H5 x (.ins CT dx fs2)) l = some (.lst (way.map V.int)) := by rw [upd_ne lx]; exact g5 _ _ (f5 _ _ l4)
    have d6 : (upd H5 x (.ins CT dx fs2)) d = some (.dK (stepN way 0)) := by rw [upd_ne dx']; exact g5 _ _ d1
    generalize upd H5 x (.ins CT dx fs2) = H6 at eS6 x6 l6 d6 ⊢
    have la : fs2.lookup ("_step_at" : Str) = some (.ref d) := by rw [hf2, lookup_putF, if_pos rfl]
    have fl2 : fs2.length ≤ 2 := by
      rw [hf2]
      have a1 := putF_len "_way" (.ref l) []
      have a2 := putF_len "_step_at" (.ref d) (putF "_way" (.ref l) [])
      simp at a1
      omega
    dsimp only
    refine st_forR1 (n := (way.length : Int)) (eGs.trans eS6) ((ea_one (ln (.refl G) rfl)).imp fun vs G' _ ⟨x, ev, hx⟩ => by rw [ev, show x = _ from hx]) (by omega) (by omega) (fun i σ' H' => Ex (outH H x) H' ∧ H' x = some (.ins CT dx fs2) ∧ H' l = some (.lst (way.map V.int)) ∧ H' d = some (.dK (stepN way i)) ∧ ∃ v, σ' = [some (.ref x), some (.ref a), some (.int len), v]) (fun H' e => ⟨eS6.trans e, e _ _ x6, e _ _ l6, e _ _ d6, _, rfl⟩) (fun i σ' H' hi hw' => ?_) (fun σ' H' hw' => ?_)
    · obtain ⟨e, hx', hl', hd', v, rfl⟩ := hw'
      have hi' : i < way.length := by omega
      refine st_setd (d := d) (kvs := stepN way i) (k := way.getD i 0) (z := .int (i : Int)) (ex_fld (ex_var rfl) hx' TT.cl TT.at_ la) hd' (ex_ixL (i := i) (ex_var (v := .ref a) rfl) (ex_var (v := .int (i : Int)) rfl) rfl (Evl.ex_l (eGs.trans e) hs) (by
        rw [List.getElem?_map, List.getElem?_eq_getElem hi', List.getD_eq_getElem?_getD, List.getElem?_eq_getElem hi']
        rfl)) (ex_var rfl) (by have := stepN_len way i; omega) fun H2 e2 => ⟨ex_off (e.trans e2) dS, by rw [upd_ne (Ne.symm dx')]; exact e2 _ _ hx', by rw [upd_ne (Ne.symm dl)]; exact e2 _ _ hl', upd_same, _, rfl⟩
    obtain ⟨e7, x7, l7, d7, v7, rfl⟩ := hw'
    rw [Int.toNat_natCast] at d7
    dsimp only
    refine st_fld (P := XV (.int len)) x7 (ex_var rfl) (ex_var rfl) TT.cl TT.length (by omega) fun y G8 H8 f8 g8 p8 => ?_
    cases (show y = .int len from p8)
    have e8 : Ex (outH H x) (upd H8 x (.ins CT dx (putF "length" (.int len) fs2))) := ex_off (e7.trans (f8.trans g8)) ox
    have x8 : (upd H8 x (.ins CT dx (putF "length" (.int len) fs2))) x = some (.ins CT dx (putF "length" (.int len) fs2)) := upd_same
    have l8 : (upd H8 x (.ins CT dx (putF "length" (.int len) fs2))) l = some (.lst (way.map V.int)) := by rw [upd_ne lx]; exact g8 _ _ (f8 _ _ l7)
    have d8 : (upd H8 x (.ins CT dx (putF "length" (.int len) fs2))) d = some (.dK (stepN way way.length)) := by rw [upd_ne dx']; exact g8 _ _ (f8 _ _ d7)
    generalize upd H8 x (.ins CT dx (putF "length" (.int len) fs2)) = H9 at e8 x8 l8 d8 ⊢
    have fl3 := putF_len "length" (.int len) fs2
    dsimp only
    refine st_fld (P := XV (.int (way.length : Int))) x8 (ln (eGs.trans e8) rfl) (ex_var rfl) TT.cl TT.steps (by omega) fun y Ga Ha fa ga pa => ?_
    cases (show y = .int (way.length : Int) from pa)
    have fl4 := putF_len "steps" (.int (way.length : Int)) (putF "length" (.int len) fs2)
    have ea : Ex (outH H x) (upd Ha x (.ins CT dx (putF "steps" (.int (way.length : Int)) (putF "length" (.int len) fs2)))) := ex_off (e8.trans (fa.trans ga)) ox
    have xa : (upd Ha x (.ins CT dx (putF "steps" (.int (way.length : Int)) (putF "length" (.int len) fs2)))) x = some (.ins CT dx (putF "steps" (.int (way.length : Int)) (putF "length" (.int len) fs2))) := upd_same
    have la' : (upd Ha x (.ins CT dx (putF "steps" (.int (way.length : Int)) (putF "length" (.int len) fs2)))) l = some (.lst (way.map V.int)) := by rw [upd_ne lx]; exact ga _ _ (fa _ _ l8)
    have da : (upd Ha x (.ins CT dx (putF "steps" (.int (way.length : Int)) (putF "length" (.int len) fs2)))) d = some (.dK (stepN way way.length)) := by rw [upd_ne dx']; exact ga _ _ (fa _ _ d8)
    generalize upd Ha x (.ins CT dx (putF "steps" (.int (way.length : Int)) (putF "length" (.int len) fs2))) = Hb at ea xa la' da ⊢
    dsimp only
    refine st_fld (P := XV (.int (2 * (way.length : Int)))) xa (ex_mul ex_c (ln (eGs.trans ea) rfl) (.inl (by decide))) (ex_var rfl) TT.cl TT.last (by omega) fun y Gc Hc fc gc pc => ?_
    cases (show y = .int (2 * (way.length : Int)) from pc)
    rw [hf2]
    obtain ⟨ff, hff⟩ : ∃ ff, ff = putF "last" (.int (2 * (way.length : Int))) (putF "steps" (.int (way.length : Int)) (putF "length" (.int len) (putF "_step_at" (.ref d) (putF "_way" (.ref l) [])))) := ⟨_, rfl⟩
    rw [← hff]
    have ec : Ex (outH H x) (upd Hc x (.ins CT dx ff)) := ex_off (ea.trans (fc.trans gc)) ox
    have xc : (upd Hc x (.ins CT dx ff)) x = some (.ins CT dx ff) := upd_same
    have lc : (upd Hc x (.ins CT dx ff)) l = some (.lst (way.map V.int)) := by rw [upd_ne lx]; exact gc _ _ (fc _ _ la')
    have dc : (upd Hc x (.ins CT dx ff)) d = some (.dK (stepN way way.length)) := by rw [upd_ne dx']; exact gc _ _ (fc _ _ da)
    have gF := (((Gr.same eGs ec).know eGs lS lc).know eGs dS dc).know eGs ox xc
    have t5 : TFl ff l d len (way.length : Int) := by rw [hff]; exact tfl5
    refine k hne h1 _ _ gF ⟨dx, ff, l, d, upd_same, t5, ?_, ?_, none_back eGs lS⟩
    · rw [upd_ne lx, upd_ne (Ne.symm dl)]; exact upd_same
    · rw [upd_ne dx']; exact upd_same
theorem ok_tblocks (TT : TrCl K CT) (B : Blt mg) (F : Fun K "blocks" "Train.blocks" s_Train_blocks f fd) : FnOk P w K mg base CX0 1 f fd ["self"] (spBlocksT K CT) := by
  have m_list := B.list
  refine F.ok sc_Train_blocks (fun vs H Q E h => ?_) (fun cdv A outer s H vs Q E hr h => ?_)
  · obtain ⟨G, p, way, len, _, rfl, _⟩ := h
    rfl
  · obtain ⟨G, p, way, len, hG, rfl, ⟨dx, fs, l, d, hp, hf, hl, hd⟩, k⟩ := h
    refine ⟨_, (pss_one (ps_ret (pe_callTy call_list_of (by rfl) m_list (by decide +kernel) (pa_cons (pe_fld (pv 0) rfl) pa_nil)))), ?_⟩
    exact st_ret hG (ed_list (EF.dv (ex_fld (ex_var rfl) hp TT.cl TT.way hf.way) (dv_row hl))) fun v G' H' g ⟨q, xs, ev, q0, q1, q2⟩ => k v G' H' g ⟨q, xs, ev, q0, q1, q2⟩
theorem ok_stepOf (TT : TrCl K CT) (F : Fun K "step_of" "Train.step_of" s_Train_step_of f fd) : FnOk P w K mg base CX0 1 f fd ["self", "block"] (spStepOf K CT) := by
  refine F.ok sc_Train_step_of (fun vs H Q E h => ?_) (fun cdv A outer s H vs Q E hr h => ?_)
  · obtain ⟨G, p, way, len, b, _, rfl, _⟩ := h
    rfl
  · obtain ⟨G, p, way, len, b, hG, rfl, ⟨dx, fs, l, d, hp, hf, hl, hd⟩, k⟩ := h
    refine ⟨_, (pss_one (ps_ret (pe_dget2 (hu1 hr) (pe_fld (pv 0) rfl) (pv 1) (pe_un un_neg pe_int) ⟨by rfl, by rfl, by rfl, by rfl⟩))), ?_⟩
    exact st_ret hG (ef_dgetV (ex_fld (ex_var rfl) hp TT.cl TT.at_ hf.at_) hd (ex_var (v := .int b) rfl) ex_neg) fun v G' H' g pv => k v G' H' g (by rw [show v = _ from pv, stepN_get]; rfl)
theorem ok_rel1 (T : Cl K C) (TT : TrCl K CT) (B : Blt mg) (F : Fun K "_release" "_release" s__release f fd) (Cl : CalMX P w K mg base C "length_of" 4 ["self", "block"] (spLenX K C CN)) : FnOk P w K mg base CX0 5 f fd ["layout", "train", "way", "step"] (spRel1 K C CT) := by
  obtain ⟨f2, fd2, G_length_of, M_length_of, b_length_of⟩ := Cl
  have cL := T.cl
  have m_range := B.range
  refine F.ok sc__release (fun vs H Q E h => ?_) (fun cdv A outer s H vs Q E hr h => ?_)
  · obtain ⟨G, p, q, a, lens, parks, js, way, len, step, _, rfl, _⟩ := h
    rfl
  · obtain ⟨G, p, q, a, lens, parks, js, way, len, step, hG, rfl, hL, hT, hs, hb, hi, hl, k⟩ := h
    refine ⟨_, (pss_cons (ps_set (i := 4) sc__release.nd rfl (by first | exact Or.inl rfl | exact Or.inr rfl) pe_int)
 (pss_cons (ps_for PassesOwn.never rfl (pi_range2 rfl m_range (pa_cons (pe_op op_add (pv 3) pe_int) (pa_cons (pe_fld (pv 1) rfl) pa_nil))) (pg_name (i := 5) sc__release.nd rfl (by first | exact Or.inl rfl | exact Or.inr rfl))
 (pss_cons (ps_aug (i := 4) sc__release.nd rfl (by first | exact Or.inl rfl | exact Or.inr rfl) (pe_meth (pv 0) cL M_length_of G_length_of (hr.mono (by decide)) b_length_of .nil passL (pa_cons (pe_ix ix_list (pv 2) (pv 5) (fun _ _ => rfl)) pa_nil)) ip_add)
 (pss_one (ps_if (pt_cmpR op_ge (pv 4) (pe_fld (pv 1) rfl) (nomark _))
 (pss_one (ps_ret (pe_op op_add (pe_op op_mul pe_int (pv 5)) pe_int))) pss_nil))))
 (pss_one (ps_ret (pe_fld (pv 1) rfl))))), ?_⟩
    refine st_asg (P := XV (.int 0)) hG ex_c fun v1 G1 H1 g1 p1 => ?_
    cases (show v1 = _ from p1)
    dsimp only
    refine st_forR2 (lo := (step : Int) + 1) (n := (way.length : Int)) g1.ok (ea_x (ex_add (ex_var (v := .int (step : Int)) rfl) (ex_c (v := .int 1))) (ea_x (ex_tsteps TT (hT.ex g1.up) (ex_var rfl)) ea_nil)) (by omega) (fun i σ' H' => Ex H H' ∧ Ex G1 H' ∧ ∃ room v5, relGo lens len (way.drop (step + 1 + i)) room ((step : Int) + 1 + (i : Int)) = relOf lens len way step ∧ σ' = [some (.ref p), some (.ref q), some (.ref a), some (.int (step : Int)), some (.int room), v5]) (fun H' e => ⟨g1.hp.trans e, g1.ok.trans e, 0, _, by unfold relOf; congr 1 <;> omega, rfl⟩) (fun i σ' H' hi' hw => ?_) (fun σ' H' hw => ?_)
    · obtain ⟨e, e1, room, v5, hr, rfl⟩ := hw
      have hlt : step + 1 + i < way.length := by omega
      have hw1 : way[step + 1 + i]? = some way[step + 1 + i] := List.getElem?_eq_getElem hlt
      have bb := hb _ (List.mem_of_getElem? hw1)
      rw [relGo_step hw1] at hr
      refine st_augI (a := room) (b := lenOf lens way[step + 1 + i]) e1 rfl (ef_lenM (ex_var (v := .ref p) rfl) (ex_ixL (i := step + 1 + i) (ex_var (v := .ref a) rfl) (ex_var rfl) (by omega) (Evl.ex_l g1.up hs) (by rw [List.getElem?_map, hw1]; rfl)) (hL.ex g1.up) bb.1 bb.2) fun G2 H2 g2 => ?_
      dsimp only
      refine st_if (p := (· = decide (room + lenOf lens way[step + 1 + i] ≥ len))) g2.ok (et_geI (ex_var rfl) (ex_tlen TT (hT.ex (g1.up.trans g2.up)) (ex_var rfl))) (fun h H3 e3 => ?_) (fun h H3 e3 => ?_)
      · rw [if_pos (of_decide_eq_true h.symm)] at hr
        refine st_ret (P := XV (.int (2 * ((step : Int) + 1 + (i : Int)) + 1))) (g2.ok.trans e3) (ex_add (ex_mul ex_c (ex_var rfl) (.inl (by decide))) ex_c) fun v G' H' g pv => k v G H' (.same hG (e.trans (g2.hp.trans (e3.trans g.hp)))) ?_
        rw [← hr]
        exact pv
      · rw [if_neg (of_decide_eq_false h.symm)] at hr
        exact ⟨e.trans (g2.hp.trans e3), g2.up.trans (g2.ok.trans e3), _, _, by rw [← hr, show step + 1 + (i + 1) = step + 1 + i + 1 by omega]; congr 1 <;> omega, rfl⟩
    · obtain ⟨e, e1, room, v5, hr, rfl⟩ := hw
      dsimp only
      have hn : step + 1 + ((way.length : Int) - ((step : Int) + 1)).toNat = way.length := by omega
      rw [hn, List.drop_length, relGo_nil] at hr
      refine st_ret (P := XV (.int (2 * (way.length : Int)))) e1 (ex_tlast TT (hT.ex g1.up) (ex_var rfl)) fun v G' H' g pv => k v G H' (.same hG (e.trans g.hp)) ?_
      rw [← hr, show v = _ from pv]
      show V.int _ = V.int _
      congr 1
      omega
theorem ok_rels (T : Cl K C) (TT : TrCl K CT) (B : Blt mg) (F : Fun K "releases" "releases" s_releases f fd) (Cb : CalM P w K mg base CT "blocks" 1 ["self"] (spBlocksT K CT)) (Ch : CalX P w K mg base "heading" 7 ["layout", "way"] (spHead K C CN CW)) (Cr : Cal P w K mg base "_release" 5 ["layout", "train", "way", "step"] (spRel1 K C CT)) : FnOk P w K mg base (L2.CX P w) 8 f fd ["layout", "train"] (spRels K C CT CN CW) := by
  obtain ⟨f1, fd1, G_blocks, M_blocks, b_blocks⟩ := Cb
  obtain ⟨f2, fd2, G_heading, m_heading, k_heading, b_heading⟩ := Ch
  obtain ⟨f3, fd3, G__release, m__release, k__release, b__release⟩ := Cr
  have cT := TT.cl
  have m_range := B.range
  refine F.okX sc_releases (fun vs H Q E h => ?_) (fun cdv A outer s H vs Q E hr h => ?_)
  · obtain ⟨G, p, q, lens, parks, js, way, len, _, rfl, _⟩ := h
    rfl
  · obtain ⟨G, p, q, lens, parks, js, way, len, hG, rfl, hL, hT, hw, k⟩ := h
    refine ⟨_, (pss_cons (ps_set (i := 2) sc_releases.nd rfl (by first | exact Or.inl rfl | exact Or.inr rfl) (pe_meth0 (pv 1) cT M_blocks G_blocks (hr.mono (by decide)) b_blocks .nil pass0))
 (pss_cons (ps_expr (pe_callSD G_heading (hr.mono (by decide)) rfl m_heading k_heading b_heading .nil (fun σ => passAt (takes_of rfl rfl rfl rfl) σ) (pa_cons (pv 0) (pa_cons (pv 2) pa_nil))))
 (pss_one (ps_ret (pe_lc (own := [("step", 3)]) (g := (gName 3)) (tt := tYes) (te := (tCall (spRel1 K C CT) [] E0 (tCons (tVar 0) (tCons (tVar 1) (tCons (tVar 2) (tCons (tVar 3) tNil)))))) rfl sc_releases.nd (pi_range1 rfl m_range (pa_cons (pe_fld (pv 1) rfl) pa_nil)) (blkOk_by (N := ["layout", "train", "way", "step"]) (sc := defScope s_releases) (by decide +kernel)) (fun _ _ _ _ _ => pg_name (i := 3) sc_releases.nd rfl (Or.inl rfl)) (fun _ _ _ _ _ => pts_nil) (fun _ _ _ _ _ => (pe_call G__release (hr.mono (by decide)) rfl m__release k__release b__release .nil pass0 (pa_cons (pv 0) (pa_cons (pv 1) (pa_cons (pv 2) (pa_cons (pv 3) pa_nil))))))))))), ?_⟩
    refine st_asg (P := NwD K G (way.map PyData.int)) hG (ex_meth0 (ex_var rfl) (hT.meth (by decide +kernel)) fun G' e => (sa_blocksT (hT.ex e)).imp fun v G2 p => p.low e) fun v1 G1 H1 g1 p1 => ?_
    obtain ⟨a, xs, rfl, a0, a1, a2⟩ := p1
    rw [dpa_ints_eq a2] at a1
    have hs : SqL K G1 a (way.map V.int) := Evl.sq_of a1
    dsimp only
    refine st_drop2 g1.ok (ex_var (v := .ref p) rfl) (ex_var (v := .ref a) rfl) fun G2 H2 g2 => ⟨G2, p, lens.length, parks, js, a, way, g2.ok, rfl, hL.1.ex (g1.up.trans g2.up), Evl.ex_l g2.up hs, by omega, ?_⟩
    have g12 := g1.trans g2
    have k1 := k.up g12
    cases hh : headR (lens.length : Int) js way with
    | bad i => rw [hh] at k1; exact k1
    | no b => rw [hh] at k1; exact k1
    | way c =>
      rw [hh] at k
      intro v G3 H3 g3 _
      have hin := headR_in hh
      have gA := g12.trans g3
      have hs3 := Evl.ex_l (g2.up.trans g3.up) hs
      refine st_ret (P := NwD K G3 ((relsOf lens len way).map PyData.int)) gA.ok ((el_mapWN (K := K) (n := ((way.length : Int)).toNat) (f := fun i => 0 + (i : Int)) (g := fun i => .int (relOf lens len way i)) walk_range (wi_1 (ea_x (ex_tsteps TT (hT.ex gA.up) (ex_var rfl)) ea_nil) (by omega)) (by omega) (fun x => rfl) fun i G' e hi => ?_).imp fun v G' _ pv => ?_) fun v G' H' g pv => k v G' H' (gA.trans g) (pv.low gA.up)
      · rw [Int.zero_add]
        exact (ex_call4 (P := XV (.int (relOf lens len way i))) (ex_var (v := .ref p) rfl) (ex_var (v := .ref q) rfl) (ex_var (v := .ref a) rfl) (ex_var (v := .int (i : Int)) rfl) fun G2 e2 => sa_rel1 (hL.ex ((gA.up.trans e).trans e2)) (hT.ex ((gA.up.trans e).trans e2)) (Evl.ex_l (e.trans e2) hs3) hin (by omega) hw).dv (.int _)
      · unfold relsOf
        rw [List.map_map]
        exact pv
end
end Kx

set_option Elab.async false
set_option linter.all false
set_option maxRecDepth 100000
set_option maxHeartbeats 8000000
namespace Kx
open PySem L2 Lw
open Evl (Ex)
abbrev s_cell : Stmt := top 20
theorem sc_cell : FnScope ["_law_script", "_law_k"] ["_law_script", "_law_k"] (defScope s_cell) := ⟨rfl, rfl, rfl, by decide +kernel, rfl, by decide +kernel, by decide +kernel⟩
abbrev s_draw : Stmt := top 21
theorem sc_draw : FnScope ["_law_cell_here", "_law_k", "_law_size_here", "_law_rest", "_law_mixed", "_law_turn"] ["_law_cell_here", "_law_k", "_law_size_here"] (defScope s_draw) := ⟨rfl, rfl, rfl, by decide +kernel, rfl, by decide +kernel, by decide +kernel⟩
section
variable {P : Program} {w : World} {K : PySem.W.Frag} {mg : Str → Option Value} {base : Heap} {C : Addr} {f : Addr} {fd : FuncData}
theorem ok_cell (B : Blt mg) (F : Fun K "_law_cell" "_law_cell" s_cell f fd) : FnOk P w K mg base CX0 1 f fd ["_law_script", "_law_k"] (Lw.spCell K) := by
  have m_len := B.len
  have m_int := B.int
  refine F.ok sc_cell (fun vs H Q E h => ?_) (fun cdv A outer s H vs Q E hr h => ?_)
  · obtain ⟨G, l, ns, k, _, rfl, _⟩ := h
    rfl
  · obtain ⟨G, l, ns, kk, hG, rfl, hs, hn, h0, h1, k⟩ := h
    refine ⟨_, (pss_cons (ps_if (pt_cmpR op_lt (pv 1) (pe_callB call_len_seq (by rfl) m_len PySem.boot_len (pa_cons (pv 0) pa_nil)) (nomark _))
 (pss_one (ps_ret (pe_ix ix_list (pv 0) (pv 1) (fun _ _ => rfl)))) pss_nil)
 (pss_cons (ps_if (pt_cmpR op_eq (pe_callB call_len_seq (by rfl) m_len PySem.boot_len (pa_cons (pv 0) pa_nil)) pe_int (nomark _))
 (pss_one (ps_ret (pe_op op_mul pe_int (pv 1)))) pss_nil)
 (pss_one (ps_ret (pe_op op_add (pe_ix ix_list (pv 0) (pe_op op_mod (pe_callTy call_int1 (by rfl) m_int (by decide +kernel) (pa_cons (pv 1) pa_nil)) (pe_callB call_len_seq (by rfl) m_len PySem.boot_len (pa_cons (pv 0) pa_nil))) (fun _ _ => rfl)) (pe_op op_mul pe_int (pv 1))))))), ?_⟩
    have lenv : ∀ {H' : Hp}, Ex G H' → EF (tCB (Evl.rLenS K) (tCons (tVar 0) tNil)) [some (.ref l), some (.int kk)] H' (XV (.int (ns.length : Int))) := fun {H'} e => (ex_lenL (ex_var (v := .ref l) rfl) (Evl.ex_l e hs)).imp fun y _ _ p => by rw [show y = _ from p, List.length_map]; rfl
    refine st_if (p := (· = decide (kk < (ns.length : Int)))) hG (et_test (ec_int (f := fun i j => decide (i < j)) (EF.iv (ex_var rfl)) (EF.iv (lenv (Ex.refl G))) fun a b ha hb => by rw [ha, hb])) (fun h H' e => ?_) (fun h H' e => ?_)
    · have hlt := of_decide_eq_true h.symm
      obtain ⟨j, rfl⟩ : ∃ j : Nat, kk = (j : Int) := ⟨kk.toNat, by omega⟩
      have hj : j < ns.length := by omega
      exact st_ret (P := XV (.int ns[j])) (hG.trans e) (ex_ixL (ex_var rfl) (ex_var rfl) rfl hs (by rw [List.getElem?_map, List.getElem?_eq_getElem hj]; rfl)) (fun v G' H2 g p => k v G' H2 ((Gr.same hG e).trans g) ⟨_, p, trivial⟩)
    refine st_if (p := (· = decide ((ns.length : Int) = 0))) (hG.trans e) (et_test (ei_eq (EF.iv (lenv (Ex.refl G))) (EF.iv ex_c) fun a b ha hb => by rw [ha, hb])) (fun h2 H2 e2 => ?_) (fun h2 H2 e2 => ?_)
    · exact st_ret (P := IV fun _ => True) (hG.trans (e.trans e2)) (ei_mul (p := (· = 7919)) (q := fun _ => True) (EF.iv ex_c) (EF.ivp (ex_var rfl) trivial) (fun a ha => by omega) fun _ _ _ _ => trivial) (fun v G' H3 g p => k v G' H3 ((Gr.same hG (e.trans e2)).trans g) p)
    · have hne := of_decide_eq_false h2.symm
      refine st_ret (P := IV fun _ => True) (hG.trans (e.trans e2)) (ei_add (p := fun _ => True) (q := fun _ => True) (ed_ixL (ds := ns.map PyData.int) (q := fun z => 0 ≤ z ∧ z < (ns.length : Int)) (EF.dv (ex_var (v := .ref l) rfl) (.lst hs (dpa_ints ns))) (ei_mod (n := (ns.length : Int)) (ei_int (EF.iv (ex_var rfl))) (EF.iv (lenv (Ex.refl G))) (by omega) fun a _ => ⟨Int.emod_nonneg _ (by omega), Int.emod_lt_of_pos _ (by omega)⟩) fun i hi => ?_) (ei_mul (p := (· = 7919)) (q := fun _ => True) (EF.iv ex_c) (EF.ivp (ex_var rfl) trivial) (fun a ha => by omega) fun _ _ _ _ => trivial) fun _ _ _ _ => trivial) (fun v G' H3 g p => k v G' H3 ((Gr.same hG (e.trans e2)).trans g) p)
      have hj : i.toNat < ns.length := by omega
      exact ⟨i.toNat, .int ns[i.toNat], by omega, by rw [List.getElem?_map, List.getElem?_eq_getElem hj]; rfl, fun v G' d => by cases d; exact ⟨_, rfl, trivial⟩⟩
theorem ok_draw (B : Blt mg) (F : Fun K "_law_draw" "_law_draw" s_draw f fd) : FnOk P w K mg base CX0 1 f fd ["_law_cell_here", "_law_k", "_law_size_here"] spDraw := by
  have m_abs := B.abs
  have m_int := B.int
  have m_range := B.range
  refine F.ok sc_draw (fun vs H Q E h => ?_) (fun cdv A outer s H vs Q E hr h => ?_)
  · obtain ⟨G, c, k, n, _, rfl, _⟩ := h
    rfl
  · obtain ⟨G, c, kk, n, hG, rfl, h0, h1, h2, h3, k⟩ := h
    refine ⟨_, (pss_cons (ps_set (i := 3) sc_draw.nd rfl (by first | exact Or.inl rfl | exact Or.inr rfl) (pe_callB call_abs (by rfl) m_abs (by decide +kernel) (pa_cons (pv 0) pa_nil)))
 (Evl.pss_cut (ps_if (pt_cmpR op_ge (pv 3) pe_int (nomark _))
 (pss_cons (ps_for PassesOwn.never rfl (pi_range1 rfl m_range (pa_cons (pv 1) pa_nil)) (pg_name (i := 5) sc_draw.nd rfl (by first | exact Or.inl rfl | exact Or.inr rfl))
 (pss_one (ps_set (i := 3) sc_draw.nd rfl (by first | exact Or.inl rfl | exact Or.inr rfl) (pe_op op_fdiv (pv 3) pe_int))))
 (pss_one (ps_if (pt_cmpR op_gt (pv 3) pe_int (nomark _))
 (pss_one (ps_ret (pe_op op_mod (pe_callTy call_int1 (by rfl) m_int (by decide +kernel) (pa_cons (pe_op op_mod (pe_callTy call_int1 (by rfl) m_int (by decide +kernel) (pa_cons (pv 3) pa_nil)) pe_int) pa_nil)) (pv 2)))) pss_nil))) pss_nil)
 (pss_cons (ps_set (i := 4) sc_draw.nd rfl (by first | exact Or.inl rfl | exact Or.inr rfl) (pe_op op_mod (pe_callTy call_int1 (by rfl) m_int (by decide +kernel) (pa_cons (pe_op op_add (pe_op op_add (pe_callB call_abs (by rfl) m_abs (by decide +kernel) (pa_cons (pv 0) pa_nil)) (pe_op op_mul pe_int (pv 1))) pe_int) pa_nil)) pe_int))
 (pss_cons (ps_set (i := 4) sc_draw.nd rfl (by first | exact Or.inl rfl | exact Or.inr rfl) (pe_op op_mod (pe_callTy call_int1 (by rfl) m_int (by decide +kernel) (pa_cons (pe_op op_mul (pv 4) (pe_op op_add (pv 4) pe_int)) pa_nil)) pe_int))
 (pss_cons (ps_set (i := 4) sc_draw.nd rfl (by first | exact Or.inl rfl | exact Or.inr rfl) (pe_op op_mod (pe_callTy call_int1 (by rfl) m_int (by decide +kernel) (pa_cons (pe_op op_add (pe_op op_mul (pv 4) (pe_op op_add (pv 4) pe_int)) (pe_op op_mul pe_int (pv 1))) pa_nil)) pe_int))
 (pss_one (ps_ret (pe_op op_mod (pe_callTy call_int1 (by rfl) m_int (by decide +kernel) (pa_cons (pe_op op_fdiv (pv 4) pe_int) pa_nil)) (pv 2))))))))), ?_⟩
    have fin : ∀ {G' H' : Hp} {σ : L2.St} {te : TE} {i : Nat}, Ex H H' → EF te σ G' (IV fun _ => True) → Ex G' H' → σ[i]? = some (some (.int n)) → EF (tOp (rI (fun _ j => 0 < j) fun i j => .int (i % j)) (tCB rIntI (tCons te tNil)) (tVar i)) σ G' (IV fun z => 0 ≤ z ∧ z < n) := fun e hv _ hi =>
      ei_mod (n := n) (ei_int hv) (EF.iv (ex_var hi)) (by omega) fun a _ => ⟨Int.emod_nonneg _ (by omega), Int.emod_lt_of_pos _ (by omega)⟩
    refine st_asg (P := IV fun _ => True) hG (ei_abs (EF.iv (ex_var (v := .int c) rfl))) fun v1 G1 H1 g1 ⟨r1, e1, _⟩ => ?_
    subst e1
    refine ⟨fun σ' H' => Ex H H' ∧ ∃ r v5, σ' = [some (.int c), some (.int kk), some (.int n), some (.int r), none, v5], ?_, ?_⟩
    · refine st_if (p := fun _ => True) (Ex.refl H1) (et_test (ec_int (p := fun _ => True) (q := fun _ => True) (f := fun i j => decide (j ≤ i)) (EF.ivp (ex_var rfl) trivial) (EF.ivp ex_c trivial) fun _ _ _ _ => trivial)) (fun _ H2 e2 => ?_) (fun _ H2 e2 => ⟨g1.hp.trans e2, _, _, rfl⟩)
      refine st_forR1 (n := kk) (Ex.refl H2) ((ea_one (ex_var (v := .int kk) rfl)).imp fun vs G' _ ⟨x, ev, hx⟩ => by rw [ev, show x = _ from hx]) (by omega) (by omega) (fun i σ' H' => Ex H H' ∧ ∃ r v5, σ' = [some (.int c), some (.int kk), some (.int n), some (.int r), none, v5]) (fun H' e => ⟨g1.hp.trans (e2.trans e), _, _, rfl⟩) (fun i σ' H' hi hw => ?_) (fun σ' H' hw => ?_)
      · obtain ⟨e, r, v5, rfl⟩ := hw
        refine st_asg (P := IV fun _ => True) (Ex.refl H') (ei_div (n := 64) (EF.iv (ex_var (v := .int r) rfl)) (EF.iv ex_c) (by omega) (by omega) fun _ _ => trivial) fun v2 G2 H2 g2 ⟨r2, er, _⟩ => ?_
        subst er
        exact ⟨e.trans g2.hp, _, _, rfl⟩
      · obtain ⟨e, r, v5, rfl⟩ := hw
        refine st_if (p := fun _ => True) (Ex.refl H') (et_test (ec_int (p := fun _ => True) (q := fun _ => True) (f := fun i j => decide (j < i)) (EF.ivp (ex_var (v := .int r) rfl) trivial) (EF.ivp ex_c trivial) fun _ _ _ _ => trivial)) (fun _ H3 e3 => ?_) (fun _ H3 e3 => ⟨e.trans e3, _, _, rfl⟩)
        exact st_ret (P := IV fun z => 0 ≤ z ∧ z < n) (hG.trans (e.trans e3)) (fin (e.trans e3) (ei_mod (n := 64) (s := fun _ => True) (ei_int (EF.iv (ex_var (v := .int r) rfl))) (EF.iv ex_c) (by omega) fun _ _ => trivial) (hG.trans (e.trans e3)) rfl) fun v G' H4 g p => k v G' H4 ((Gr.same hG (e.trans e3)).trans g) p
    · rintro σ1 H2 ⟨e2, r, v5, rfl⟩
      have big : ∀ (m : Int), 0 < m → m ≤ 2147483647 → ∀ a, (fun z : Int => 0 ≤ z ∧ z < 2147483647) (a % m) := fun m hm hm2 a => ⟨Int.emod_nonneg _ (by omega), by have := Int.emod_lt_of_pos a hm; omega⟩
      refine st_asg (P := IV fun z => 0 ≤ z ∧ z < 2147483647) (Ex.refl H2) (ei_mod (n := 2147483647) (ei_int (p := fun _ => True) (ei_add (p := fun _ => True) (q := fun _ => True) (ei_add (p := fun _ => True) (q := fun _ => True) (ei_abs (EF.iv (ex_var (v := .int c) rfl))) (ei_mul (p := (· = 7919)) (q := fun _ => True) (EF.iv ex_c) (EF.ivp (ex_var (v := .int kk) rfl) trivial) (fun a ha => by omega) fun _ _ _ _ => trivial) fun _ _ _ _ => trivial) (EF.ivp ex_c trivial) fun _ _ _ _ => trivial)) (EF.iv ex_c) (by omega) fun a _ => big _ (by omega) (by omega) a) fun v1 G3 H3 g3 ⟨m1, em1, hm1⟩ => ?_
      subst em1
      refine st_asg (P := IV fun z => 0 ≤ z ∧ z < 2147483647) (Ex.refl H3) (ei_mod (n := 2147483629) (ei_int (p := fun _ => True) (ei_mul (p := fun z => 0 ≤ z ∧ z < 2147483647) (q := fun _ => True) (EF.ivp (ex_var (v := .int m1) rfl) hm1) (ei_add (p := fun _ => True) (q := fun _ => True) (EF.ivp (ex_var (v := .int m1) rfl) trivial) (EF.ivp ex_c trivial) fun _ _ _ _ => trivial) (fun a ha => by omega) fun _ _ _ _ => trivial)) (EF.iv ex_c) (by omega) fun a _ => big _ (by omega) (by omega) a) fun v1 G4 H4 g4 ⟨m2, em2, hm2⟩ => ?_
      subst em2
      refine st_asg (P := IV fun z => 0 ≤ z ∧ z < 2147483647) (Ex.refl H4) (ei_mod (n := 2147483647) (ei_int (p := fun _ => True) (ei_add (p := fun _ => True) (q := fun _ => True) (ei_mul (p := fun z => 0 ≤ z ∧ z < 2147483647) (q := fun _ => True) (EF.ivp (ex_var (v := .int m2) rfl) hm2) (ei_add (p := fun _ => True) (q := fun _ => True) (EF.ivp (ex_var (v := .int m2) rfl) trivial) (EF.ivp ex_c trivial) fun _ _ _ _ => trivial) (fun a ha => by omega) fun _ _ _ _ => trivial) (ei_mul (p := (· = 31)) (q := fun _ => True) (EF.iv ex_c) (EF.ivp (ex_var (v := .int kk) rfl) trivial) (fun a ha => by omega) fun _ _ _ _ => trivial) fun _ _ _ _ => trivial)) (EF.iv ex_c) (by omega) fun a _ => big _ (by omega) (by omega) a) fun v1 G5 H5 g5 ⟨m3, em3, hm3⟩ => ?_
      subst em3
      have eH : Ex H H5 := e2.trans (g3.hp.trans (g4.hp.trans g5.hp))
      exact st_ret (P := IV fun z => 0 ≤ z ∧ z < n) (hG.trans eH) (fin eH (ei_div (n := 9) (s := fun _ => True) (EF.iv (ex_var (v := .int m3) rfl)) (EF.iv ex_c) (by omega) (by omega) fun _ _ => trivial) (hG.trans eH) rfl) fun v G' H6 g p => k v G' H6 ((Gr.same hG eH).trans g) p
end
end Kx

set_option Elab.async false
set_option linter.all false
set_option maxRecDepth 100000
set_option maxHeartbeats 16000000
namespace Kx
open PySem L2 Lw
open Evl (Ex)
abbrev s_track : Stmt := top 23
theorem sc_track : FnScope ["_law_cell_here", "_law_most", "_law_size_here", "_law_lengths", "_law_parks", "_law_joints", "_law_block", "_law_turn", "_law_other", "_law_fits", "_law_pair"] ["_law_cell_here", "_law_most"] (defScope s_track) := ⟨rfl, rfl, rfl, by decide +kernel, rfl, by decide +kernel, by decide +kernel⟩
section
variable {P : Program} {w : World} {K : PySem.W.Frag} {mg : Str → Option Value} {base : Heap} {C : Addr} {f : Addr} {fd : FuncData}
theorem ok_track (B : Blt mg) (F : Fun K "_law_track" "_law_track" s_track f fd) (Cd : Cal P w K mg base "_law_draw" 1 ["_law_cell_here", "_law_k", "_law_size_here"] spDraw) : FnOk P w K mg base CX0 2 f fd ["_law_cell_here", "_law_most"] (spTrackB K) := by
  obtain ⟨f1, fd1, G_draw, m_draw, k_draw, b_draw⟩ := Cd
  have m_len := B.len
  have m_min := B.min
  have m_int := B.int
  have m_range := B.range
  refine F.ok sc_track (fun vs H Q E h => ?_) (fun cdv A outer s H vs Q E hr h => ?_)
  · obtain ⟨G, c, m, _, rfl, _⟩ := h
    rfl
  · obtain ⟨G, c, m, hG, rfl, hm1, hm2, k⟩ := h
    refine ⟨_, (pss_cons (ps_set (i := 2) sc_track.nd rfl (by first | exact Or.inl rfl | exact Or.inr rfl) (pe_op op_add pe_int (pe_call G_draw (hr.mono (by decide)) rfl m_draw k_draw b_draw .nil pass0 (pa_cons (pv 0) (pa_cons pe_int (pa_cons (pv 1) pa_nil))))))
 (pss_cons (ps_setLc (i := 3) (own := [("_law_block", 6)]) (g := (gName 6)) (tt := tYes) rfl sc_track.nd rfl rfl (sw_true rfl rfl rfl (by decide +kernel)) (pi_range1 rfl m_range (pa_cons (pv 2) pa_nil)) (blkOk_by (N := ["_law_cell_here", "_law_most", "_law_size_here", "_law_lengths", "_law_parks", "_law_joints", "_law_block", "_law_turn", "_law_other", "_law_fits", "_law_pair"]) (sc := defScope s_track) (by decide +kernel)) (fun _ _ _ _ _ => pg_name (i := 6) sc_track.nd rfl (Or.inl rfl)) (fun _ _ _ _ _ => pts_nil) (fun _ _ _ _ _ => (pe_op op_add pe_int (pe_call G_draw (hr.mono (by decide)) rfl m_draw k_draw b_draw .nil pass0 (pa_cons (pv 0) (pa_cons (pe_op op_add (pe_op op_mul pe_int (pv 6)) pe_int) (pa_cons pe_int pa_nil)))))))
 (pss_cons (ps_setLc (i := 4) (own := [("_law_block", 6)]) (g := (gName 6)) rfl sc_track.nd rfl rfl (sw_true rfl rfl rfl (by decide +kernel)) (pi_range1 rfl m_range (pa_cons (pv 2) pa_nil)) (blkOk_by (N := ["_law_cell_here", "_law_most", "_law_size_here", "_law_lengths", "_law_parks", "_law_joints", "_law_block", "_law_turn", "_law_other", "_law_fits", "_law_pair"]) (sc := defScope s_track) (by decide +kernel)) (fun _ _ _ _ _ => pg_name (i := 6) sc_track.nd rfl (Or.inl rfl)) (fun _ _ _ _ _ => pts_one (pt_cmpR op_eq (pe_call G_draw (hr.mono (by decide)) rfl m_draw k_draw b_draw .nil pass0 (pa_cons (pv 0) (pa_cons (pe_op op_add (pe_op op_mul pe_int (pv 6)) pe_int) (pa_cons pe_int pa_nil)))) pe_int (nomark _))) (fun _ _ _ _ _ => (pv 6)))
 (pss_cons (ps_set (i := 5) sc_track.nd rfl (by first | exact Or.inl rfl | exact Or.inr rfl) (pe_lst pa_nil))
 (pss_cons (ps_for PassesOwn.never rfl (pi_range2 rfl m_range (pa_cons pe_int (pa_cons (pv 2) pa_nil))) (pg_name (i := 6) sc_track.nd rfl (by first | exact Or.inl rfl | exact Or.inr rfl))
 (pss_one (ps_for PassesOwn.never rfl (pi_range1 rfl m_range (pa_cons pe_int pa_nil)) (pg_name (i := 7) sc_track.nd rfl (by first | exact Or.inl rfl | exact Or.inr rfl))
 (pss_cons (ps_set (i := 8) sc_track.nd rfl (by first | exact Or.inl rfl | exact Or.inr rfl) (pe_op op_sub (pe_op op_sub (pv 6) pe_int) (pe_call G_draw (hr.mono (by decide)) rfl m_draw k_draw b_draw .nil pass0 (pa_cons (pv 0) (pa_cons (pe_op op_add (pe_op op_add (pe_op op_mul pe_int (pv 6)) pe_int) (pv 7)) (pa_cons (pe_callB (call_min2 rfl) (by rfl) m_min (by decide +kernel) (pa_cons (pv 6) (pa_cons pe_int pa_nil))) pa_nil))))))
 (pss_cons (ps_set (i := 9) sc_track.nd rfl (by first | exact Or.inl rfl | exact Or.inr rfl) (pe_cmpR (op_notInD (hu65 hr)) (pe_tup (pa_cons (pv 8) (pa_cons (pv 6) pa_nil))) (pv 5) (by rfl)))
 (Evl.pss_cut (ps_if (PW.pt (pw_and (pt_cmpR (op_notInD (hu65 hr)) (pv 8) (pv 4) (by rfl)) (pw_and1 (pt_cmpR op_eq (pe_callB call_len_seq (by rfl) m_len PySem.boot_len (pa_cons (pe_lc (own := [("_law_pair", 10)]) (g := (gName 10)) (tt := (tTest (tOp rEq (tOp (rIxT K) (tVar 10) (tC (.int 0))) (tVar 8)))) rfl sc_track.nd (pi_list (pv 5)) (blkOk_by (N := ["_law_cell_here", "_law_most", "_law_size_here", "_law_lengths", "_law_parks", "_law_joints", "_law_block", "_law_turn", "_law_other", "_law_fits", "_law_pair"]) (sc := defScope s_track) (by decide +kernel)) (fun _ _ _ _ _ => pg_name (i := 10) sc_track.nd rfl (Or.inl rfl)) (fun _ _ _ _ _ => pts_one (pt_cmpR op_eq (pe_ix ix_tup (pv 10) pe_int (fun _ _ => rfl)) (pv 8) (nomark _))) (fun _ _ _ _ _ => (pv 10))) pa_nil)) pe_int (nomark _)))))
 (pss_one (ps_set (i := 9) sc_track.nd rfl (by first | exact Or.inl rfl | exact Or.inr rfl) pe_bl)) pss_nil)
 (Evl.pss_cut (ps_if (PW.pt (pw_and (pt_cmpR (op_notInD (hu65 hr)) (pv 6) (pv 4) (by rfl)) (pw_and1 (pt_cmpR op_eq (pe_callB call_len_seq (by rfl) m_len PySem.boot_len (pa_cons (pe_lc (own := [("_law_pair", 10)]) (g := (gName 10)) (tt := (tTest (tOp rEq (tOp (rIxT K) (tVar 10) (tC (.int 1))) (tVar 6)))) rfl sc_track.nd (pi_list (pv 5)) (blkOk_by (N := ["_law_cell_here", "_law_most", "_law_size_here", "_law_lengths", "_law_parks", "_law_joints", "_law_block", "_law_turn", "_law_other", "_law_fits", "_law_pair"]) (sc := defScope s_track) (by decide +kernel)) (fun _ _ _ _ _ => pg_name (i := 10) sc_track.nd rfl (Or.inl rfl)) (fun _ _ _ _ _ => pts_one (pt_cmpR op_eq (pe_ix ix_tup (pv 10) pe_int (fun _ _ => rfl)) (pv 6) (nomark _))) (fun _ _ _ _ _ => (pv 10))) pa_nil)) pe_int (nomark _)))))
 (pss_one (ps_set (i := 9) sc_track.nd rfl (by first | exact Or.inl rfl | exact Or.inr rfl) pe_bl)) pss_nil)
 (Evl.pss_cut (ps_if (PW.pt (pw_and (pt_cmpR op_eq (pv 7) pe_int (nomark _)) (pw_and1 (pt_cmpR op_eq (pe_call G_draw (hr.mono (by decide)) rfl m_draw k_draw b_draw .nil pass0 (pa_cons (pv 0) (pa_cons (pe_op op_add (pe_op op_mul pe_int (pv 6)) pe_int) (pa_cons pe_int pa_nil)))) pe_int (nomark _)))))
 (pss_one (ps_set (i := 9) sc_track.nd rfl (by first | exact Or.inl rfl | exact Or.inr rfl) pe_bl)) pss_nil)
 (pss_one (ps_if (pt_val (pv 9))
 (pss_one (ps_expr (pe_bm PySem.F.plainAttrs_list PySem.F.slot_list_append PySem.F.type_list_append mt_append (pv 5) (pa_cons (pe_tup (pa_cons (pv 8) (pa_cons (pv 6) pa_nil))) pa_nil)))) pss_nil))))))))))
 (pss_one (ps_ret (pe_tup (pa_cons (pv 3) (pa_cons (pv 5) (pa_cons (pv 4) pa_nil))))))))))), ?_⟩
    refine st_asg (P := IV fun z => 1 ≤ z ∧ z ≤ m) hG (ei_add (p := (· = 1)) (q := fun z => 0 ≤ z ∧ z < m) (EF.iv ex_c) (ei_draw (n := m) (EF.ivp (ex_var (v := .int c) rfl) trivial) (EF.ivp ex_c ⟨by omega, by omega⟩) (EF.iv (ex_var (v := .int m) rfl)) (by omega) (by omega)) fun a b ha hb => by omega) fun v1 G1 H1 g1 ⟨n, en, hn⟩ => ?_
    subst en
    have ea1 : ∀ {σ : L2.St} {G' : Hp}, σ[2]? = some (some (.int n)) → EA (tCons (tVar 2) tNil) σ G' fun vs _ => vs = [.int n] := fun h => (ea_one (ex_var h)).imp fun vs G' _ ⟨x, ev, hx⟩ => by rw [ev, show x = _ from hx]
    refine st_asg (P := DL fun ns => (ns.length : Int) = n ∧ ∀ z ∈ ns, 1 ≤ z) g1.ok (ef_lens (n := n) (ea1 rfl) (by omega) (fun x => rfl) fun i G' _ hi => ei_add (p := (· = 1)) (q := fun z => 0 ≤ z ∧ z < 9) (EF.iv ex_c) (ei_draw (n := 9) (EF.ivp (ex_var (v := .int c) rfl) trivial) ((ei_k5 (b := (i : Int)) rfl (by omega) (by omega)).ivw fun z hz => by omega) (EF.iv ex_c) (by omega) (by omega)) fun a b ha hb => by omega) fun v2 G2 H2 g2 p2 => ?_
    obtain ⟨a3, lens, rfl, _, hlens, d3⟩ := dl_dp p2
    refine st_asg (P := DL fun ns => (ns.length : Int) ≤ n ∧ ∀ z ∈ ns, 0 ≤ z ∧ z < n) g2.ok (ef_parks (n := n) (ea1 rfl) (by omega) (fun x => rfl) (fun x => rfl) fun i G' _ hi => et_test (ei_eq (s := fun _ => True) (ei_draw (n := 4) (EF.ivp (ex_var (v := .int c) rfl) trivial) ((ei_k5 (b := (i : Int)) rfl (by omega) (by omega)).ivw fun z hz => by omega) (EF.iv ex_c) (by omega) (by omega)) (EF.iv ex_c) fun _ _ _ _ => trivial)) fun v3 G3 H3 g3 p3 => ?_
    obtain ⟨a4, parks, rfl, _, hparks, d4⟩ := dl_dp p3
    have d3' := dpx d3 g3.up
    have gA : Gr G G3 H H3 := g1.trans (g2.trans g3)
    refine st_asg (P := fun v G' => ∃ q, v = .ref q ∧ G3 q = none ∧ G' q = some (.lst [])) g3.ok (ef_lst ea_nil (fun vs _ h => by rw [h]; simp) fun q vs G' _ h h' e => ⟨q, rfl, h, by rw [e]; exact upd_same⟩) fun v4 G4 H4 g4 p4 => ?_
    obtain ⟨p, rfl, gp0, gp1⟩ := p4
    have hp3 := g4.fresh gp0 gp1
    have hpH : H p = none := none_back gA.hp hp3
    refine st_forR2 (lo := 1) (n := n) (g3.ok.trans g4.hp) ((ea_two mo_XV mo_XV (ex_c (v := .int 1)) (ex_var (v := .int n) rfl)).imp fun vs G' _ ⟨x, y, ev, hx, hy⟩ => by rw [ev, show x = _ from hx, show y = _ from hy]) (by omega) (fun i σ' H' => (∃ v6 v7 v8 v9, σ' = [some (.int c), some (.int m), some (.int n), some (.ref a3), some (.ref a4), some (.ref p), v6, v7, v8, v9, none]) ∧ JSt K G3 H3 H' p n parks (2 * i) (fun _ => True)) (fun H' e => ⟨⟨none, none, none, none, rfl⟩, G3, [], [], (Gr.refl g3.ok).then (g4.hp.trans e), gp0, e _ _ (g4.ok _ _ gp1), .nil, .nil, Nat.zero_le _, trivial⟩) (fun i σ' H' hi hw => ?_) (fun σ' H5 hw => ?_)
    · obtain ⟨⟨v6, v7, v8, v9, rfl⟩, hJ⟩ := hw
      have hi' : (1 : Int) + (i : Int) < n := hi
      refine st_forR1 (n := 2) (Ex.refl H') ((ea_one (ex_c (v := .int 2))).imp fun vs G' _ ⟨x, ev, hx⟩ => by rw [ev, show x = _ from hx]) (by omega) (by omega) (fun t σ' H2' => (∃ u7 u8 u9, σ' = [some (.int c), some (.int m), some (.int n), some (.ref a3), some (.ref a4), some (.ref p), some (.int (1 + (i : Int))), u7, u8, u9, none]) ∧ JSt K G3 H3 H2' p n parks (2 * i + t) (fun _ => True)) (fun H2' e => ⟨⟨_, _, _, rfl⟩, hJ.up (e) (by omega) fun js h => trivial⟩) (fun t σ' Ht ht hw => ?_) (fun σ' H2' hw => ?_)
      · obtain ⟨⟨u7, u8, u9, rfl⟩, G5, xs, js, gJ, gp5, hp5, hx, hj, hl, hR⟩ := hw
        have hl9 : js.length ≤ 900 := by omega
        refine st_asg (P := IV fun z => 0 ≤ z ∧ z < 1 + (i : Int)) (Ex.refl Ht) (ei_sub (p := (· = 1 + (i : Int) - 1)) (q := fun z => 0 ≤ z ∧ z < (if (3 : Int) < 1 + (i : Int) then 3 else 1 + (i : Int))) (ei_sub (p := (· = 1 + (i : Int))) (q := (· = 1)) (EF.iv (ex_var rfl)) (EF.iv ex_c) fun a b ha hb => by rw [ha, hb]) (ei_draw (n := if (3 : Int) < 1 + (i : Int) then 3 else 1 + (i : Int)) (EF.ivp (ex_var (v := .int c) rfl) trivial) (ei_add (p := (· = 5 * (1 + (i : Int)) + 3)) (q := (· = (t : Int))) (ei_k5 (b := 1 + (i : Int)) rfl (by omega) (by omega)) (EF.iv (ex_var rfl)) fun a b ha hb => by omega) (ei_min (p := (· = 1 + (i : Int))) (q := (· = 3)) (EF.iv (ex_var rfl)) (EF.iv ex_c) fun a b ha hb => by rw [ha, hb]) (by split <;> omega) (by split <;> omega)) fun a b ha hb => by split at hb <;> omega) fun vo Go Ho go ⟨o, eo', ho⟩ => ?_
        subst eo'
        have hp6 := go.hp _ _ hp5
        have ePo : Ex (upd G5 p (.lst xs)) Ho := ex_know (gJ.ok.trans go.hp) hp6
        have xPo : DpAll K (upd G5 p (.lst xs)) xs (js.map dP) := dpax hx (ex_in gp5)
        refine st_asg (P := BV (· = decide ((o, 1 + (i : Int)) ∉ js))) ePo ((ed_niD (d := dP (o, 1 + (i : Int))) (ds := js.map dP) (ef_tup (ea_two mo_XV mo_XV (ex_var (v := .int o) rfl) (ex_var (v := .int (1 + (i : Int))) rfl)) (fun vs G' ⟨x, y, ev, _⟩ => by rw [ev]; simp) fun q vs G' _ _ _ ⟨x, y, ev, hx, hy⟩ => dp_mkT upd_same (by rw [ev, hx, hy]; exact .cons (.int _) (.cons (.int _) .nil))) (EF.dv (ex_var (v := .ref p) rfl) (dp_mkL upd_same xPo)) (sh_pair _) (sh_pairs _)).imp fun v _ _ ⟨b, e, hb⟩ => ⟨b, e, by rw [hb, any_pair]; simp⟩) fun vf Gf Hf gf ⟨fb, efb, hfb⟩ => ?_
        subst efb
        have hA : fb = true → 0 ≤ o ∧ o < 1 + (i : Int) ∧ (o, 1 + (i : Int)) ∉ js := fun z => ⟨ho.1, ho.2, of_decide_eq_true (by rw [← hfb]; exact z)⟩
        have eF : Ex Ht Hf := go.hp.trans gf.hp
        have sgE : ∀ (fb : Bool), ∃ σ : L2.St, σ = [some (.int c), some (.int m), some (.int n), some (.ref a3), some (.ref a4), some (.ref p), some (.int (1 + (i : Int))), some (.int (t : Int)), some (.int o), some (.bl fb), none] := fun fb => ⟨_, rfl⟩
        have crowdE : ∀ {H' : Hp} {fb : Bool}, Ex Ht H' → ET (tAnd (tTest (tOp (rNotInD K) (tVar 8) (tVar 4))) (tTest (tOp rEq (tCB (Evl.rLenS K) (tCons (tLc (iList K (tVar 5)) (gName 10) (tTest (tOp rEq (tOp (rIxT K) (tVar 10) (tC (.int 0))) (tVar 8))) (tVar 10) [10]) tNil)) (tC (.int 2))))) [some (.int c), some (.int m), some (.int n), some (.ref a3), some (.ref a4), some (.ref p), some (.int (1 + (i : Int))), some (.int (t : Int)), some (.int o), some (.bl fb), none] (upd G5 p (.lst xs)) (· = (!decide (o ∈ parks) && decide ((eo js o).length = 2))) := fun {H' fb} e =>
          et_crowd (b := true) (ex_var rfl) (EF.dv (ex_var (v := .ref a4) rfl) (dpx d4 (gJ.up.trans (ex_in gp5)))) (by have q := ef_cnt (K := K) (i0 := 0) (j := 10) (so := 8) (o := o) (sel := fun p => p.1) (σ := [some (.int c), some (.int m), some (.int n), some (.ref a3), some (.ref a4), some (.ref p), some (.int (1 + (i : Int))), some (.int (t : Int)), some (.int o), some (.bl fb), none]) (fun p => rfl) (ex_var (i := 5) (v := .ref p) rfl) (Evl.sq_of (upd_same (H := G5) (a := p))) (dpax hx (ex_in gp5)) (by omega) (fun x => rfl) (fun x => rfl) (fun x => rfl); rw [eo_len] at q; exact q)
        have crowdW : ∀ {H' : Hp} {fb : Bool}, Ex Ht H' → ET (tAnd (tTest (tOp (rNotInD K) (tVar 6) (tVar 4))) (tTest (tOp rEq (tCB (Evl.rLenS K) (tCons (tLc (iList K (tVar 5)) (gName 10) (tTest (tOp rEq (tOp (rIxT K) (tVar 10) (tC (.int 1))) (tVar 6))) (tVar 10) [10]) tNil)) (tC (.int 2))))) [some (.int c), some (.int m), some (.int n), some (.ref a3), some (.ref a4), some (.ref p), some (.int (1 + (i : Int))), some (.int (t : Int)), some (.int o), some (.bl fb), none] (upd G5 p (.lst xs)) (· = (!decide (1 + (i : Int) ∈ parks) && decide ((wo js (1 + (i : Int))).length = 2))) := fun {H' fb} e =>
          et_crowd (b := true) (ex_var rfl) (EF.dv (ex_var (v := .ref a4) rfl) (dpx d4 (gJ.up.trans (ex_in gp5)))) (by have q := ef_cnt (K := K) (i0 := 1) (j := 10) (so := 6) (o := 1 + (i : Int)) (sel := fun p => p.2) (σ := [some (.int c), some (.int m), some (.int n), some (.ref a3), some (.ref a4), some (.ref p), some (.int (1 + (i : Int))), some (.int (t : Int)), some (.int o), some (.bl fb), none]) (fun p => rfl) (ex_var (i := 5) (v := .ref p) rfl) (Evl.sq_of (upd_same (H := G5) (a := p))) (dpax hx (ex_in gp5)) (by omega) (fun x => rfl) (fun x => rfl) (fun x => rfl); rw [wo_len] at q; exact q)
        have know : ∀ {H' : Hp}, Ex Ht H' → Ex (upd G5 p (.lst xs)) H' := fun e => ex_know (gJ.ok.trans e) (e _ _ hp5)
        refine ⟨fun σ' H' => Ex Ht H' ∧ ∃ b, σ' = [some (.int c), some (.int m), some (.int n), some (.ref a3), some (.ref a4), some (.ref p), some (.int (1 + (i : Int))), some (.int (t : Int)), some (.int o), some (.bl b), none] ∧ (b = true → fb = true ∧ (o ∉ parks → (eo js o).length ≠ 2)), ?_, ?_⟩
        · refine st_if (know eF) (crowdE eF) (fun h H6 e6 => ?_) (fun h H6 e6 => ⟨eF.trans e6, fb, rfl, fun z => ⟨z, fun hp => ?_⟩⟩)
          · exact st_asg (P := XV (.bl false)) (Ex.refl H6) ex_c fun v G6 H7 g7 pv => ⟨eF.trans (e6.trans g7.hp), false, by rw [show v = _ from pv]; rfl, fun z => nomatch z⟩
          · have h' : (!decide (o ∈ parks) && decide ((eo js o).length = 2)) = false := h.symm
            rw [decide_eq_false hp] at h'
            exact of_decide_eq_false (by simpa using h')
        rintro σ6 H6 ⟨e6, b6, rfl, hb6⟩
        refine ⟨fun σ' H' => Ex Ht H' ∧ ∃ b, σ' = [some (.int c), some (.int m), some (.int n), some (.ref a3), some (.ref a4), some (.ref p), some (.int (1 + (i : Int))), some (.int (t : Int)), some (.int o), some (.bl b), none] ∧ (b = true → b6 = true ∧ (1 + (i : Int) ∉ parks → (wo js (1 + (i : Int))).length ≠ 2)), ?_, ?_⟩
        · refine st_if (know e6) (crowdW e6) (fun h H7 e7 => ?_) (fun h H7 e7 => ⟨e6.trans e7, b6, rfl, fun z => ⟨z, fun hp => ?_⟩⟩)
          · exact st_asg (P := XV (.bl false)) (Ex.refl H7) ex_c fun v G7 H8 g8 pv => ⟨e6.trans (e7.trans g8.hp), false, by rw [show v = _ from pv]; rfl, fun z => nomatch z⟩
          · have h' : (!decide (1 + (i : Int) ∈ parks) && decide ((wo js (1 + (i : Int))).length = 2)) = false := h.symm
            rw [decide_eq_false hp] at h'
            exact of_decide_eq_false (by simpa using h')
        rintro σ7 H7 ⟨e7, b7, rfl, hb7⟩
        refine ⟨fun σ' H' => Ex Ht H' ∧ ∃ b, σ' = [some (.int c), some (.int m), some (.int n), some (.ref a3), some (.ref a4), some (.ref p), some (.int (1 + (i : Int))), some (.int (t : Int)), some (.int o), some (.bl b), none] ∧ (b = true → b7 = true), ?_, ?_⟩
        · refine st_if (p := fun _ => True) (Ex.refl H7) (et_and (p := fun _ => True) (q := fun _ => True) (et_test (ei_eq (s := fun _ => True) (p := fun _ => True) (q := fun _ => True) (EF.ivp (ex_var (v := .int (t : Int)) rfl) trivial) (EF.ivp ex_c trivial) fun _ _ _ _ => trivial)) (fun _ => et_test (ei_eq (s := fun _ => True) (ei_draw (n := 3) (EF.ivp (ex_var (v := .int c) rfl) trivial) ((ei_k5 (b := 1 + (i : Int)) rfl (by omega) (by omega)).ivw fun z hz => by omega) (EF.iv ex_c) (by omega) (by omega)) (EF.iv ex_c) fun _ _ _ _ => trivial)) (fun _ _ _ => trivial) (fun _ => trivial)) (fun h H8 e8 => ?_) (fun h H8 e8 => ⟨e7.trans e8, b7, rfl, fun z => z⟩)
          exact st_asg (P := XV (.bl false)) (Ex.refl H8) ex_c fun v G8 H9 g9 pv => ⟨e7.trans (e8.trans g9.hp), false, by rw [show v = _ from pv]; rfl, fun z => nomatch z⟩
        rintro σ8 H8 ⟨e8, b8, rfl, hb8⟩
        refine st_if (p := (· = b8)) (Ex.refl H8) (et_B (EF.bl (ex_var (v := .bl b8) rfl) rfl)) (fun z H9 e9 => ?_) (fun _ H9 e9 => ⟨⟨_, _, _, rfl⟩, G5, xs, js, gJ.then (e8.trans e9), gp5, e9 _ _ (e8 _ _ hp5), hx, hj, by omega, trivial⟩)
        have z := z.symm
        have eT : Ex Ht H9 := e8.trans e9
        have C2 := (hb7 (hb8 z))
        have C1 := hb6 C2.1
        have C0 := hA C1.1
        refine st_app (P := fun v G' => Dp K G' v (dP (o, 1 + (i : Int)))) (gJ.ok.trans eT) (eT _ _ hp5) (ex_var (v := .ref p) rfl) (ef_tup (ea_two mo_XV mo_XV (ex_var (v := .int o) rfl) (ex_var (v := .int (1 + (i : Int))) rfl)) (fun vs G' ⟨x, y, ev, _⟩ => by rw [ev]; simp) fun q vs G' _ _ _ ⟨x, y, ev, hx, hy⟩ => dp_mkT upd_same (by rw [ev, hx, hy]; exact .cons (.int _) (.cons (.int _) .nil))) (by rw [dpa_len hx, List.length_map]; omega) fun v Ga Ha ga pv => ?_
        have gpa : Ga p = none := ga.2.2.2 p (ne_none_of (eT _ _ hp5)) gp5
        refine ⟨⟨_, _, _, rfl⟩, Ga, xs ++ [v], js ++ [(o, 1 + (i : Int))], ((gJ.then eT).trans ga).put hp3 gpa, gpa, upd_same, ?_, .snoc hj ⟨C0.1, C0.2.1, hi', C0.2.2, C1.2, C2.2⟩, ?_, trivial⟩
        · rw [List.map_append]
          exact dpa_snoc (dpax hx ga.up) pv
        · rw [List.length_append, List.length_singleton]
          omega
      · obtain ⟨⟨u7, u8, u9, rfl⟩, hJ2⟩ := hw
        exact ⟨⟨_, _, _, _, rfl⟩, hJ2.up (Ex.refl _) (by simp; omega) fun js h => trivial⟩
    obtain ⟨⟨v6, v7, v8, v9, rfl⟩, G5, xs, js, gJ, gp5, hp5, hx, hj, hl, _⟩ := hw
    have eP : Ex (upd G5 p (.lst xs)) H5 := ex_know gJ.ok hp5
    have g35 : Ex G3 (upd G5 p (.lst xs)) := gJ.up.trans (ex_in gp5)
    dsimp only
    refine st_ret (P := TVB K m) eP (ef_tup (R := fun vs G' => ∃ x y z, vs = [x, y, z] ∧ DV K (dI lens) x G' ∧ DV K (dPs js) y G' ∧ DV K (dI parks) z G') (ea_three mo_DV mo_DV mo_DV (EF.dv (ex_var (v := .ref a3) rfl) (dpx d3' g35)) (EF.dv (ex_var (v := .ref p) rfl) (dp_mkL upd_same (dpax hx (ex_in gp5)))) (EF.dv (ex_var (v := .ref a4) rfl) (dpx d4 g35))) (fun vs G' ⟨x, y, z, ev, _⟩ => by rw [ev]; simp) fun q vs G' _ _ hq ⟨x, y, z, ev, hx, hy, hz⟩ => ?_) fun v G6 H6 g6 p6 => k v G6 H6 (((gA.trans gJ).know hG hpH hp5).trans g6) p6
    refine ⟨⟨lens, js, parks⟩, ⟨by show 1 ≤ lens.length; omega, by show lens.length ≤ 200; omega, hlens.2, by show parks.length ≤ 200; omega, fun b hb => ?_, by show js.length ≤ 900; omega, ?_⟩, by show (lens.length : Int) ≤ m; omega, by show js.length ≤ 2 * lens.length; omega, dp_mkT upd_same ?_⟩
    · show 0 ≤ b ∧ b < (lens.length : Int)
      rw [hlens.1]
      exact hparks.2 b hb
    · show JOk (lens.length : Int) parks js
      rw [hlens.1]
      exact hj
    · rw [ev]
      exact .cons (dpx hx (ex_in hq)) (.cons (dpx hy (ex_in hq)) (.cons (dpx hz (ex_in hq)) .nil))
end
end Kx

set_option Elab.async false
set_option linter.all false
set_option maxRecDepth 100000
set_option maxHeartbeats 8000000
namespace Kx
open PySem L2 Lw
open Evl (Ex)
abbrev s_line : Stmt := top 27
theorem sc_line : FnScope ["_law_cell_here", "_law_size_here", "_law_lengths", "_law_block"] ["_law_cell_here"] (defScope s_line) := ⟨rfl, rfl, rfl, by decide +kernel, rfl, by decide +kernel, by decide +kernel⟩
abbrev s_way : Stmt := top 24
theorem sc_way : FnScope ["_law_track_here", "_law_cell_here", "_law_way_here", "_law_turn", "_law_nexts", "_law_pair"] ["_law_track_here", "_law_cell_here"] (defScope s_way) := ⟨rfl, rfl, rfl, by decide +kernel, rfl, by decide +kernel, by decide +kernel⟩
section
variable {P : Program} {w : World} {K : PySem.W.Frag} {mg : Str → Option Value} {base : Heap} {f : Addr} {fd : FuncData}
def spLine (K : PySem.W.Frag) : Sp := fun vs H Q _ => ∃ (G : Hp) (c : Int), Ex G H ∧ vs = [.int c] ∧ Ret G H (TV K 60) Q
theorem sa_line {G : Hp} {c : Int} : SA (spLine K) [.int c] G (TV K 60) := fun H e Q _ q => ⟨G, c, e, rfl, q⟩
theorem ok_line (B : Blt mg) (F : Fun K "_law_line" "_law_line" s_line f fd) (Cd : Cal P w K mg base "_law_draw" 1 ["_law_cell_here", "_law_k", "_law_size_here"] spDraw) : FnOk P w K mg base CX0 2 f fd ["_law_cell_here"] (spLine K) := by
  obtain ⟨f1, fd1, G_draw, m_draw, k_draw, b_draw⟩ := Cd
  have m_range := B.range
  refine F.ok sc_line (fun vs H Q E h => ?_) (fun cdv A outer s H vs Q E hr h => ?_)
  · obtain ⟨G, c, _, rfl, _⟩ := h
    rfl
  · obtain ⟨G, c, hG, rfl, k⟩ := h
    refine ⟨_, (pss_cons (ps_set (i := 1) sc_line.nd rfl (by first | exact Or.inl rfl | exact Or.inr rfl) (pe_op op_add pe_int (pe_call G_draw (hr.mono (by decide)) rfl m_draw k_draw b_draw .nil pass0 (pa_cons (pv 0) (pa_cons pe_int (pa_cons pe_int pa_nil))))))
 (pss_cons (ps_setLc (i := 2) (own := [("_law_block", 3)]) (g := (gName 3)) (tt := tYes) rfl sc_line.nd rfl rfl (sw_true rfl rfl rfl (by decide +kernel)) (pi_range1 rfl m_range (pa_cons (pv 1) pa_nil)) (blkOk_by (N := ["_law_cell_here", "_law_size_here", "_law_lengths", "_law_block"]) (sc := defScope s_line) (by decide +kernel)) (fun _ _ _ _ _ => pg_name (i := 3) sc_line.nd rfl (Or.inl rfl)) (fun _ _ _ _ _ => pts_nil) (fun _ _ _ _ _ => (pe_op op_add pe_int (pe_call G_draw (hr.mono (by decide)) rfl m_draw k_draw b_draw .nil pass0 (pa_cons (pv 0) (pa_cons (pe_op op_add (pv 3) pe_int) (pa_cons pe_int pa_nil)))))))
 (pss_one (ps_ret (pe_tup (pa_cons (pv 2) (pa_cons (pe_lc (own := [("_law_block", 3)]) (g := (gName 3)) (tt := tYes) rfl sc_line.nd (pi_range1 rfl m_range (pa_cons (pe_op op_sub (pv 1) pe_int) pa_nil)) (blkOk_by (N := ["_law_cell_here", "_law_size_here", "_law_lengths", "_law_block"]) (sc := defScope s_line) (by decide +kernel)) (fun _ _ _ _ _ => pg_name (i := 3) sc_line.nd rfl (Or.inl rfl)) (fun _ _ _ _ _ => pts_nil) (fun _ _ _ _ _ => (pe_tup (pa_cons (pv 3) (pa_cons (pe_op op_add (pv 3) pe_int) pa_nil))))) (pa_cons (pe_lst pa_nil) pa_nil)))))))), ?_⟩
    refine st_asg (P := IV fun z => 20 ≤ z ∧ z ≤ 60) hG (ei_add (p := (· = 20)) (q := fun z => 0 ≤ z ∧ z < 41) (EF.iv ex_c) (ei_draw (n := 41) (EF.ivp (ex_var (v := .int c) rfl) trivial) (EF.ivp ex_c ⟨by omega, by omega⟩) (EF.iv ex_c) (by omega) (by omega)) fun a b ha hb => by omega) fun v1 G1 H1 g1 ⟨n, en, hn⟩ => ?_
    subst en
    have ea1 : ∀ {σ : L2.St} {G' : Hp}, σ[1]? = some (some (.int n)) → EA (tCons (tVar 1) tNil) σ G' fun vs _ => vs = [.int n] := fun h => (ea_one (ex_var h)).imp fun vs G' _ ⟨x, ev, hx⟩ => by rw [ev, show x = _ from hx]
    have ea2 : ∀ {σ : L2.St} {G' : Hp}, σ[1]? = some (some (.int n)) → EA (tCons (tOp (rI0 fun i j => .int (i - j)) (tVar 1) (tC (.int 1))) tNil) σ G' fun vs _ => vs = [.int (n - 1)] := fun h => (ea_one (ex_sub (ex_var h) (ex_c (v := .int 1)))).imp fun vs G' _ ⟨x, ev, hx⟩ => by rw [ev, show x = _ from hx]
    refine st_asg (P := DL fun ns => (ns.length : Int) = n ∧ ∀ z ∈ ns, 1 ≤ z) g1.ok (ef_lens (n := n) (ea1 rfl) (by omega) (fun x => rfl) fun i G' _ hi => ei_add (p := (· = 1)) (q := fun z => 0 ≤ z ∧ z < 9) (EF.iv ex_c) (ei_draw (n := 9) (EF.ivp (ex_var (v := .int c) rfl) trivial) (EF.ivp (ex_add (ex_var (v := .int (i : Int)) rfl) (ex_c (v := .int 1))) ⟨by omega, by omega⟩) (EF.iv ex_c) (by omega) (by omega)) fun a b ha hb => by omega) fun v2 G2 H2 g2 p2 => ?_
    obtain ⟨a3, lens, rfl, _, hlens, d3⟩ := dl_dp p2
    have gA := g1.trans g2
    dsimp only
    refine st_ret (P := TV K 60) g2.ok (ef_tup (ea_three (Pa := DV K (dI lens)) (Pb := DV K (dPs (lineJ (n - 1).toNat))) (Pc := LS K []) mo_DV mo_DV mo_LS (EF.dv (ex_var (v := .ref a3) rfl) d3) (ef_lineJ (n := n - 1) (ea2 rfl) (by omega) (fun x => rfl) fun i G' _ hi => ef_pairI (ex_var rfl) (ex_add (ex_var (v := .int (i : Int)) rfl) (ex_c (v := .int 1)))) (el_lst ea_nil (by simp) fun vs G' _ h => by rw [h]; exact .nil)) (fun vs G' ⟨x, y, z, ev, _⟩ => by rw [ev]; simp) fun q vs G' _ hq _ ⟨x, y, z, ev, hx, hy, hz⟩ => ?_) fun v G' H' g p => k v G' H' (gA.trans g) p
    have e1 : (n - 1).toNat < lens.length := by omega
    refine ⟨⟨lens, lineJ (n - 1).toNat, []⟩, ⟨by show 1 ≤ lens.length; omega, by show lens.length ≤ 200; omega, hlens.2, Nat.zero_le _, (fun b m => nomatch m), by show (lineJ (n - 1).toNat).length ≤ 900; rw [lineJ_len]; omega, lineJ_ok _ _ _ (by show (((n - 1).toNat : Nat) : Int) < (lens.length : Int); omega)⟩, by show (lens.length : Int) ≤ 60; omega, dp_mkT upd_same ?_⟩
    have ei := ex_in (o := .tup vs) ‹G' q = none›
    rw [ev] at ei ⊢
    exact .cons (dpx hx ei) (.cons (dpx hy ei) (.cons (dpx hz.dp ei) .nil))
def WayP (t : Trk) (r : List Int) : Prop := r.length ≤ 201 ∧ 1 ≤ r.length ∧ ∀ b ∈ r, 0 ≤ b ∧ b < (t.lens.length : Int)
theorem WayP.rev {t : Trk} {r : List Int} (h : WayP t r) : WayP t r.reverse := ⟨by rw [List.length_reverse]; exact h.1, by rw [List.length_reverse]; exact h.2.1, fun b m => h.2.2 b (List.mem_reverse.mp m)⟩
def spWay (K : PySem.W.Frag) : Sp := fun vs H Q _ => ∃ (G : Hp) (x : V) (t : Trk) (c : Int), Ex G H ∧ vs = [x, .int c] ∧ Dp K G x (dT t) ∧ TrkOk t ∧ Ret G H (WL K (WayP t)) Q
theorem ok_way (B : Blt mg) (m_reversed : mg "reversed" = none) (F : Fun K "_law_way" "_law_way" s_way f fd) (Cd : Cal P w K mg base "_law_draw" 1 ["_law_cell_here", "_law_k", "_law_size_here"] spDraw) : FnOk P w K mg base CX0 2 f fd ["_law_track_here", "_law_cell_here"] (spWay K) := by
  obtain ⟨f1, fd1, G_draw, m_draw, k_draw, b_draw⟩ := Cd
  have m_len := B.len
  have m_list := B.list
  have m_range := B.range
  have m_sorted := B.sorted
  refine F.ok sc_way (fun vs H Q E h => ?_) (fun cdv A outer s H vs Q E hr h => ?_)
  · obtain ⟨G, x, t, c, _, rfl, _⟩ := h
    rfl
  · obtain ⟨G, x, t, c, hG, rfl, dx, hT, k⟩ := h
    refine ⟨_, (pss_cons (ps_set (i := 2) sc_way.nd rfl (by first | exact Or.inl rfl | exact Or.inr rfl) (pe_lst (pa_cons (pe_call G_draw (hr.mono (by decide)) rfl m_draw k_draw b_draw .nil pass0 (pa_cons (pv 1) (pa_cons pe_int (pa_cons (pe_callB call_len_seq (by rfl) m_len PySem.boot_len (pa_cons (pe_ix ix_tup (pv 0) pe_int (fun _ _ => rfl)) pa_nil)) pa_nil)))) pa_nil)))
 (pss_cons (ps_for PassesOwn.never rfl (pi_range1 rfl m_range (pa_cons (pe_op op_add pe_int (pe_call G_draw (hr.mono (by decide)) rfl m_draw k_draw b_draw .nil pass0 (pa_cons (pv 1) (pa_cons pe_int (pa_cons (pe_callB call_len_seq (by rfl) m_len PySem.boot_len (pa_cons (pe_ix ix_tup (pv 0) pe_int (fun _ _ => rfl)) pa_nil)) pa_nil))))) pa_nil)) (pg_name (i := 3) sc_way.nd rfl (by first | exact Or.inl rfl | exact Or.inr rfl))
 (pss_cons (ps_set (i := 4) sc_way.nd rfl (by first | exact Or.inl rfl | exact Or.inr rfl) (pe_callB cr_sortedI (by rfl) m_sorted (by decide +kernel) (pa_cons (pe_lc (own := [("_law_pair", 5)]) (g := (gName 5)) (tt := (tTest (tOp rEq (tOp (rIxT K) (tVar 5) (tC (.int 0))) (tOp (rIxL K) (tVar 2) (tUn (rU fun i => .int (-i)) (tC (.int 1))))))) (te := (tOp (rIxT K) (tVar 5) (tC (.int 1)))) rfl sc_way.nd (pi_list (pe_ix ix_tup (pv 0) pe_int (fun _ _ => rfl))) (blkOk_by (N := ["_law_track_here", "_law_cell_here", "_law_way_here", "_law_turn", "_law_nexts", "_law_pair"]) (sc := defScope s_way) (by decide +kernel)) (fun _ _ _ _ _ => pg_name (i := 5) sc_way.nd rfl (Or.inl rfl)) (fun _ _ _ _ _ => pts_one (pt_cmpR op_eq (pe_ix ix_tup (pv 5) pe_int (fun _ _ => rfl)) (pe_ix ix_list (pv 2) (pe_un un_neg pe_int) (fun _ _ => rfl)) (nomark _))) (fun _ _ _ _ _ => (pe_ix ix_tup (pv 5) pe_int (fun _ _ => rfl)))) pa_nil)))
 (pss_one (ps_if (pt_cmpR op_gt (pe_callB call_len_seq (by rfl) m_len PySem.boot_len (pa_cons (pv 4) pa_nil)) pe_int (nomark _))
 (pss_one (ps_expr (pe_bm PySem.F.plainAttrs_list PySem.F.slot_list_append PySem.F.type_list_append mt_append (pv 2) (pa_cons (pe_ix ix_list (pv 4) (pe_call G_draw (hr.mono (by decide)) rfl m_draw k_draw b_draw .nil pass0 (pa_cons (pv 1) (pa_cons (pe_op op_add pe_int (pv 3)) (pa_cons (pe_callB call_len_seq (by rfl) m_len PySem.boot_len (pa_cons (pv 4) pa_nil)) pa_nil)))) (fun _ _ => rfl)) pa_nil)))) pss_nil))))
 (pss_cons (ps_if (pt_cmpR op_eq (pe_call G_draw (hr.mono (by decide)) rfl m_draw k_draw b_draw .nil pass0 (pa_cons (pv 1) (pa_cons pe_int (pa_cons pe_int pa_nil)))) pe_int (nomark _))
 (pss_one (ps_ret (pe_lstRev rfl (by rfl) m_list (by rfl) m_reversed (pv 2)))) pss_nil)
 (pss_one (ps_ret (pv 2)))))), ?_⟩
    obtain ⟨a, xs, rfl, hs, hd⟩ := dp_tup dx
    obtain ⟨v1, hv1, d1⟩ := dpa_get' (i := 1) (d := dPs t.joints) hd rfl
    obtain ⟨a1, xs1, rfl, s1, x1⟩ := dp_lst d1
    have few := hT.fewJ
    have few2 := hT.few
    have pos := hT.pos
    have tk : ∀ {σ : L2.St} {G' : Hp}, Ex G G' → σ[0]? = some (some (.ref a)) → EF (tOp (rIxT K) (tVar 0) (tC (.int 1))) σ G' (XV (.ref a1)) := fun e h => ex_ixT (i := 1) (ex_var h) ex_c (Evl.ex_t e hs) hv1
    have lnv : ∀ {σ : L2.St} {G' : Hp}, Ex G G' → σ[0]? = some (some (.ref a)) → EF (tCB (Evl.rLenS K) (tCons (tOp (rIxT K) (tVar 0) (tC (.int 0))) tNil)) σ G' (IV (· = (t.lens.length : Int))) := fun e h => EF.iv ((ex_lenD (ed_t0 h (dpx dx e))).imp fun v _ _ p => by rw [show v = _ from p, List.length_map]; rfl)
    have cv : ∀ {σ : L2.St} {G' : Hp}, σ[1]? = some (some (.int c)) → EF (tVar 1) σ G' (IV fun _ => True) := fun h => EF.ivp (ex_var h) trivial
    refine st_asg (P := fun v G' => ∃ q z, v = .ref q ∧ G q = none ∧ G' q = some (.lst [.int z]) ∧ 0 ≤ z ∧ z < (t.lens.length : Int)) hG (ef_lst (ea_one (ei_draw (n := (t.lens.length : Int)) (cv rfl) (EF.ivp ex_c ⟨by omega, by omega⟩) (lnv (Ex.refl G) rfl) (by omega) (by omega))) (fun vs G' ⟨x, ev, _⟩ => by rw [ev]; simp) fun q vs G' _ h h' ⟨x, ev, z, ez, hz⟩ => ⟨q, z, rfl, h, by rw [ev, ez]; exact upd_same, hz⟩) fun v3 G3 H3 g3 p3 => ?_
    obtain ⟨q, z0, rfl, q2, q3, hz0⟩ := p3
    have hqH : H q = none := g3.fresh q2 q3
    have hq3 := g3.hp
    have hq4 := g3.ok _ _ q3
    refine st_forRE (N := (t.lens.length : Int)) (hG.trans g3.hp) ((ea_one (ei_add (p := (· = 1)) (q := fun z => 0 ≤ z ∧ z < (t.lens.length : Int)) (s := fun z => 0 ≤ z ∧ z ≤ (t.lens.length : Int)) (EF.iv ex_c) (ei_draw (n := (t.lens.length : Int)) (cv rfl) (EF.ivp ex_c ⟨by omega, by omega⟩) (lnv (Ex.refl G) rfl) (by omega) (by omega)) fun a b ha hb => by omega)).imp fun vs G' _ ⟨x, ev, z, ez, hz⟩ => ⟨z, by rw [ev, ez], hz⟩) (by omega) (fun i σ' H' => (∃ v3 v4, σ' = [some (.ref a), some (.int c), some (.ref q), v3, v4, none]) ∧ ∃ (G' : Hp) (ns : List Int), Gr G G' H H' ∧ G' q = none ∧ H' q = some (.lst (ns.map V.int)) ∧ 1 ≤ ns.length ∧ ns.length ≤ 1 + i ∧ ∀ b ∈ ns, 0 ≤ b ∧ b < (t.lens.length : Int)) (fun H' e => ?_) (fun i σ' H' hi hw => ?_) (fun i σ' H' hi hw => ?_)
    · exact ⟨⟨_, _, rfl⟩, G, [z0], Gr.same hG (g3.hp.trans e), q2, e _ _ hq4, by simp, by simp, fun b m => by rw [List.mem_singleton.mp m]; exact hz0⟩
    · obtain ⟨⟨u3, u4, rfl⟩, G', ns, gA, gAq, hAq, hl1, hl2, hin⟩ := hw
      have eK : Ex (upd G' q (.lst (ns.map V.int))) H' := ex_know gA.ok hAq
      have gK : Ex G (upd G' q (.lst (ns.map V.int))) := gA.up.trans (ex_in gAq)
      obtain ⟨wl, hwl⟩ : ∃ wl, ns[ns.length - 1]? = some wl := ⟨ns[ns.length - 1], List.getElem?_eq_getElem (by omega)⟩
      have hsq : SqL K (upd G' q (.lst (ns.map V.int))) q (ns.map V.int) := Evl.sq_of upd_same
      refine st_asg (P := fun v G2 => ∃ (r : Addr) (ms : List Int), v = .ref r ∧ (upd G' q (.lst (ns.map V.int))) r = none ∧ G2 r = some (.lst (ms.map V.int)) ∧ ∃ ns0, ms.Perm ns0 ∧ ns0.length ≤ 900 ∧ ∀ b ∈ ns0, 0 ≤ b ∧ b < (t.lens.length : Int)) eK (ef_sortE ?_) fun vn Gn Hn gn pn => ?_
      · refine ef_lcL (xs := xs1) (fun i acc G' => ∃ ms : List Int, acc = ms.map V.int ∧ ∀ b ∈ ms, 0 ≤ b ∧ b < (t.lens.length : Int)) ((tk gK rfl).imp fun v G' e p => ⟨a1, p, Evl.ex_l (gK.trans e) s1⟩) (by have := dpa_len x1; rw [List.length_map] at this; omega) (fun x => rfl) (fun G' _ => ⟨[], rfl, fun b m => nomatch m⟩) (fun i x acc G2 e2 hi ⟨ms, ea, hm⟩ => ?_) (fun p acc G2 _ _ _ hle ⟨ms, ea, hm⟩ => ⟨p, ms, rfl, by rw [upd_same, ea], by have z1 := dpa_len x1; rw [List.length_map] at z1; rw [ea, List.length_map] at hle; omega, hm⟩)
        obtain ⟨d, hd1, dy⟩ := dpa_get x1 hi
        rw [List.getElem?_map] at hd1
        obtain ⟨o, ho, rfl⟩ := Option.map_eq_some_iff.mp hd1
        have dy2 := dpx dy (gK.trans e2)
        exact ec_if (p := (· = decide (o.1 = wl))) (et_eqI (ep0 rfl dy2) (ex_ixLast (ex_var (v := .ref q) rfl) (ex_neg (z := 1)) (Evl.ex_l e2 hsq) (by rw [List.length_map, List.getElem?_map, hwl]; rfl))) (fun hb => (ep1 rfl dy2).imp fun v G3 _ hv => ⟨ms ++ [o.2], by rw [ea, List.map_append, show v = _ from hv]; rfl, fun b m => by
          rcases List.mem_append.mp m with m | m
          · exact hm b m
          · have := hT.js.mem (List.mem_of_getElem? ho)
            rw [List.mem_singleton.mp m]
            omega⟩) (fun _ => ⟨ms, ea, hm⟩)
      · obtain ⟨r, ms, rfl, r1, r2, ns0, hperm, h900, hin0⟩ := pn
        have gF := gn.forget gAq
        have rq : r ≠ q := fun z => by rw [z, upd_same] at r1; cases r1
        have r3 : dropA Gn q r = some (.lst (ms.map V.int)) := by rw [dropA_ne rq]; exact r2
        have gB := gA.trans gF
        have hBq := gn.hp _ _ hAq
        have lenv : EF (tCB (Evl.rLenS K) (tCons (tVar 4) tNil)) [some (.ref a), some (.int c), some (.ref q), some (.int (i : Int)), some (.ref r), none] (dropA Gn q) (IV (· = (ms.length : Int))) := (ed_lenL (EF.dv (ex_var (v := .ref r) rfl) (dp_mkL r3 (dpa_ints ms)))).ivw fun z hz => by rw [hz, List.length_map]
        refine st_if (p := (· = decide ((ms.length : Int) > 0))) gF.ok (et_test (ec_int (f := fun i j => decide (i > j)) lenv (EF.iv ex_c) fun x y hx hy => by rw [hx, hy])) (fun h H5 e5 => ?_) (fun h H5 e5 => ?_)
        · have hpos := of_decide_eq_true h.symm
          have hml : ms.length = ns0.length := hperm.length_eq
          refine st_app (P := IV fun m => 0 ≤ m ∧ m < (t.lens.length : Int)) (gF.ok.trans e5) (e5 _ _ hBq) (ex_var (v := .ref q) rfl) (ed_ixL (ds := ms.map PyData.int) (q := fun z => 0 ≤ z ∧ z < (ms.length : Int)) (EF.dv (ex_var (v := .ref r) rfl) (dp_mkL r3 (dpa_ints ms))) (ei_draw (n := (ms.length : Int)) (cv rfl) (ei_add (p := (· = 3)) (q := (· = (i : Int))) (EF.iv ex_c) (EF.iv (ex_var rfl)) fun a b ha hb => by rw [ha, hb]; exact ⟨by omega, by omega⟩) lenv (by omega) (by omega)) fun z hz => ?_) (by rw [List.length_map]; omega) fun v Gb Hb gb pv => ?_
          · have hj : z.toNat < ms.length := by omega
            exact ⟨z.toNat, .int ms[z.toNat], by omega, by rw [List.getElem?_map, List.getElem?_eq_getElem hj]; rfl, fun v G' d => by cases d; exact ⟨_, rfl, hin0 _ (hperm.mem_iff.mp (List.getElem_mem hj))⟩⟩
          · obtain ⟨m, rfl, hm⟩ := pv
            have gbq : Gb q = none := gb.2.2.2 q (ne_none_of (e5 _ _ hBq)) dropA_same
            refine ⟨⟨_, _, rfl⟩, Gb, ns ++ [m], ((gB.then e5).trans gb).put hqH gbq, gbq, by rw [upd_same, List.map_append]; rfl, by rw [List.length_append]; omega, by rw [List.length_append, List.length_singleton]; omega, fun b mb => by
              rcases List.mem_append.mp mb with mb | mb
              · exact hin b mb
              · rw [List.mem_singleton.mp mb]; exact hm⟩
        · exact ⟨⟨_, _, rfl⟩, dropA Gn q, ns, gB.then e5, dropA_same, e5 _ _ hBq, hl1, by omega, hin⟩
    · obtain ⟨⟨u3, u4, rfl⟩, G', ns, gA, gAq, hAq, hl1, hl2, hin⟩ := hw
      have hWP : WayP t ns := ⟨by omega, by omega, hin⟩
      dsimp only
      refine st_if (p := fun _ => True) gA.ok (et_test (ei_eq (s := fun _ => True) (ei_draw (n := 2) (cv rfl) (EF.ivp ex_c ⟨by omega, by omega⟩) (EF.iv ex_c) (by omega) (by omega)) (EF.iv ex_c) fun _ _ _ _ => trivial)) (fun _ H5 e5 => ?_) (fun _ H5 e5 => ?_)
      · refine st_ret (P := WL K (WayP t)) ((ex_know gA.ok hAq).trans e5) (EF.wl <| er_rev (p := WayP t) (ef_var (v := .ref q) rfl ⟨ns, hWP, q, _, rfl, upd_same, dpa_ints ns⟩) fun x h => h.rev) fun v G2 H2 g2 p2 => k v G2 H2 (((gA.know hG hqH hAq).then e5).trans g2) p2
      · refine st_ret (P := WL K (WayP t)) ((ex_know gA.ok hAq).trans e5) (EF.wl <| ef_var (P := RL K (WayP t)) (v := .ref q) rfl ⟨ns, hWP, q, _, rfl, upd_same, dpa_ints ns⟩) fun v G2 H2 g2 p2 => k v G2 H2 (((gA.know hG hqH hAq).then e5).trans g2) p2
end
end Kx

set_option Elab.async false
set_option linter.all false
set_option maxRecDepth 100000
set_option maxHeartbeats 8000000
namespace Kx
open PySem L2 Lw
open Evl (Ex)
abbrev s_same : Stmt := top 22
theorem sc_same : FnScope ["_law_actual", "_law_wanted", "_law_k"] ["_law_actual", "_law_wanted"] (defScope s_same) := ⟨rfl, rfl, rfl, by decide +kernel, rfl, by decide +kernel, by decide +kernel⟩
section
variable {P : Program} {w : World} {K : PySem.W.Frag} {mg : Str → Option Value} {base : Heap} {C : Addr} {f : Addr} {fd : FuncData}
theorem ok_same0 (B : Blt mg) (F : Fun K "_law_same" "_law_same" s_same f fd) : FnOk P w K mg base CX0 1 f fd ["_law_actual", "_law_wanted"] (spSameB K 0) := by
  have m_len := B.len
  have m_range := B.range
  have m_isinstance := B.isinstance
  have m_int := B.int
  have m_str := B.str
  have m_bool := B.bool
  have m_list := B.list
  have m_tuple := B.tuple
  refine F.ok sc_same (fun vs H Q E h => ?_) (fun cdv A outer s H vs Q E hr h => ?_)
  · obtain ⟨G, x, y, d, _, rfl, _⟩ := h
    rfl
  · obtain ⟨G, x, y, d, hG, rfl, dx, dy, ok, k⟩ := h
    refine ⟨_, (pss_cons (ps_if (pt_cmpR op_isN (pv 1) pe_non (nomark _))
 (pss_one (ps_ret (pe_cmpR op_isN (pv 0) pe_non (nomark _)))) pss_nil)
 (pss_cons (ps_if (pt_cmpR (op_isC (c := true)) (pv 1) pe_bl (nomark _))
 (pss_one (ps_ret (pe_cmpR (op_isC (c := true)) (pv 0) pe_bl (nomark _)))) pss_nil)
 (pss_cons (ps_if (pt_cmpR (op_isC (c := false)) (pv 1) pe_bl (nomark _))
 (pss_one (ps_ret (pe_cmpR (op_isC (c := false)) (pv 0) pe_bl (nomark _)))) pss_nil)
 (pss_cons (ps_if (pt_val (pe_callB call_isi (by rfl) m_isinstance (by decide +kernel) (pa_cons (pv 1) (pa_cons (pe_bltn (v := .ty "int") (u := .type "int") rfl m_int (by decide +kernel) rfl) pa_nil))))
 (pss_one (ps_ret (pe_and (pe_callB call_isi (by rfl) m_isinstance (by decide +kernel) (pa_cons (pv 0) (pa_cons (pe_bltn (v := .ty "int") (u := .type "int") rfl m_int (by decide +kernel) rfl) pa_nil))) (pe_and (pe_not (pe_callB call_isi (by rfl) m_isinstance (by decide +kernel) (pa_cons (pv 0) (pa_cons (pe_bltn (v := .ty "bool") (u := .type "bool") rfl m_bool (by decide +kernel) rfl) pa_nil)))) (pe_one (pe_cmpR op_eq (pv 0) (pv 1) (nomark _))))))) pss_nil)
 (pss_cons (ps_if (pt_val (pe_callB call_isi (by rfl) m_isinstance (by decide +kernel) (pa_cons (pv 1) (pa_cons (pe_bltn (v := .ty "str") (u := .type "str") rfl m_str (by decide +kernel) rfl) pa_nil))))
 (pss_one (ps_ret (pe_and (pe_callB call_isi (by rfl) m_isinstance (by decide +kernel) (pa_cons (pv 0) (pa_cons (pe_bltn (v := .ty "str") (u := .type "str") rfl m_str (by decide +kernel) rfl) pa_nil))) (pe_one (pe_cmpR op_eq (pv 0) (pv 1) (nomark _)))))) pss_nil)
 (pss_cons (ps_if (PW.pt (pw_and (pt_val (pe_callB call_isi (by rfl) m_isinstance (by decide +kernel) (pa_cons (pv 1) (pa_cons (pe_bltn (v := .ty "list") (u := .type "list") rfl m_list (by decide +kernel) rfl) pa_nil)))) (pw_and1 (pt_not (pt_val (pe_callB call_isi (by rfl) m_isinstance (by decide +kernel) (pa_cons (pv 0) (pa_cons (pe_bltn (v := .ty "list") (u := .type "list") rfl m_list (by decide +kernel) rfl) pa_nil))))))))
 (pss_one (ps_ret pe_bl)) pss_nil)
 (pss_cons (ps_if (PW.pt (pw_and (pt_val (pe_callB call_isi (by rfl) m_isinstance (by decide +kernel) (pa_cons (pv 1) (pa_cons (pe_bltn (v := .ty "tuple") (u := .type "tuple") rfl m_tuple (by decide +kernel) rfl) pa_nil)))) (pw_and1 (pt_not (pt_val (pe_callB call_isi (by rfl) m_isinstance (by decide +kernel) (pa_cons (pv 0) (pa_cons (pe_bltn (v := .ty "tuple") (u := .type "tuple") rfl m_tuple (by decide +kernel) rfl) pa_nil))))))))
 (pss_one (ps_ret pe_bl)) pss_nil)
 (pss_cons (ps_if (pt_cmpR op_ne (pe_callB call_len_seq (by rfl) m_len PySem.boot_len (pa_cons (pv 0) pa_nil)) (pe_callB call_len_seq (by rfl) m_len PySem.boot_len (pa_cons (pv 1) pa_nil)) (nomark _))
 (pss_one (ps_ret pe_bl)) pss_nil)
 (pss_cons ps_never
 (pss_one (ps_ret pe_bl))))))))))), ?_⟩
    rcases okb_cases ok with rfl | ⟨bb, rfl⟩ | ⟨ki, hki⟩
    · cases dx
      cases dy
      refine st_if (p := (· = true)) hG (et_test (EF.bl (ex_isN (ex_var (v := .non) rfl) ex_c) (by simp))) (fun _ H1 e1 => ?_) (fun h => nomatch h)
      exact st_ret (P := XV (.bl true)) (hG.trans e1) ((ex_isN (ex_var (v := .non) rfl) ex_c).imp fun v _ _ h => (show v = _ from h).trans (by simp)) fun v G' H2 g p => k v G' H2 ((Gr.same hG e1).trans g) p
    · cases dx
      cases dy
      refine st_if0 hG (et_test (EF.bl (ex_isN (ex_var (v := .bl bb) rfl) ex_c) (by simp))) fun H1 e1 => ?_
      cases bb with
      | true =>
        refine st_if (p := (· = true)) (hG.trans e1) (et_test (EF.bl (ex_isC (c := true) (ex_var (v := .bl true) rfl) ex_c) (by simp))) (fun _ H2 e2 => ?_) (fun h => nomatch h)
        exact st_ret (P := XV (.bl true)) (hG.trans (e1.trans e2)) ((ex_isC (c := true) (ex_var (v := .bl true) rfl) ex_c).imp fun v _ _ h => (show v = _ from h).trans (by simp)) fun v G' H3 g p => k v G' H3 ((Gr.same hG (e1.trans e2)).trans g) p
      | false =>
        refine st_if0 (hG.trans e1) (et_test (EF.bl (ex_isC (c := true) (ex_var (v := .bl false) rfl) ex_c) (by simp))) fun H2 e2 => ?_
        refine st_if (p := (· = true)) (hG.trans (e1.trans e2)) (et_test (EF.bl (ex_isC (c := false) (ex_var (v := .bl false) rfl) ex_c) (by simp))) (fun _ H3 e3 => ?_) (fun h => nomatch h)
        exact st_ret (P := XV (.bl true)) (hG.trans (e1.trans (e2.trans e3))) ((ex_isC (c := false) (ex_var (v := .bl false) rfl) ex_c).imp fun v _ _ h => (show v = _ from h).trans (by simp)) fun v G' H4 g p => k v G' H4 ((Gr.same hG (e1.trans (e2.trans e3))).trans g) p
    have ny := dp_not dy hki
    refine st_if0 hG (et_test (EF.bl (ex_isN (ex_var (v := y) rfl) ex_c) (decide_eq_false ny.1))) fun H1 e1 => ?_
    refine st_if0 (hG.trans e1) (et_test (EF.bl (ex_isC (c := true) (ex_var (v := y) rfl) ex_c) (decide_eq_false (ny.2 true)))) fun H2 e2 => ?_
    refine st_if0 (hG.trans (e1.trans e2)) (et_test (EF.bl (ex_isC (c := false) (ex_var (v := y) rfl) ex_c) (decide_eq_false (ny.2 false)))) fun H3 e3 => ?_
    have hG3 : Ex G H3 := hG.trans (e1.trans (e2.trans e3))
    have eH3 : Ex H H3 := e1.trans (e2.trans e3)
    cases d with
    | int z =>
      cases dx
      cases dy
      refine st_if (p := (· = true)) hG3 (et_B (EF.bl (ex_isi (d := .int z) (k := .i) (r := true) (ex_var (v := .int z) rfl) ex_c (.int z) rfl (by decide +kernel)) rfl)) (fun _ H4 e4 => ?_) (fun h => nomatch h)
      refine st_ret (P := BV (· = true)) (hG3.trans e4) (eb_and (p := (· = true)) (q := (· = true)) (EF.bl (ex_isi (d := .int z) (k := .i) (r := true) (ex_var (v := .int z) rfl) ex_c (.int z) rfl (by decide +kernel)) rfl) (fun _ => eb_and (p := (· = true)) (q := (· = true)) (eb_not (EF.bl (ex_isi (d := .int z) (k := .i) (r := false) (ex_var (v := .int z) rfl) ex_c (.int z) rfl (by decide +kernel)) rfl)) (fun _ => ei_eq (EF.iv (ex_var (v := .int z) rfl)) (EF.iv (ex_var (v := .int z) rfl)) fun a b ha hb => by rw [ha, hb]; simp) (fun _ b hb => hb) (fun h => nomatch h)) (fun _ b hb => hb) (fun h => nomatch h)) (fun v G' H5 g p => k v G' H5 ((Gr.same hG (eH3.trans e4)).trans g) (by obtain ⟨b, eb, hb⟩ := p; rw [eb, hb]; rfl))
    | str z =>
      cases dx
      cases dy
      refine st_if0 hG3 (et_B (EF.bl (ex_isi (d := .str z) (k := .s) (r := false) (ex_var (v := .str z) rfl) ex_c (.str z) rfl (by decide +kernel)) rfl)) fun H4 e4 => ?_
      refine st_if (p := (· = true)) (hG3.trans e4) (et_B (EF.bl (ex_isi (d := .str z) (k := .s) (r := true) (ex_var (v := .str z) rfl) ex_c (.str z) rfl (by decide +kernel)) rfl)) (fun _ H5 e5 => ?_) (fun h => nomatch h)
      refine st_ret (P := BV (· = true)) (hG3.trans (e4.trans e5)) (eb_and (p := (· = true)) (q := (· = true)) (EF.bl (ex_isi (d := .str z) (k := .s) (r := true) (ex_var (v := .str z) rfl) ex_c (.str z) rfl (by decide +kernel)) rfl) (fun _ => ex_eq (ex_var (v := .str z) rfl) (ex_var (v := .str z) rfl) rfl (by simp)) (fun _ b hb => hb) (fun h => nomatch h)) (fun v G' H5 g p => k v G' H5 ((Gr.same hG (eH3.trans (e4.trans e5))).trans g) (by obtain ⟨b, eb, hb⟩ := p; rw [eb, hb]; rfl))
    | list ds => exact ok.elim
    | tuple ds => exact ok.elim
    | none => cases hki
    | bool b => cases hki
    | dict ds => cases hki
theorem ok_sameS (B : Blt mg) (F : Fun K "_law_same" "_law_same" s_same f fd) {n : Nat} (Cs : Cal P w K mg base "_law_same" (n + 1) ["_law_actual", "_law_wanted"] (spSameB K n)) : FnOk P w K mg base CX0 (n + 2) f fd ["_law_actual", "_law_wanted"] (spSameB K (n + 1)) := by
  obtain ⟨f1, fd1, G_same, m_same, k_same, b_same⟩ := Cs
  have m_len := B.len
  have m_range := B.range
  have m_isinstance := B.isinstance
  have m_int := B.int
  have m_str := B.str
  have m_bool := B.bool
  have m_list := B.list
  have m_tuple := B.tuple
  refine F.ok sc_same (fun vs H Q E h => ?_) (fun cdv A outer s H vs Q E hr h => ?_)
  · obtain ⟨G, x, y, d, _, rfl, _⟩ := h
    rfl
  · obtain ⟨G, x, y, d, hG, rfl, dx, dy, ok, k⟩ := h
    refine ⟨_, (pss_cons (ps_if (pt_cmpR op_isN (pv 1) pe_non (nomark _))
 (pss_one (ps_ret (pe_cmpR op_isN (pv 0) pe_non (nomark _)))) pss_nil)
 (pss_cons (ps_if (pt_cmpR (op_isC (c := true)) (pv 1) pe_bl (nomark _))
 (pss_one (ps_ret (pe_cmpR (op_isC (c := true)) (pv 0) pe_bl (nomark _)))) pss_nil)
 (pss_cons (ps_if (pt_cmpR (op_isC (c := false)) (pv 1) pe_bl (nomark _))
 (pss_one (ps_ret (pe_cmpR (op_isC (c := false)) (pv 0) pe_bl (nomark _)))) pss_nil)
 (pss_cons (ps_if (pt_val (pe_callB call_isi (by rfl) m_isinstance (by decide +kernel) (pa_cons (pv 1) (pa_cons (pe_bltn (v := .ty "int") (u := .type "int") rfl m_int (by decide +kernel) rfl) pa_nil))))
 (pss_one (ps_ret (pe_and (pe_callB call_isi (by rfl) m_isinstance (by decide +kernel) (pa_cons (pv 0) (pa_cons (pe_bltn (v := .ty "int") (u := .type "int") rfl m_int (by decide +kernel) rfl) pa_nil))) (pe_and (pe_not (pe_callB call_isi (by rfl) m_isinstance (by decide +kernel) (pa_cons (pv 0) (pa_cons (pe_bltn (v := .ty "bool") (u := .type "bool") rfl m_bool (by decide +kernel) rfl) pa_nil)))) (pe_one (pe_cmpR op_eq (pv 0) (pv 1) (nomark _))))))) pss_nil)
 (pss_cons (ps_if (pt_val (pe_callB call_isi (by rfl) m_isinstance (by decide +kernel) (pa_cons (pv 1) (pa_cons (pe_bltn (v := .ty "str") (u := .type "str") rfl m_str (by decide +kernel) rfl) pa_nil))))
 (pss_one (ps_ret (pe_and (pe_callB call_isi (by rfl) m_isinstance (by decide +kernel) (pa_cons (pv 0) (pa_cons (pe_bltn (v := .ty "str") (u := .type "str") rfl m_str (by decide +kernel) rfl) pa_nil))) (pe_one (pe_cmpR op_eq (pv 0) (pv 1) (nomark _)))))) pss_nil)
 (pss_cons (ps_if (PW.pt (pw_and (pt_val (pe_callB call_isi (by rfl) m_isinstance (by decide +kernel) (pa_cons (pv 1) (pa_cons (pe_bltn (v := .ty "list") (u := .type "list") rfl m_list (by decide +kernel) rfl) pa_nil)))) (pw_and1 (pt_not (pt_val (pe_callB call_isi (by rfl) m_isinstance (by decide +kernel) (pa_cons (pv 0) (pa_cons (pe_bltn (v := .ty "list") (u := .type "list") rfl m_list (by decide +kernel) rfl) pa_nil))))))))
 (pss_one (ps_ret pe_bl)) pss_nil)
 (pss_cons (ps_if (PW.pt (pw_and (pt_val (pe_callB call_isi (by rfl) m_isinstance (by decide +kernel) (pa_cons (pv 1) (pa_cons (pe_bltn (v := .ty "tuple") (u := .type "tuple") rfl m_tuple (by decide +kernel) rfl) pa_nil)))) (pw_and1 (pt_not (pt_val (pe_callB call_isi (by rfl) m_isinstance (by decide +kernel) (pa_cons (pv 0) (pa_cons (pe_bltn (v := .ty "tuple") (u := .type "tuple") rfl m_tuple (by decide +kernel) rfl) pa_nil))))))))
 (pss_one (ps_ret pe_bl)) pss_nil)
 (pss_cons (ps_if (pt_cmpR op_ne (pe_callB call_len_seq (by rfl) m_len PySem.boot_len (pa_cons (pv 0) pa_nil)) (pe_callB call_len_seq (by rfl) m_len PySem.boot_len (pa_cons (pv 1) pa_nil)) (nomark _))
 (pss_one (ps_ret pe_bl)) pss_nil)
 (pss_cons (ps_for PassesOwn.never rfl (pi_range1 rfl m_range (pa_cons (pe_callB call_len_seq (by rfl) m_len PySem.boot_len (pa_cons (pv 1) pa_nil)) pa_nil)) (pg_name (i := 2) sc_same.nd rfl (by first | exact Or.inl rfl | exact Or.inr rfl))
 (pss_one (ps_if (pt_not (pt_val (pe_call G_same (hr.mono (by omega)) rfl m_same k_same b_same .nil pass0 (pa_cons (pe_ix ix_seq (pv 0) (pv 2) (fun _ _ => rfl)) (pa_cons (pe_ix ix_seq (pv 1) (pv 2) (fun _ _ => rfl)) pa_nil)))))
 (pss_one (ps_ret pe_bl)) pss_nil)))
 (pss_one (ps_ret pe_bl))))))))))), ?_⟩
    rcases okb_cases ok with rfl | ⟨bb, rfl⟩ | ⟨ki, hki⟩
    · cases dx
      cases dy
      refine st_if (p := (· = true)) hG (et_test (EF.bl (ex_isN (ex_var (v := .non) rfl) ex_c) (by simp))) (fun _ H1 e1 => ?_) (fun h => nomatch h)
      exact st_ret (P := XV (.bl true)) (hG.trans e1) ((ex_isN (ex_var (v := .non) rfl) ex_c).imp fun v _ _ h => (show v = _ from h).trans (by simp)) fun v G' H2 g p => k v G' H2 ((Gr.same hG e1).trans g) p
    · cases dx
      cases dy
      refine st_if0 hG (et_test (EF.bl (ex_isN (ex_var (v := .bl bb) rfl) ex_c) (by simp))) fun H1 e1 => ?_
      cases bb with
      | true =>
        refine st_if (p := (· = true)) (hG.trans e1) (et_test (EF.bl (ex_isC (c := true) (ex_var (v := .bl true) rfl) ex_c) (by simp))) (fun _ H2 e2 => ?_) (fun h => nomatch h)
        exact st_ret (P := XV (.bl true)) (hG.trans (e1.trans e2)) ((ex_isC (c := true) (ex_var (v := .bl true) rfl) ex_c).imp fun v _ _ h => (show v = _ from h).trans (by simp)) fun v G' H3 g p => k v G' H3 ((Gr.same hG (e1.trans e2)).trans g) p
      | false =>
        refine st_if0 (hG.trans e1) (et_test (EF.bl (ex_isC (c := true) (ex_var (v := .bl false) rfl) ex_c) (by simp))) fun H2 e2 => ?_
        refine st_if (p := (· = true)) (hG.trans (e1.trans e2)) (et_test (EF.bl (ex_isC (c := false) (ex_var (v := .bl false) rfl) ex_c) (by simp))) (fun _ H3 e3 => ?_) (fun h => nomatch h)
        exact st_ret (P := XV (.bl true)) (hG.trans (e1.trans (e2.trans e3))) ((ex_isC (c := false) (ex_var (v := .bl false) rfl) ex_c).imp fun v _ _ h => (show v = _ from h).trans (by simp)) fun v G' H4 g p => k v G' H4 ((Gr.same hG (e1.trans (e2.trans e3))).trans g) p
    have ny := dp_not dy hki
    refine st_if0 hG (et_test (EF.bl (ex_isN (ex_var (v := y) rfl) ex_c) (decide_eq_false ny.1))) fun H1 e1 => ?_
    refine st_if0 (hG.trans e1) (et_test (EF.bl (ex_isC (c := true) (ex_var (v := y) rfl) ex_c) (decide_eq_false (ny.2 true)))) fun H2 e2 => ?_
    refine st_if0 (hG.trans (e1.trans e2)) (et_test (EF.bl (ex_isC (c := false) (ex_var (v := y) rfl) ex_c) (decide_eq_false (ny.2 false)))) fun H3 e3 => ?_
    have hG3 : Ex G H3 := hG.trans (e1.trans (e2.trans e3))
    have eH3 : Ex H H3 := e1.trans (e2.trans e3)
    cases d with
    | int z =>
      cases dx
      cases dy
      refine st_if (p := (· = true)) hG3 (et_B (EF.bl (ex_isi (d := .int z) (k := .i) (r := true) (ex_var (v := .int z) rfl) ex_c (.int z) rfl (by decide +kernel)) rfl)) (fun _ H4 e4 => ?_) (fun h => nomatch h)
      refine st_ret (P := BV (· = true)) (hG3.trans e4) (eb_and (p := (· = true)) (q := (· = true)) (EF.bl (ex_isi (d := .int z) (k := .i) (r := true) (ex_var (v := .int z) rfl) ex_c (.int z) rfl (by decide +kernel)) rfl) (fun _ => eb_and (p := (· = true)) (q := (· = true)) (eb_not (EF.bl (ex_isi (d := .int z) (k := .i) (r := false) (ex_var (v := .int z) rfl) ex_c (.int z) rfl (by decide +kernel)) rfl)) (fun _ => ei_eq (EF.iv (ex_var (v := .int z) rfl)) (EF.iv (ex_var (v := .int z) rfl)) fun a b ha hb => by rw [ha, hb]; simp) (fun _ b hb => hb) (fun h => nomatch h)) (fun _ b hb => hb) (fun h => nomatch h)) (fun v G' H5 g p => k v G' H5 ((Gr.same hG (eH3.trans e4)).trans g) (by obtain ⟨b, eb, hb⟩ := p; rw [eb, hb]; rfl))
    | str z =>
      cases dx
      cases dy
      refine st_if0 hG3 (et_B (EF.bl (ex_isi (d := .str z) (k := .s) (r := false) (ex_var (v := .str z) rfl) ex_c (.str z) rfl (by decide +kernel)) rfl)) fun H4 e4 => ?_
      refine st_if (p := (· = true)) (hG3.trans e4) (et_B (EF.bl (ex_isi (d := .str z) (k := .s) (r := true) (ex_var (v := .str z) rfl) ex_c (.str z) rfl (by decide +kernel)) rfl)) (fun _ H5 e5 => ?_) (fun h => nomatch h)
      refine st_ret (P := BV (· = true)) (hG3.trans (e4.trans e5)) (eb_and (p := (· = true)) (q := (· = true)) (EF.bl (ex_isi (d := .str z) (k := .s) (r := true) (ex_var (v := .str z) rfl) ex_c (.str z) rfl (by decide +kernel)) rfl) (fun _ => ex_eq (ex_var (v := .str z) rfl) (ex_var (v := .str z) rfl) rfl (by simp)) (fun _ b hb => hb) (fun h => nomatch h)) (fun v G' H5 g p => k v G' H5 ((Gr.same hG (eH3.trans (e4.trans e5))).trans g) (by obtain ⟨b, eb, hb⟩ := p; rw [eb, hb]; rfl))
    | list ds =>
      have sx : ∃ xs, SqA K G x xs ∧ DpAll K G xs ds := by
        obtain ⟨a, xs, rfl, hs, hd⟩ := dp_lst dx
        exact ⟨xs, ⟨a, rfl, .inl hs⟩, hd⟩
      have sy : ∃ xs, SqA K G y xs ∧ DpAll K G xs ds := by
        obtain ⟨a, xs, rfl, hs, hd⟩ := dp_lst dy
        exact ⟨xs, ⟨a, rfl, .inl hs⟩, hd⟩
      obtain ⟨xs, sx, hxs⟩ := sx
      obtain ⟨ys, sy, hys⟩ := sy
      obtain ⟨few, okd⟩ := ok
      refine st_if0 hG3 (et_B (EF.bl (ex_isi (d := .list ds) (k := .l) (r := false) (ex_var (v := y) rfl) ex_c dy rfl (by decide +kernel)) rfl)) fun H4 e4 => ?_
      refine st_if0 (hG3.trans e4) (et_B (EF.bl (ex_isi (d := .list ds) (k := .l) (r := false) (ex_var (v := y) rfl) ex_c dy rfl (by decide +kernel)) rfl)) fun H5 e5 => ?_
      have hG5 : Ex G H5 := hG3.trans (e4.trans e5)
      refine st_if0 hG5 (et_and (p := (· = true)) (q := (· = false)) (s := (· = false)) (et_B (EF.bl (ex_isi (d := .list ds) (k := .l) (r := true) (ex_var (v := y) rfl) ex_c dy rfl (by decide +kernel)) rfl)) (fun _ => et_not (et_B (EF.bl (ex_isi (d := .list ds) (k := .l) (r := true) (ex_var (v := x) rfl) ex_c dx rfl (by decide +kernel)) rfl))) (fun _ b hb => hb) (fun _ => rfl)) fun H6 e6 => ?_
      refine st_if0 (hG5.trans e6) (et_and (p := (· = false)) (q := fun _ => True) (s := (· = false)) (et_B (EF.bl (ex_isi (d := .list ds) (k := .l) (r := false) (ex_var (v := y) rfl) ex_c dy rfl (by decide +kernel)) rfl)) (fun h => nomatch h) (fun h => nomatch h) (fun _ => rfl)) fun H7 e7 => ?_
      have hG7 : Ex G H7 := hG5.trans (e6.trans e7)
      have eH7 : Ex H H7 := eH3.trans (e4.trans (e5.trans (e6.trans e7)))
      refine st_if0 hG7 (et_test (ei_ne (EF.iv (ex_lenA (ex_var (v := x) rfl) sx)) (EF.iv (ex_lenA (ex_var (v := y) rfl) sy)) fun a b ha hb => ?_)) fun H8 e8 => ?_
      · rw [ha, hb, dpa_len hxs, dpa_len hys]
        simp
      refine st_forR1 (n := (ds.length : Int)) (hG7.trans e8) ((ea_one (ex_lenA (ex_var (v := y) rfl) sy)).imp fun vs G' _ ⟨x, ev, hx⟩ => by rw [ev, show x = _ from hx, dpa_len hys]) (by omega) (by omega) (fun i σ' H' => Ex H H' ∧ ∃ v, σ' = [some x, some y, v]) (fun H' e => ⟨eH7.trans (e8.trans e), _, rfl⟩) (fun i σ' H' hi hw => ?_) (fun σ' H9 hw => ?_)
      · obtain ⟨e, v, rfl⟩ := hw
        have hi' : i < ds.length := by omega
        obtain ⟨u, hu, du⟩ := dpa_get' hxs (List.getElem?_eq_getElem hi')
        obtain ⟨v, hv, dv⟩ := dpa_get' hys (List.getElem?_eq_getElem hi')
        exact st_if0 (hG.trans e) (et_not (et_B (EF.bl (ex_call2 (P := XV (.bl true)) (ex_ixA (ex_var (v := x) rfl) (ex_var (v := .int (i : Int)) rfl) sx hu) (ex_ixA (ex_var (v := y) rfl) (ex_var (v := .int (i : Int)) rfl) sy hv) fun G' e' => sa_sameB (dpx du e') (dpx dv e') (okd _ (List.getElem_mem hi'))) rfl))) fun H2 e2 => ⟨e.trans e2, _, rfl⟩
      · obtain ⟨e, v, rfl⟩ := hw
        dsimp only
        refine st_ret (P := XV (.bl true)) (hG.trans e) ex_c fun v G' H2 g p => ?_
        exact k v G' H2 ((Gr.same hG e).trans g) p
    | tuple ds =>
      have sx : ∃ xs, SqA K G x xs ∧ DpAll K G xs ds := by
        obtain ⟨a, xs, rfl, hs, hd⟩ := dp_tup dx
        exact ⟨xs, ⟨a, rfl, .inr hs⟩, hd⟩
      have sy : ∃ xs, SqA K G y xs ∧ DpAll K G xs ds := by
        obtain ⟨a, xs, rfl, hs, hd⟩ := dp_tup dy
        exact ⟨xs, ⟨a, rfl, .inr hs⟩, hd⟩
      obtain ⟨xs, sx, hxs⟩ := sx
      obtain ⟨ys, sy, hys⟩ := sy
      obtain ⟨few, okd⟩ := ok
      refine st_if0 hG3 (et_B (EF.bl (ex_isi (d := .tuple ds) (k := .t) (r := false) (ex_var (v := y) rfl) ex_c dy rfl (by decide +kernel)) rfl)) fun H4 e4 => ?_
      refine st_if0 (hG3.trans e4) (et_B (EF.bl (ex_isi (d := .tuple ds) (k := .t) (r := false) (ex_var (v := y) rfl) ex_c dy rfl (by decide +kernel)) rfl)) fun H5 e5 => ?_
      have hG5 : Ex G H5 := hG3.trans (e4.trans e5)
      refine st_if0 hG5 (et_and (p := (· = false)) (q := fun _ => True) (s := (· = false)) (et_B (EF.bl (ex_isi (d := .tuple ds) (k := .t) (r := false) (ex_var (v := y) rfl) ex_c dy rfl (by decide +kernel)) rfl)) (fun h => nomatch h) (fun h => nomatch h) (fun _ => rfl)) fun H6 e6 => ?_
      refine st_if0 (hG5.trans e6) (et_and (p := (· = true)) (q := (· = false)) (s := (· = false)) (et_B (EF.bl (ex_isi (d := .tuple ds) (k := .t) (r := true) (ex_var (v := y) rfl) ex_c dy rfl (by decide +kernel)) rfl)) (fun _ => et_not (et_B (EF.bl (ex_isi (d := .tuple ds) (k := .t) (r := true) (ex_var (v := x) rfl) ex_c dx rfl (by decide +kernel)) rfl))) (fun _ b hb => hb) (fun _ => rfl)) fun H7 e7 => ?_
      have hG7 : Ex G H7 := hG5.trans (e6.trans e7)
      have eH7 : Ex H H7 := eH3.trans (e4.trans (e5.trans (e6.trans e7)))
      refine st_if0 hG7 (et_test (ei_ne (EF.iv (ex_lenA (ex_var (v := x) rfl) sx)) (EF.iv (ex_lenA (ex_var (v := y) rfl) sy)) fun a b ha hb => ?_)) fun H8 e8 => ?_
      · rw [ha, hb, dpa_len hxs, dpa_len hys]
        simp
      refine st_forR1 (n := (ds.length : Int)) (hG7.trans e8) ((ea_one (ex_lenA (ex_var (v := y) rfl) sy)).imp fun vs G' _ ⟨x, ev, hx⟩ => by rw [ev, show x = _ from hx, dpa_len hys]) (by omega) (by omega) (fun i σ' H' => Ex H H' ∧ ∃ v, σ' = [some x, some y, v]) (fun H' e => ⟨eH7.trans (e8.trans e), _, rfl⟩) (fun i σ' H' hi hw => ?_) (fun σ' H9 hw => ?_)
      · obtain ⟨e, v, rfl⟩ := hw
        have hi' : i < ds.length := by omega
        obtain ⟨u, hu, du⟩ := dpa_get' hxs (List.getElem?_eq_getElem hi')
        obtain ⟨v, hv, dv⟩ := dpa_get' hys (List.getElem?_eq_getElem hi')
        exact st_if0 (hG.trans e) (et_not (et_B (EF.bl (ex_call2 (P := XV (.bl true)) (ex_ixA (ex_var (v := x) rfl) (ex_var (v := .int (i : Int)) rfl) sx hu) (ex_ixA (ex_var (v := y) rfl) (ex_var (v := .int (i : Int)) rfl) sy hv) fun G' e' => sa_sameB (dpx du e') (dpx dv e') (okd _ (List.getElem_mem hi'))) rfl))) fun H2 e2 => ⟨e.trans e2, _, rfl⟩
      · obtain ⟨e, v, rfl⟩ := hw
        dsimp only
        refine st_ret (P := XV (.bl true)) (hG.trans e) ex_c fun v G' H2 g p => ?_
        exact k v G' H2 ((Gr.same hG e).trans g) p
    | none => cases hki
    | bool b => cases hki
    | dict ds => cases hki
end
end Kx

set_option Elab.async false
set_option linter.all false
set_option maxRecDepth 100000
set_option maxHeartbeats 8000000
/-! what the law expects -/
namespace Kx
open PySem L2 Lw
open Evl (Ex)
abbrev s_lreleases : Stmt := top 25
theorem sc_lreleases : FnScope ["_law_lengths", "_law_way_here", "_law_size_here", "_law_row", "_law_step", "_law_number", "_law_total", "_law_later"] ["_law_lengths", "_law_way_here", "_law_size_here"] (defScope s_lreleases) := ⟨rfl, rfl, rfl, by decide +kernel, rfl, by decide +kernel, by decide +kernel⟩
abbrev s_way_error : Stmt := top 28
theorem sc_way_error : FnScope ["_law_track_here", "_law_way_here", "_law_block", "_law_at", "_law_pair"] ["_law_track_here", "_law_way_here"] (defScope s_way_error) := ⟨rfl, rfl, rfl, by decide +kernel, rfl, by decide +kernel, by decide +kernel⟩
abbrev s_due : Stmt := top 33
theorem sc_due : FnScope ["_law_track_here", "_law_way_here", "_law_size_here", "_law_error"] ["_law_track_here", "_law_way_here", "_law_size_here"] (defScope s_due) := ⟨rfl, rfl, rfl, by decide +kernel, rfl, by decide +kernel, by decide +kernel⟩
def wErrD : HR → PyData
  | .bad i => .list [.str "BadWay", .int i]
  | .no b => .list [.str "NoBlock", .int b]
  | .way _ => .none
def dueD (lens : List Int) (len : Int) (way : List Int) : HR → PyData
  | .bad i => .list [.bool true, .str "BadWay", .int i]
  | .no b => .list [.bool true, .str "NoBlock", .int b]
  | .way _ => tolDD (dI (relsOf lens len way))
theorem pair_ok {js : List (Int × Int)} {n : Int} {parks : List Int} (hJ : JOk n parks js) {way : List Int} {i : Nat} {x y a b : Int} (hx : way[0]? = some x) (hy : way[1]? = some y) (ha : way[i]? = some a) (hb : way[i + 1]? = some b) (h : ∀ j, j < i → okB js (headC js way) way j = true) : decide ((if (x, y) ∈ js then (a, b) else (b, a)) ∈ js) = okB js (headC js way) way i := by
  obtain ⟨x', y', hx', hy', hc⟩ := headC_at (js := js) (row := way) (by have := (List.getElem?_eq_some_iff.mp hy).1; omega)
  rw [hx] at hx'
  rw [hy] at hy'
  cases hx'
  cases hy'
  rw [okB_eq ha hb, hc]
  by_cases q : (x, y) ∈ js
  · have q2 : (y, x) ∉ js := fun z => by have := hJ.mem q; have := hJ.mem z; simp at *; omega
    rw [if_pos q]
    simp [q2, ends, mem_eo]
  · rw [if_neg q]
    by_cases q2 : (y, x) ∈ js
    · simp [q2, ends, mem_wo]
    · cases i with
      | zero =>
        rw [hx] at ha
        rw [hy] at hb
        cases ha
        cases hb
        simp [q, q2, ends, mem_eo]
      | succ i =>
        have := h 0 (by omega)
        rw [okB_eq hx hy, hc] at this
        simp [q2, ends, mem_eo] at this
        exact absurd this q
section
variable {P : Program} {w : World} {K : PySem.W.Frag} {mg : Str → Option Value} {base : Heap} {f : Addr} {fd : FuncData}
def spLR (K : PySem.W.Frag) : Sp := fun vs H Q _ => ∃ (G : Hp) (x : V) (a : Addr) (lens way : List Int) (len : Int), Ex G H ∧ vs = [x, .ref a, .int len] ∧ Dp K G x (dI lens) ∧ SqL K G a (way.map V.int) ∧ (∀ b ∈ way, 0 ≤ b ∧ b < (lens.length : Int)) ∧ way.length ≤ 400 ∧ Ret G H (LS K ((relsOf lens len way).map PyData.int)) Q
theorem sa_lr {G : Hp} {x : V} {a : Addr} {lens way : List Int} {len : Int} (hx : Dp K G x (dI lens)) (hs : SqL K G a (way.map V.int)) (hb : ∀ b ∈ way, 0 ≤ b ∧ b < (lens.length : Int)) (hl : way.length ≤ 400) : SA (spLR K) [x, .ref a, .int len] G (LS K ((relsOf lens len way).map PyData.int)) := fun H e Q _ q => ⟨G, x, a, lens, way, len, e, rfl, hx, hs, hb, hl, q⟩
theorem ok_lr (B : Blt mg) (F : Fun K "_law_releases" "_law_releases" s_lreleases f fd) : FnOk P w K mg base CX0 1 f fd ["_law_lengths", "_law_way_here", "_law_size_here"] (spLR K) := by
  have m_len := B.len
  have m_range := B.range
  refine F.ok sc_lreleases (fun vs H Q E h => ?_) (fun cdv A outer s H vs Q E hr h => ?_)
  · obtain ⟨G, x, a, lens, way, len, _, rfl, _⟩ := h
    rfl
  · obtain ⟨G, x, a, lens, way, len, hG, rfl, hx, hs, hb, hl, k⟩ := h
    refine ⟨_, (pss_cons (ps_set (i := 3) sc_lreleases.nd rfl (by first | exact Or.inl rfl | exact Or.inr rfl) (pe_lst pa_nil))
 (pss_cons (ps_for PassesOwn.never rfl (pi_range1 rfl m_range (pa_cons (pe_callB call_len_seq (by rfl) m_len PySem.boot_len (pa_cons (pv 1) pa_nil)) pa_nil)) (pg_name (i := 4) sc_lreleases.nd rfl (by first | exact Or.inl rfl | exact Or.inr rfl))
 (pss_cons (ps_set (i := 5) sc_lreleases.nd rfl (by first | exact Or.inl rfl | exact Or.inr rfl) (pe_op op_mul pe_int (pe_callB call_len_seq (by rfl) m_len PySem.boot_len (pa_cons (pv 1) pa_nil))))
 (pss_cons (ps_set (i := 6) sc_lreleases.nd rfl (by first | exact Or.inl rfl | exact Or.inr rfl) pe_int)
 (pss_cons (ps_for PassesOwn.never rfl (pi_range2 rfl m_range (pa_cons (pe_op op_add (pv 4) pe_int) (pa_cons (pe_callB call_len_seq (by rfl) m_len PySem.boot_len (pa_cons (pv 1) pa_nil)) pa_nil))) (pg_name (i := 7) sc_lreleases.nd rfl (by first | exact Or.inl rfl | exact Or.inr rfl))
 (pss_cons (ps_set (i := 6) sc_lreleases.nd rfl (by first | exact Or.inl rfl | exact Or.inr rfl) (pe_op op_add (pv 6) (pe_ix ix_list (pv 0) (pe_ix ix_list (pv 1) (pv 7) (fun _ _ => rfl)) (fun _ _ => rfl))))
 (pss_one (ps_if (PW.pt (pw_and (pt_cmpR op_ge (pv 6) (pv 2) (nomark _)) (pw_and1 (pt_cmpR op_eq (pv 5) (pe_op op_mul pe_int (pe_callB call_len_seq (by rfl) m_len PySem.boot_len (pa_cons (pv 1) pa_nil))) (nomark _)))))
 (pss_one (ps_set (i := 5) sc_lreleases.nd rfl (by first | exact Or.inl rfl | exact Or.inr rfl) (pe_op op_add (pe_op op_mul pe_int (pv 7)) pe_int))) pss_nil))))
 (pss_one (ps_expr (pe_bm PySem.F.plainAttrs_list PySem.F.slot_list_append PySem.F.type_list_append mt_append (pv 3) (pa_cons (pv 5) pa_nil))))))))
 (pss_one (ps_ret (pv 3))))), ?_⟩
    have ln : ∀ {σ : L2.St} {G' : Hp}, Ex G G' → σ[1]? = some (some (.ref a)) → EF (tCB (Evl.rLenS K) (tCons (tVar 1) tNil)) σ G' (XV (.int (way.length : Int))) := fun e h => (ex_lenL (ex_var h) (Evl.ex_l e hs)).imp fun v _ _ p => by rw [show v = _ from p, List.length_map]; rfl
    have ixw : ∀ {σ : L2.St} {i : Nat} {z j : Int}, σ[1]? = some (some (.ref a)) → σ[7]? = some (some (.int j)) → way[i]? = some z → j = (i : Int) → EF (tOp (rIxL K) (tVar 1) (tVar 7)) σ G (XV (.int z)) := fun {σ i z j} h1 h7 hz hj => ex_ixL (i := i) (ex_var h1) (ex_var h7) hj hs (by rw [List.getElem?_map, hz]; rfl)
    have two : ∀ {σ : L2.St} {G' : Hp}, Ex G G' → σ[1]? = some (some (.ref a)) → EF (tOp (rI CMul fun i j => .int (i * j)) (tC (.int 2)) (tCB (Evl.rLenS K) (tCons (tVar 1) tNil))) σ G' (XV (.int (2 * (way.length : Int)))) := fun e h => ex_mul ex_c (ln e h) (.inl (by decide))
    refine st_asg (P := fun v G' => ∃ q : Addr, v = .ref q ∧ G q = none ∧ G' q = some (.lst [])) hG (ef_lst (R := fun vs _ => vs = []) ea_nil (fun vs _ ev => by rw [ev]; simp) fun r vs G' _ gr _ ev => ⟨r, rfl, gr, by rw [upd_same, ev]⟩) fun v3 G3 H3 g3 p3 => ?_
    obtain ⟨q, rfl, gq, hq3⟩ := p3
    have fr : H q = none := g3.fresh gq hq3
    dsimp only
    have st0 : DSt K G H H3 q [] := ⟨G, [], .same hG g3.hp, gq, g3.ok _ _ hq3, .nil⟩
    refine st_forR1 (n := (way.length : Int)) st0.ok (ea_x (ln (.refl G) rfl) ea_nil) (by omega) (by omega) (fun i σ' H' => DSt K G H H' q (((List.range i).map (relOf lens len way)).map PyData.int) ∧ ∃ v4 v5 v6 v7, σ' = [some x, some (.ref a), some (.int len), some (.ref q), v4, v5, v6, v7]) (fun H' e => ⟨st0.up e, _, _, _, _, rfl⟩) (fun i σ' H' hi hw => ?_) (fun σ' H' hw => ?_)
    · obtain ⟨st, v4, v5, v6, v7, rfl⟩ := hw
      have hi' : i < way.length := by omega
      refine st_asg (P := XV (.int (2 * (way.length : Int)))) st.ok (two (.refl G) rfl) fun u5 G5 H5 g5 p5 => ?_
      cases (show u5 = _ from p5)
      have st5 := st.up g5.hp
      dsimp only
      refine st_asg (P := XV (.int 0)) st5.ok ex_c fun u6 G6 H6 g6 p6 => ?_
      cases (show u6 = _ from p6)
      have st6 := st5.up g6.hp
      dsimp only
      refine st_forR2 (lo := (i : Int) + 1) (n := (way.length : Int)) st6.ok (ea_x (ex_add (ex_var (v := .int (i : Int)) rfl) (ex_c (v := .int 1))) (ea_x (ln (.refl G) rfl) ea_nil)) (by omega) (fun m σ' H' => DSt K G H H' q (((List.range i).map (relOf lens len way)).map PyData.int) ∧ ∃ num tt v7, ((num = 2 * (way.length : Int) ∧ relGo lens len (way.drop (i + 1 + m)) tt ((i : Int) + 1 + (m : Int)) = relOf lens len way i) ∨ (num = relOf lens len way i ∧ num ≠ 2 * (way.length : Int))) ∧ σ' = [some x, some (.ref a), some (.int len), some (.ref q), some (.int (i : Int)), some (.int num), some (.int tt), v7]) (fun H' e => ⟨st6.up e, _, 0, _, .inl ⟨rfl, by unfold relOf; congr 1 <;> omega⟩, rfl⟩) (fun m σ' H' hm hw => ?_) (fun σ' H' hw => ?_)
      · obtain ⟨st, num, tt, v7, hinv, rfl⟩ := hw
        have hlt : i + 1 + m < way.length := by omega
        have hw1 : way[i + 1 + m]? = some way[i + 1 + m] := List.getElem?_eq_getElem hlt
        have bb := hb _ (List.mem_of_getElem? hw1)
        refine st_asg (P := XV (.int (tt + lenOf lens way[i + 1 + m]))) st.ok (ex_add (ex_var rfl) (ed_ixL (P := XV (.int (lenOf lens way[i + 1 + m]))) (q := (· = way[i + 1 + m])) (EF.dv (ex_var (v := x) rfl) hx) (EF.iv (ixw rfl rfl hw1 (by omega))) fun z hz => by
          subst hz
          exact ⟨way[i + 1 + m].toNat, .int (lenOf lens way[i + 1 + m]), by omega, by
            rw [List.getElem?_map, List.getElem?_eq_getElem (by omega)]
            unfold lenOf
            rw [List.getD_eq_getElem?_getD, List.getElem?_eq_getElem (by omega)]
            rfl, fun v G' d => by cases d; rfl⟩)) fun u6 G7 H7 g7 p7 => ?_
        cases (show u6 = _ from p7)
        have st7 := st.up g7.hp
        dsimp only
        refine st_if (p := (· = decide (tt + lenOf lens way[i + 1 + m] ≥ len ∧ num = 2 * (way.length : Int)))) st7.ok (et_andD (et_geI (ex_var rfl) (ex_var rfl)) fun _ => et_eqI (ex_var rfl) (two (.refl G) rfl)) (fun h H8 e8 => ?_) (fun h H8 e8 => ?_)
        · have h := of_decide_eq_true h.symm
          refine st_asg (P := XV (.int (2 * ((i : Int) + 1 + (m : Int)) + 1))) (st7.up e8).ok (ex_add (ex_mul ex_c (ex_var rfl) (.inl (by decide))) ex_c) fun u5 G9 H9 g9 p9 => ?_
          cases (show u5 = _ from p9)
          refine ⟨(st7.up e8).up g9.hp, _, _, _, .inr ⟨?_, by omega⟩, rfl⟩
          rcases hinv with ⟨_, hr⟩ | ⟨_, hn⟩
          · rw [relGo_step hw1, if_pos h.1] at hr
            exact hr
          · exact absurd h.2 hn
        · have h := of_decide_eq_false h.symm
          refine ⟨st7.up e8, _, _, _, ?_, rfl⟩
          rcases hinv with ⟨hn, hr⟩ | hr
          · rw [relGo_step hw1, if_neg fun z => h ⟨z, hn⟩] at hr
            exact .inl ⟨hn, by rw [← hr, show i + 1 + (m + 1) = i + 1 + m + 1 by omega]; congr 1 <;> omega⟩
          · exact .inr hr
      · obtain ⟨st, num, tt, v7, hinv, rfl⟩ := hw
        have hn : i + 1 + ((way.length : Int) - ((i : Int) + 1)).toNat = way.length := by omega
        have hnum : num = relOf lens len way i := by
          rcases hinv with ⟨e1, hr⟩ | ⟨e1, _⟩
          · rw [hn, List.drop_length, relGo_nil] at hr
            rw [e1, ← hr]
            omega
          · exact e1
        dsimp only
        refine st_dapp (x := .int num) fr st (by simp; omega) rfl (fun G' e => (ex_var (v := .int num) rfl).dv (.int _)) fun H8 st8 => ⟨?_, _, _, _, _, rfl⟩
        rw [List.range_succ, List.map_append, List.map_append]
        rw [hnum] at st8
        exact st8
    · obtain ⟨⟨G4, vs4, g4, gq4, hq4, hd4⟩, v4, v5, v6, v7, rfl⟩ := hw
      rw [Int.toNat_natCast] at hd4
      have g5 := Gr.know hG g4 fr hq4
      dsimp only
      exact st_ret (P := LS K ((relsOf lens len way).map PyData.int)) g5.ok (ef_var rfl ⟨q, vs4, rfl, upd_same, dpax hd4 (ex_in gq4)⟩) fun v G' H6 g6 pv => k v G' H6 (g5.trans g6) pv
def spWE (K : PySem.W.Frag) : Sp := fun vs H Q _ => ∃ (G : Hp) (x : V) (t : Trk) (a : Addr) (way : List Int), Ex G H ∧ vs = [x, .ref a] ∧ Dp K G x (dT t) ∧ TrkOk t ∧ SqL K G a (way.map V.int) ∧ way ≠ [] ∧ way.length ≤ 400 ∧ Ret G H (DV K (wErrD (headR (t.lens.length : Int) t.joints way))) Q
theorem ok_we (B : Blt mg) (F : Fun K "_law_way_error" "_law_way_error" s_way_error f fd) : FnOk P w K mg base CX0 1 f fd ["_law_track_here", "_law_way_here"] (spWE K) := by
  have m_len := B.len
  have m_range := B.range
  refine F.ok sc_way_error (fun vs H Q E h => ?_) (fun cdv A outer s H vs Q E hr h => ?_)
  · obtain ⟨G, x, t, a, way, _, rfl, _⟩ := h
    rfl
  · obtain ⟨G, x, t, a, way, hG, rfl, dt, ht, hs, hne, hl, k⟩ := h
    refine ⟨_, (pss_cons (ps_for PassesOwn.never rfl (pi_list (pv 1)) (pg_name (i := 2) sc_way_error.nd rfl (by first | exact Or.inl rfl | exact Or.inr rfl))
 (pss_one (ps_if (PW.pt (pw_or (pt_cmpR op_lt (pv 2) pe_int (nomark _)) (pw_or1 (pt_cmpR op_ge (pv 2) (pe_callB call_len_seq (by rfl) m_len PySem.boot_len (pa_cons (pe_ix ix_tup (pv 0) pe_int (fun _ _ => rfl)) pa_nil)) (nomark _)))))
 (pss_one (ps_ret (pe_lst (pa_cons pe_str (pa_cons (pv 2) pa_nil))))) pss_nil)))
 (pss_cons (ps_for PassesOwn.never rfl (pi_range1 rfl m_range (pa_cons (pe_op op_sub (pe_callB call_len_seq (by rfl) m_len PySem.boot_len (pa_cons (pv 1) pa_nil)) pe_int) pa_nil)) (pg_name (i := 3) sc_way_error.nd rfl (by first | exact Or.inl rfl | exact Or.inr rfl))
 (pss_cons (ps_set (i := 4) sc_way_error.nd rfl (by first | exact Or.inl rfl | exact Or.inr rfl) (pe_tup (pa_cons (pe_ix ix_list (pv 1) (pv 3) (fun _ _ => rfl)) (pa_cons (pe_ix ix_list (pv 1) (pe_op op_add (pv 3) pe_int) (fun _ _ => rfl)) pa_nil))))
 (Evl.pss_cut (ps_if (pt_cmpR (op_notInD (hu65 hr)) (pe_tup (pa_cons (pe_ix ix_list (pv 1) pe_int (fun _ _ => rfl)) (pa_cons (pe_ix ix_list (pv 1) pe_int (fun _ _ => rfl)) pa_nil))) (pe_ix ix_tup (pv 0) pe_int (fun _ _ => rfl)) (by rfl))
 (pss_one (ps_set (i := 4) sc_way_error.nd rfl (by first | exact Or.inl rfl | exact Or.inr rfl) (pe_tup (pa_cons (pe_ix ix_list (pv 1) (pe_op op_add (pv 3) pe_int) (fun _ _ => rfl)) (pa_cons (pe_ix ix_list (pv 1) (pv 3) (fun _ _ => rfl)) pa_nil))))) pss_nil)
 (pss_one (ps_if (pt_cmpR (op_notInD (hu65 hr)) (pv 4) (pe_ix ix_tup (pv 0) pe_int (fun _ _ => rfl)) (by rfl))
 (pss_one (ps_ret (pe_lst (pa_cons pe_str (pa_cons (pv 3) pa_nil))))) pss_nil)))))
 (pss_one (ps_ret pe_non)))), ?_⟩
    have ln : ∀ {σ : L2.St} {G' : Hp}, Ex G G' → σ[1]? = some (some (.ref a)) → EF (tCB (Evl.rLenS K) (tCons (tVar 1) tNil)) σ G' (XV (.int (way.length : Int))) := fun e h => (ex_lenL (ex_var h) (Evl.ex_l e hs)).imp fun v _ _ p => by rw [show v = _ from p, List.length_map]; rfl
    have ix : ∀ {σ : L2.St} {G' : Hp} {i : Nat} {z : Int} {te : TE}, Ex G G' → σ[1]? = some (some (.ref a)) → way[i]? = some z → EF te σ G' (XV (.int (i : Int))) → EF (tOp (rIxL K) (tVar 1) te) σ G' (XV (.int z)) := fun e h1 hz he => ex_ixL (ex_var h1) he rfl (Evl.ex_l e hs) (by rw [List.getElem?_map, hz]; rfl)
    have pr : ∀ {σ : L2.St} {G' : Hp} {s : Str} {z : Int} {te : TE}, EF te σ G' (XV (.int z)) → EF (tLst (tCons (tC (.str s)) (tCons te tNil))) σ G' (DV K (.list [.str s, .int z])) := fun he => (el_lst (R := fun vs _ => vs = [.str _, .int _]) (ea_x ex_c (ea_x he ea_nil)) (by simp) fun vs G' _ ev => by rw [ev]; exact .cons (.str _) (.cons (.int _) .nil)).ls_dv
    refine st_forK (xs := way.map V.int) hG (ex_var (v := .ref a) rfl) hs (fun i σ H' => Ex H H' ∧ (∀ z ∈ way.take i, 0 ≤ z ∧ z < (t.lens.length : Int)) ∧ ∃ v, σ = [some x, some (.ref a), v, none, none]) (fun H' e => ⟨e, (fun z m => nomatch m), _, rfl⟩) (fun i σ' H' hw => hG.trans hw.1) (fun i y σ' H' hi hw => ?_) (fun σ' H' hw => ?_)
    · obtain ⟨e, hl, v, rfl⟩ := hw
      rw [List.getElem?_map] at hi
      obtain ⟨b, hb1, rfl⟩ := Option.map_eq_some_iff.mp hi
      refine st_if (p := (· = decide (b < 0 ∨ b ≥ (t.lens.length : Int)))) (hG.trans e) (et_orD (et_ltI (ex_var (v := .int b) rfl) ex_c) (et_geI (ex_var (v := .int b) rfl) ((ex_lenD (ed_t0 rfl dt)).imp fun v _ _ p => by rw [show v = _ from p, List.length_map]; rfl))) (fun h H2 e2 => ?_) (fun h H2 e2 => ?_)
      · have hb := of_decide_eq_true h.symm
        rw [headR_no hne (badB_at hb1 hl (by omega))] at k
        exact st_ret (P := DV K (wErrD (.no b))) (hG.trans (e.trans e2)) (pr (ex_var rfl)) fun v G' H' g p => k v G' H' ((Gr.same hG (e.trans e2)).trans g) p
      · have hb := of_decide_eq_false h.symm
        refine ⟨e.trans e2, fun z m => ?_, _, rfl⟩
        rw [take_next hb1] at m
        rcases List.mem_append.mp m with m | m
        · exact hl z m
        · rw [List.mem_singleton.mp m]; omega
    obtain ⟨eL, hin, v2, rfl⟩ := hw
    rw [List.length_map, List.take_length] at hin
    have hnb := badB_none hin
    dsimp only
    refine st_forR1 (n := (way.length : Int) - 1) (hG.trans eL) (ea_x (ex_sub (ln (.refl G) rfl) (ex_c (v := .int 1))) ea_nil) (by omega) (by omega) (fun i σ' H' => Ex H H' ∧ (∀ j, j < i → okB t.joints (headC t.joints way) way j = true) ∧ ∃ v3 v4, σ' = [some x, some (.ref a), v2, v3, v4]) (fun H' e => ⟨eL.trans e, (fun j hj => absurd hj (Nat.not_lt_zero j)), _, _, rfl⟩) (fun i σ' H' hi hw => ?_) (fun σ' H' hw => ?_)
    · obtain ⟨e, h0, v3, v4, rfl⟩ := hw
      obtain ⟨za, hza⟩ : ∃ z, way[i]? = some z := ⟨_, List.getElem?_eq_getElem (by omega)⟩
      obtain ⟨zb, hzb⟩ : ∃ z, way[i + 1]? = some z := ⟨_, List.getElem?_eq_getElem (by omega)⟩
      obtain ⟨z0, hz0⟩ : ∃ z, way[0]? = some z := ⟨_, List.getElem?_eq_getElem (by omega)⟩
      obtain ⟨z1, hz1⟩ : ∃ z, way[1]? = some z := ⟨_, List.getElem?_eq_getElem (by omega)⟩
      have ok := pair_ok ht.js hz0 hz1 hza hzb h0
      have eG := hG.trans e
      refine st_asg (P := DV K (dP (za, zb))) eG (ef_pairI (ix (.refl G) rfl hza (ex_var rfl)) (ix (i := i + 1) (.refl G) rfl hzb (ex_add (ex_var (v := .int (i : Int)) rfl) (ex_c (v := .int 1))))) fun u4 G4 H4 g4 p4 => ?_
      have gA := (Gr.same hG e).trans g4
      refine ⟨fun σ' H' => ∃ Gk u, Gr G Gk H H' ∧ Dp K Gk u (dP (if (z0, z1) ∈ t.joints then (za, zb) else (zb, za))) ∧ σ' = [some x, some (.ref a), v2, some (.int (i : Int)), some u], ?_, ?_⟩
      · refine st_if (p := (· = !decide ((z0, z1) ∈ t.joints))) g4.ok (et_niP (p := (z0, z1)) (js := t.joints) (ef_pairI (ix (i := 0) gA.up rfl hz0 ex_c) (ix (i := 1) gA.up rfl hz1 ex_c)) (ed_t1 rfl (dpx dt gA.up))) (fun h H5 e5 => ?_) (fun h H5 e5 => ?_)
        · have hn : ¬ (z0, z1) ∈ t.joints := fun z => by rw [decide_eq_true z] at h; cases h
          refine st_asg (P := DV K (dP (zb, za))) (g4.ok.trans e5) (ef_pairI (ix (i := i + 1) gA.up rfl hzb (ex_add (ex_var (v := .int (i : Int)) rfl) (ex_c (v := .int 1)))) (ix gA.up rfl hza (ex_var rfl))) fun u5 G5 H6 g5 p5 => ⟨G5, u5, (gA.then e5).trans g5, by rw [if_neg hn]; exact p5, rfl⟩
        · have hy : (z0, z1) ∈ t.joints := Classical.byContradiction fun z => by rw [decide_eq_false z] at h; cases h
          exact ⟨G4, u4, gA.then e5, by rw [if_pos hy]; exact p4, rfl⟩
      rintro σ1 H5 ⟨Gk, u, gk, pu, rfl⟩
      dsimp only
      refine st_if (p := (· = !okB t.joints (headC t.joints way) way i)) gk.ok ((et_niP (EF.dv (ex_var (v := u) rfl) pu) (ed_t1 rfl (dpx dt gk.up))).imp fun b hb => by rw [hb, ok]) (fun h H6 e6 => ?_) (fun h H6 e6 => ?_)
      · have hf : okB t.joints (headC t.joints way) way i = false := by simpa using h.symm
        rw [headR_bad hne hnb (brk_at (by omega) h0 hf)] at k
        exact st_ret (P := DV K (wErrD (.bad (i : Int)))) (gk.ok.trans e6) (pr (ex_var rfl)) fun v G' H' g p => k v G' H' ((gk.then e6).trans g) p
      · refine ⟨gk.hp.trans e6, fun j hj => ?_, _, _, rfl⟩
        by_cases hji : j = i
        · rw [hji]; simpa using h.symm
        · exact h0 j (by omega)
    · obtain ⟨e, h0, v3, v4, rfl⟩ := hw
      have hb : brk t.joints (headC t.joints way) way = none := brk_none fun j hj => h0 j (by omega)
      rw [headR_way hne hnb hb] at k
      dsimp only
      exact st_ret (P := DV K .none) (hG.trans e) (ef_c .non) fun v G' H' g p => k v G' H' ((Gr.same hG e).trans g) p
def spDueT (K : PySem.W.Frag) : Sp := fun vs H Q _ => ∃ (G : Hp) (x : V) (t : Trk) (a : Addr) (way : List Int) (len : Int), Ex G H ∧ vs = [x, .ref a, .int len] ∧ Dp K G x (dT t) ∧ TrkOk t ∧ SqL K G a (way.map V.int) ∧ way ≠ [] ∧ way.length ≤ 400 ∧ Ret G H (DV K (dueD t.lens len way (headR (t.lens.length : Int) t.joints way))) Q
theorem sa_dueT {G : Hp} {x : V} {t : Trk} {a : Addr} {way : List Int} {len : Int} (hx : Dp K G x (dT t)) (ht : TrkOk t) (hs : SqL K G a (way.map V.int)) (hne : way ≠ []) (hl : way.length ≤ 400) : SA (spDueT K) [x, .ref a, .int len] G (DV K (dueD t.lens len way (headR (t.lens.length : Int) t.joints way))) := fun H e Q _ q => ⟨G, x, t, a, way, len, e, rfl, hx, ht, hs, hne, hl, q⟩
theorem ok_due (B : Blt mg) (F : Fun K "_law_due" "_law_due" s_due f fd) (Cw : Cal P w K mg base "_law_way_error" 1 ["_law_track_here", "_law_way_here"] (spWE K)) (Cl : Cal P w K mg base "_law_releases" 1 ["_law_lengths", "_law_way_here", "_law_size_here"] (spLR K)) : FnOk P w K mg base CX0 2 f fd ["_law_track_here", "_law_way_here", "_law_size_here"] (spDueT K) := by
  obtain ⟨f1, fd1, G_way_error, m_way_error, k_way_error, b_way_error⟩ := Cw
  obtain ⟨f2, fd2, G_lreleases, m_lreleases, k_lreleases, b_lreleases⟩ := Cl
  refine F.ok sc_due (fun vs H Q E h => ?_) (fun cdv A outer s H vs Q E hr h => ?_)
  · obtain ⟨G, x, t, a, way, len, _, rfl, _⟩ := h
    rfl
  · obtain ⟨G, x, t, a, way, len, hG, rfl, dt, ht, hs, hne, hl, k⟩ := h
    refine ⟨_, (pss_cons (ps_set (i := 3) sc_due.nd rfl (by first | exact Or.inl rfl | exact Or.inr rfl) (pe_call G_way_error (hr.mono (by decide)) rfl m_way_error k_way_error b_way_error .nil pass0 (pa_cons (pv 0) (pa_cons (pv 1) pa_nil))))
 (pss_cons (ps_if (pt_cmpR op_isN (pv 3) pe_non (nomark _))
 (pss_one (ps_ret (pe_tup (pa_cons pe_str (pa_cons (pe_call G_lreleases (hr.mono (by decide)) rfl m_lreleases k_lreleases b_lreleases .nil pass0 (pa_cons (pe_ix ix_tup (pv 0) pe_int (fun _ _ => rfl)) (pa_cons (pv 1) (pa_cons (pv 2) pa_nil)))) pa_nil))))) pss_nil)
 (pss_one (ps_ret (pe_lst (pa_cons pe_bl (pa_cons (pe_ix ix_seq (pv 3) pe_int (fun _ _ => rfl)) (pa_cons (pe_ix ix_seq (pv 3) pe_int (fun _ _ => rfl)) pa_nil)))))))), ?_⟩
    refine st_asg (P := DV K (wErrD (headR (t.lens.length : Int) t.joints way))) hG (ex_call2 (ex_var rfl) (ex_var rfl) fun G' e H2 e2 Q2 _ q => ⟨G', x, t, a, way, e2, rfl, dpx dt e, ht, Evl.ex_l e hs, hne, hl, q⟩) fun v3 G3 H3 g3 p3 => ?_
    have bad : ∀ {s : Str} {z : Int} {H4 : Hp} {D : Ends}, Ex H3 H4 → Dp K G3 v3 (.list [.str s, .int z]) → D.rt = Q → dueD t.lens len way (headR (t.lens.length : Int) t.joints way) = .list [.bool true, .str s, .int z] → tRet (tLst (tCons (tC (.bl true)) (tCons (tOp (rIx K) (tVar 3) (tC (.int 0))) (tCons (tOp (rIx K) (tVar 3) (tC (.int 1))) tNil)))) D [some x, some (.ref a), some (.int len), some v3] H4 := fun {s z H4 D} e4 dv hD ed => by
      obtain ⟨l, xs, rfl, hl, hd⟩ := dp_lst dv
      obtain ⟨y0, y1, rfl, d0, d1⟩ : ∃ y0 y1, xs = [y0, y1] ∧ Dp K G3 y0 (.str s) ∧ Dp K G3 y1 (.int z) := by
        cases hd with
        | cons q0 r => cases r with
          | cons q1 r => cases r; exact ⟨_, _, rfl, q0, q1⟩
      cases d0
      cases d1
      have sa : SqA K G3 (.ref l) [.str s, .int z] := ⟨l, rfl, .inl hl⟩
      refine st_ret (P := DV K (.list [.bool true, .str s, .int z])) (g3.ok.trans e4) ((el_lst (R := fun vs _ => vs = [.bl true, .str s, .int z]) (ea_x ex_c (ea_x (ex_ixA (i := 0) (ex_var rfl) ex_c sa rfl) (ea_x (ex_ixA (i := 1) (ex_var rfl) ex_c sa rfl) ea_nil))) (by simp) fun vs G' _ ev => by rw [ev]; exact .cons (.bl _) (.cons (.str _) (.cons (.int _) .nil))).ls_dv) fun v G' H' g p => ?_
      rw [hD]
      refine k v G' H' ((g3.then e4).trans g) ?_
      rw [ed]
      exact p
    cases hh : headR (t.lens.length : Int) t.joints way with
    | bad i =>
      rw [hh] at p3
      refine st_if0 g3.ok (et_test (EF.bl (ex_isN (ex_var (v := v3) rfl) ex_c) (by cases p3; rfl))) fun H4 e4 => bad e4 p3 rfl (by rw [hh]; rfl)
    | no b =>
      rw [hh] at p3
      refine st_if0 g3.ok (et_test (EF.bl (ex_isN (ex_var (v := v3) rfl) ex_c) (by cases p3; rfl))) fun H4 e4 => bad e4 p3 rfl (by rw [hh]; rfl)
    | way c =>
      rw [hh] at p3 k
      have hin := headR_in hh
      cases (show Dp K G3 v3 .none from p3)
      refine st_if (p := (· = true)) g3.ok (et_test (EF.bl (ex_isN (ex_var (v := .non) rfl) ex_c) rfl)) (fun _ H4 e4 => ?_) (fun z => nomatch z)
      exact st_ret (P := DV K (tolDD (dI (relsOf t.lens len way)))) (g3.ok.trans e4) (ef_tup (ea_two mo_XV mo_LS (ex_c (v := .str "told")) (ef_call (P := LS K ((relsOf t.lens len way).map PyData.int)) (ea_three mo_DV mo_XV mo_XV (ed_t0 rfl (dpx dt g3.up)) (ex_var (v := .ref a) rfl) (ex_var (v := .int len) rfl)) fun vs G' e ⟨u, v, y, ev, hu, hv, hy⟩ => by rw [ev, show v = _ from hv, show y = _ from hy]; exact sa_lr hu (Evl.ex_l (g3.up.trans e) hs) hin hl)) (fun vs _ ⟨u, z, ev, _⟩ => by rw [ev]; simp) fun q vs G' _ _ gq ⟨u, z, ev, hu, hz⟩ => dp_mkT upd_same (by rw [ev, show u = _ from hu]; exact .cons (.str _) (.cons (dpx hz.dp (ex_in gq)) .nil))) fun v G' H' g p => k v G' H' ((g3.then e4).trans g) p
end
end Kx

set_option Elab.async false
set_option linter.all false
set_option maxRecDepth 100000
set_option maxHeartbeats 8000000
/-! spoilt ways, and lengths of trains -/
namespace Kx
open PySem L2 Lw
open Evl (Ex)
abbrev s_spoilt_way : Stmt := top 29
theorem sc_spoilt_way : FnScope ["_law_track_here", "_law_way_here", "_law_cell_here", "_law_spoilt", "_law_choice", "_law_at", "_law_strange"] ["_law_track_here", "_law_way_here", "_law_cell_here"] (defScope s_spoilt_way) := ⟨rfl, rfl, rfl, by decide +kernel, rfl, by decide +kernel, by decide +kernel⟩
abbrev s_size : Stmt := top 30
theorem sc_size : FnScope ["_law_track_here", "_law_way_here", "_law_cell_here", "_law_factor", "_law_size_here", "_law_first", "_law_last", "_law_block"] ["_law_track_here", "_law_way_here", "_law_cell_here", "_law_factor"] (defScope s_size) := ⟨rfl, rfl, rfl, by decide +kernel, rfl, by decide +kernel, by decide +kernel⟩
section
variable {K : PySem.W.Frag} {σ : L2.St} {G H : Hp} {ta tb tc : TE}
theorem ei_max1 {z : Int} (ha : EF ta σ G (XV (.int z))) (hb : EF tb σ G (IV fun _ => True)) : EF (tCB rMaxI (tCons ta (tCons tb tNil))) σ G (IV fun y => z ≤ y) := fun H e Q k => (ea_two mo_XV mo_IV ha hb) H e _ fun vs G1 H1 g1 ⟨x, y, ev, hx, b, hy, _⟩ =>
  ⟨z, b, by rw [ev, show x = _ from hx, hy], k _ G1 H1 g1 ⟨_, rfl, by split <;> omega⟩⟩
theorem ef_cut2 {a : Addr} {way : List Int} {i j : Int} (ha : EF ta σ G (XV (.ref a))) (hs : SqL K G a (way.map V.int)) (hb : EF tb σ G (XV (.int i))) (hc : EF tc σ G (XV (.int j))) : ∃ ns : List Int, (∀ b ∈ ns, b ∈ way) ∧ ns.length ≤ way.length ∧ EF (tSl (rSlL K) ta (tPart tb) (tPart tc)) σ G fun v G' => ∃ r, v = .ref r ∧ SqL K G' r (ns.map V.int) := by
  refine ⟨(way.drop (HT.sIx (way.map V.int).length 0 (some i))).take (HT.sIx (way.map V.int).length (way.map V.int).length (some j) - HT.sIx (way.map V.int).length 0 (some i)), fun b m => List.mem_of_mem_drop (List.mem_of_mem_take m), by rw [List.length_take, List.length_drop]; omega, fun H e Q q => ha H e _ fun x G1 H1 g1 hx => hb H1 (g1.up.trans g1.ok) _ fun y G2 H2 g2 hy => ⟨i, hy, hc H2 (g1.up.trans (g1.ok.trans g2.hp)) _ fun z G3 H3 g3 hz => ?_⟩⟩
  obtain ⟨G4, e1, e2, g4⟩ := g1.join (g2.join g3).choose_spec.2.2
  cases (show x = .ref a from hx)
  refine ⟨j, hz, a, _, rfl, Evl.ex_l (g4.up.trans g4.ok) hs, fun p hp => ?_⟩
  refine q _ _ _ (g4.trans (.new g4.ok hp)) ⟨p, rfl, Evl.sq_of ?_⟩
  rw [upd_same]
  unfold cutV
  rw [← List.map_drop, ← List.map_take]
end
section
variable {P : Program} {w : World} {K : PySem.W.Frag} {mg : Str → Option Value} {base : Heap} {f : Addr} {fd : FuncData}
def spSpoil (K : PySem.W.Frag) : Sp := fun vs H Q _ => ∃ (G : Hp) (x : V) (t : Trk) (a : Addr) (way : List Int) (c : Int), Ex G H ∧ vs = [x, .ref a, .int c] ∧ Dp K G x (dT t) ∧ TrkOk t ∧ SqL K G a (way.map V.int) ∧ 1 ≤ way.length ∧ way.length ≤ 300 ∧ Ret G H (WL K fun r => r.length ≤ way.length + 1) Q
theorem ok_spoil (B : Blt mg) (F : Fun K "_law_spoilt_way" "_law_spoilt_way" s_spoilt_way f fd) (Cd : Cal P w K mg base "_law_draw" 1 ["_law_cell_here", "_law_k", "_law_size_here"] spDraw) : FnOk P w K mg base CX0 2 f fd ["_law_track_here", "_law_way_here", "_law_cell_here"] (spSpoil K) := by
  obtain ⟨f1, fd1, G_draw, m_draw, k_draw, b_draw⟩ := Cd
  have m_len := B.len
  have m_list := B.list
  refine F.ok sc_spoilt_way (fun vs H Q E h => ?_) (fun cdv A outer s H vs Q E hr h => ?_)
  · obtain ⟨G, x, t, a, way, c, _, rfl, _⟩ := h
    rfl
  · obtain ⟨G, x, t, a, way, c, hG, rfl, dx, ht, hs, l1, l3, k⟩ := h
    refine ⟨_, (pss_cons (ps_set (i := 3) sc_spoilt_way.nd rfl (by first | exact Or.inl rfl | exact Or.inr rfl) (pe_callTy call_list_of (by rfl) m_list (by decide +kernel) (pa_cons (pv 1) pa_nil)))
 (pss_cons (ps_set (i := 4) sc_spoilt_way.nd rfl (by first | exact Or.inl rfl | exact Or.inr rfl) (pe_call G_draw (hr.mono (by decide)) rfl m_draw k_draw b_draw .nil pass0 (pa_cons (pv 2) (pa_cons pe_int (pa_cons pe_int pa_nil)))))
 (pss_cons (ps_set (i := 5) sc_spoilt_way.nd rfl (by first | exact Or.inl rfl | exact Or.inr rfl) (pe_call G_draw (hr.mono (by decide)) rfl m_draw k_draw b_draw .nil pass0 (pa_cons (pv 2) (pa_cons pe_int (pa_cons (pe_callB call_len_seq (by rfl) m_len PySem.boot_len (pa_cons (pv 1) pa_nil)) pa_nil)))))
 (Evl.pss_cut (ps_if (pt_cmpR op_eq (pv 4) pe_int (nomark _))
 (pss_one (ps_set (i := 3) sc_spoilt_way.nd rfl (by first | exact Or.inl rfl | exact Or.inr rfl) (pe_op op_cat (pe_slice sl_list (pv 1) po_none (po_some (pv 5))) (pe_slice sl_list (pv 1) (po_some (pe_op op_add (pv 5) pe_int)) po_none)))) pss_nil)
 (Evl.pss_cut (ps_if (pt_cmpR op_eq (pv 4) pe_int (nomark _))
 (pss_one (ps_expr (pe_bm PySem.F.plainAttrs_list PySem.F.slot_list_insert PySem.F.type_list_insert mt_insert (pv 3) (pa_cons (pv 5) (pa_cons (pe_ix ix_list (pv 1) (pv 5) (fun _ _ => rfl)) pa_nil))))) pss_nil)
 (Evl.pss_cut (ps_if (PW.pt (pw_and (pt_cmpR op_eq (pv 4) pe_int (nomark _)) (pw_and1 (pt_cmpR op_gt (pv 5) pe_int (nomark _)))))
 (pss_cons (ps_asg (pe_ix ix_list (pv 1) (pe_op op_sub (pv 5) pe_int) (fun _ _ => rfl)) (pg_sub (pv 3) (pv 5) set_list))
 (pss_one (ps_asg (pe_ix ix_list (pv 1) (pv 5) (fun _ _ => rfl)) (pg_sub (pv 3) (pe_op op_sub (pv 5) pe_int) set_list)))) pss_nil)
 (Evl.pss_cut (ps_if (pt_cmpR op_eq (pv 4) pe_int (nomark _))
 (pss_cons (ps_set (i := 6) sc_spoilt_way.nd rfl (by first | exact Or.inl rfl | exact Or.inr rfl) (pe_lst (pa_cons (pe_un un_neg pe_int) (pa_cons (pe_callB call_len_seq (by rfl) m_len PySem.boot_len (pa_cons (pe_ix ix_tup (pv 0) pe_int (fun _ _ => rfl)) pa_nil)) (pa_cons (pe_op op_add (pe_callB call_len_seq (by rfl) m_len PySem.boot_len (pa_cons (pe_ix ix_tup (pv 0) pe_int (fun _ _ => rfl)) pa_nil)) pe_int) (pa_cons (pe_call G_draw (hr.mono (by decide)) rfl m_draw k_draw b_draw .nil pass0 (pa_cons (pv 2) (pa_cons pe_int (pa_cons (pe_callB call_len_seq (by rfl) m_len PySem.boot_len (pa_cons (pe_ix ix_tup (pv 0) pe_int (fun _ _ => rfl)) pa_nil)) pa_nil)))) pa_nil))))))
 (pss_one (ps_asg (pe_ix ix_list (pv 6) (pe_call G_draw (hr.mono (by decide)) rfl m_draw k_draw b_draw .nil pass0 (pa_cons (pv 2) (pa_cons pe_int (pa_cons pe_int pa_nil)))) (fun _ _ => rfl)) (pg_sub (pv 3) (pv 5) set_list)))) pss_nil)
 (pss_one (ps_ret (pv 3)))))))))), ?_⟩
    have few := ht.few
    have pos := ht.pos
    have cv : ∀ {σ : L2.St} {G' : Hp}, σ[2]? = some (some (.int c)) → EF (tVar 2) σ G' (IV fun _ => True) := fun h => EF.ivp (ex_var h) trivial
    have ln : ∀ {σ : L2.St} {G' : Hp}, Ex G G' → σ[1]? = some (some (.ref a)) → EF (tCB (Evl.rLenS K) (tCons (tVar 1) tNil)) σ G' (XV (.int (way.length : Int))) := fun e h => (ex_lenL (ex_var h) (Evl.ex_l e hs)).imp fun v _ _ p => by rw [show v = _ from p, List.length_map]; rfl
    have rv : ∀ {σ : L2.St} {G' : Hp}, Ex G G' → σ[1]? = some (some (.ref a)) → EF (tVar 1) σ G' (DV K (dI way)) := fun e h => EF.dv (ex_var h) (dv_row (Evl.ex_l e hs))
    have ix : ∀ {σ : L2.St} {G' : Hp} {i : Nat} {te : TE}, Ex G G' → σ[1]? = some (some (.ref a)) → i < way.length → EF te σ G' (XV (.int (i : Int))) → EF (tOp (rIxL K) (tVar 1) te) σ G' (IV fun _ => True) := fun {σ G' i te} e h1 hz he => EF.ivp (ex_ixL (v := .int way[i]) (ex_var h1) he rfl (Evl.ex_l e hs) (by rw [List.getElem?_map, List.getElem?_eq_getElem hz]; rfl)) trivial
    have tl : ∀ {σ : L2.St} {G' : Hp}, Ex G G' → σ[0]? = some (some x) → EF (tCB (Evl.rLenS K) (tCons (tOp (rIxT K) (tVar 0) (tC (.int 0))) tNil)) σ G' (XV (.int (t.lens.length : Int))) := fun e h => (ex_lenD (ed_t0 h (dpx dx e))).imp fun v _ _ p => by rw [show v = _ from p, List.length_map]; rfl
    refine st_asg (P := fun v G' => ∃ q xs, v = .ref q ∧ G q = none ∧ G' q = some (.lst xs) ∧ DpAll K G' xs (way.map PyData.int)) hG (ed_list (rv (.refl G) rfl)) fun v3 G3 H3 g3 p3 => ?_
    obtain ⟨q0, xs, rfl, gq0, hq0, hd0⟩ := p3
    rw [dpa_ints_eq hd0] at hq0
    have fr0 : H q0 = none := g3.fresh gq0 hq0
    have hq0' := g3.ok _ _ hq0
    -- knowledge without the new list
    have gS : Gr G G H H3 := .same hG g3.hp
    dsimp only
    refine st_asg (P := IV fun z => 0 ≤ z ∧ z < 8) gS.ok (ei_draw (n := 8) (cv rfl) (EF.ivp ex_c ⟨by omega, by omega⟩) (EF.iv ex_c) (by omega) (by omega)) fun v4 G4 H4 g4 p4 => ?_
    obtain ⟨ch, rfl, _⟩ := p4
    dsimp only
    refine st_asg (P := IV fun z => 0 ≤ z ∧ z < (way.length : Int)) (hG.trans (g3.hp.trans g4.hp)) (ei_draw (n := (way.length : Int)) (cv rfl) (EF.ivp ex_c ⟨by omega, by omega⟩) (EF.iv (ln (.refl G) rfl)) (by omega) (by omega)) fun v5 G5 H5 g5 p5 => ?_
    obtain ⟨at', rfl, hat⟩ := p5
    obtain ⟨i, rfl⟩ : ∃ i : Nat, at' = (i : Int) := ⟨at'.toNat, by omega⟩
    have hi : i < way.length := by omega
    have e5 := g3.hp.trans (g4.hp.trans g5.hp)
    have hq5 : H5 q0 = some (.lst (way.map V.int)) := g5.hp _ _ (g4.hp _ _ hq0')
    have chv : ∀ {σ : L2.St} {G' : Hp} {z : Int}, σ[4]? = some (some (.int ch)) → ET (tTest (tOp rEq (tVar 4) (tC (.int z)))) σ G' (· = decide (ch = z)) := fun h => et_eqI (ex_var h) ex_c
    obtain ⟨St, hSt⟩ : ∃ St : (Nat → Prop) → L2.St → Hp → Prop, St = fun p σ' H' => ∃ (Gk : Hp) (q : Addr) (ls : List Int) (v6 : Option V), σ' = [some x, some (.ref a), some (.int c), some (.ref q), some (.int ch), some (.int (i : Int)), v6] ∧ Gr G Gk H H' ∧ ls.length ≤ way.length + 1 ∧ ((ch = 0 ∧ SqL K Gk q (ls.map V.int)) ∨ (ch ≠ 0 ∧ Gk q = none ∧ H q = none ∧ H' q = some (.lst (ls.map V.int)) ∧ p ls.length)) := ⟨_, rfl⟩
    refine ⟨St fun n => n = way.length, ?_, ?_⟩
    · rw [hSt]
      refine st_if (p := (· = decide (ch = 0))) (hG.trans e5) (chv rfl) (fun h H6 e6 => ?_) (fun h H6 e6 => ?_)
      · have h := of_decide_eq_true h.symm
        refine st_asg (P := WL K fun r => r.length ≤ way.length + 1) (hG.trans (e5.trans e6)) (er_cat (p := fun r => r.length = i) (q := fun r => r.length = way.length - (i + 1)) (er_to (rv (.refl G) rfl) (ex_var rfl) (by rw [List.length_take]; omega)) (er_from (k := i + 1) (rv (.refl G) rfl) (ex_add (ex_var (v := .int (i : Int)) rfl) (ex_c (v := .int 1))) (by rw [List.length_drop])) (fun x y hx hy => by rw [List.length_append]; omega) fun x y hx hy => by omega).wl fun v G7 H7 g7 ⟨r, row, ev, hr, sr⟩ => ?_
        subst ev
        exact ⟨G7, r, row, _, rfl, (Gr.same hG (e5.trans e6)).trans g7, hr, .inl ⟨h, sr⟩⟩
      · exact ⟨G, q0, way, _, rfl, .same hG (e5.trans e6), by omega, .inr ⟨of_decide_eq_false h.symm, gq0, fr0, e6 _ _ hq5, rfl⟩⟩
    rw [hSt]
    rintro σ1 H6 ⟨G6, q, ls, v6, rfl, g6, hl6, hc6⟩
    refine ⟨St fun n => ch ≠ 1 → n = way.length, ?_, ?_⟩
    · rw [hSt]
      refine st_if (p := (· = decide (ch = 1))) g6.ok (chv rfl) (fun h H7 e7 => ?_) (fun h H7 e7 => ?_)
      · have h := of_decide_eq_true h.symm
        rcases hc6 with ⟨z, _⟩ | ⟨_, gq, fr, hq, hn⟩
        · omega
        refine st_insV (m := (way.length : Int)) (P := IV fun _ => True) (g6.ok.trans e7) (e7 _ _ hq) (by rw [List.length_map]; omega) rfl (EF.ivp (ex_var (v := .int (i : Int)) rfl) ⟨by omega, by omega⟩) (by omega) (ix (i := i) g6.up rfl hi (ex_var rfl)) fun z v G2 H2 g2 hz pv => ?_
        obtain ⟨y, rfl, _⟩ := pv
        have gq2 : G2 q = none := g2.2.2.2 q (ne_none_of (e7 _ _ hq)) gq
        refine ⟨G2, q, ls.take z.toNat ++ [y] ++ ls.drop z.toNat, _, rfl, Gr.put ((g6.then e7).trans g2) fr gq2, by simp; omega, .inr ⟨by omega, gq2, fr, by rw [upd_same]; simp, fun z => absurd h z⟩⟩
      · refine ⟨G6, q, ls, _, rfl, g6.then e7, hl6, hc6.imp id fun ⟨a1, a2, a3, a4, a5⟩ => ⟨a1, a2, a3, e7 _ _ a4, fun _ => a5⟩⟩
    rw [hSt]
    rintro σ2 H7 ⟨G7, q, ls, v6, rfl, g7, hl7, hc7⟩
    refine ⟨St fun n => ch ≠ 1 → n = way.length, ?_, ?_⟩
    · rw [hSt]
      refine st_if (p := (· = decide (ch = 2 ∧ (i : Int) > 0))) g7.ok (et_andD (chv rfl) fun _ => et_gtI (ex_var rfl) ex_c) (fun h H8 e8 => ?_) (fun h H8 e8 => ?_)
      · have h := of_decide_eq_true h.symm
        rcases hc7 with ⟨z, _⟩ | ⟨_, gq, fr, hq, hn⟩
        · omega
        have hn := hn (by omega)
        refine st_setQ (q := q) (ys := ls.map V.int) (i := 3) (p := fun _ => True) (P := IV fun _ => True) (g7.ok.trans e8) (e8 _ _ hq) rfl (ix (i := i - 1) g7.up rfl (by omega) ((ex_sub (ex_var (v := .int (i : Int)) rfl) (ex_c (v := .int 1))).imp fun v _ _ p => by rw [show v = _ from p, show ((i - 1 : Nat) : Int) = (i : Int) - 1 by omega]; rfl)) ((EF.iv (ex_var (v := .int (i : Int)) rfl)).imp fun v _ _ ⟨z, ez, hz⟩ => ⟨z, ez, i, by omega, by rw [List.length_map]; omega, trivial⟩) fun j v G9 H9 hj _ g9 pv => ?_
        obtain ⟨y, rfl, _⟩ := pv
        have gq9 : G9 q = none := g9.2.2.2 q (ne_none_of (e8 _ _ hq)) gq
        have gA := Gr.put (o := .lst ((ls.map V.int).set j (.int y))) ((g7.then e8).trans g9) fr gq9
        refine st_setQ (q := q) (ys := (ls.map V.int).set j (.int y)) (i := 3) (p := fun _ => True) (P := IV fun _ => True) gA.ok upd_same rfl (ix (i := i) gA.up rfl hi (ex_var rfl)) ((EF.iv (ex_sub (ex_var (v := .int (i : Int)) rfl) (ex_c (v := .int 1)))).imp fun v _ _ ⟨z, ez, hz⟩ => ⟨z, ez, i - 1, by omega, by rw [List.length_set, List.length_map]; omega, trivial⟩) fun j2 v2 Ga Ha hj2 _ ga pv2 => ?_
        obtain ⟨y2, rfl, _⟩ := pv2
        have gqa : Ga q = none := ga.2.2.2 q (ne_none_of upd_same) gq9
        refine ⟨Ga, q, (ls.set j y).set j2 y2, _, rfl, Gr.put (gA.trans ga) fr gqa, by simp; omega, .inr ⟨by omega, gqa, fr, by rw [upd_same]; simp [List.map_set], fun _ => by simp; omega⟩⟩
      · exact ⟨G7, q, ls, _, rfl, g7.then e8, hl7, hc7.imp id fun ⟨a1, a2, a3, a4, a5⟩ => ⟨a1, a2, a3, e8 _ _ a4, a5⟩⟩
    rw [hSt]
    rintro σ3 H8 ⟨G8, q, ls, v6, rfl, g8, hl8, hc8⟩
    refine ⟨St fun _ => True, ?_, ?_⟩
    · rw [hSt]
      refine st_if (p := (· = decide (ch = 3))) g8.ok (chv rfl) (fun h H9 e9 => ?_) (fun h H9 e9 => ?_)
      · have h := of_decide_eq_true h.symm
        rcases hc8 with ⟨z, _⟩ | ⟨_, gq, fr, hq, hn⟩
        · omega
        have hn := hn (by omega)
        refine st_asg (P := fun v G' => ∃ (r : Addr) (n4 : Int), v = .ref r ∧ G' r = some (.lst [.int (-1), .int (t.lens.length : Int), .int ((t.lens.length : Int) + 5), .int n4])) (g8.ok.trans e9) (ef_lst (R := fun vs _ => ∃ n4 : Int, vs = [.int (-1), .int (t.lens.length : Int), .int ((t.lens.length : Int) + 5), .int n4]) ((ea_four (Pa := XV (.int (-1))) (Pb := XV (.int (t.lens.length : Int))) (Pc := XV (.int ((t.lens.length : Int) + 5))) mo_XV mo_XV mo_XV mo_IV ex_neg (tl g8.up rfl) (ex_add (tl g8.up rfl) (ex_c (v := .int 5))) (ei_draw (n := (t.lens.length : Int)) (cv rfl) (EF.ivp ex_c ⟨by omega, by omega⟩) (EF.iv (tl g8.up rfl)) (by omega) (by omega))).imp fun vs G' _ ⟨x, y, z, u, ev, hx, hy, hz, n4, hu, _⟩ => ⟨n4, by rw [ev, show x = _ from hx, show y = _ from hy, show z = _ from hz, hu]⟩) (fun vs _ ⟨_, ev⟩ => by rw [ev]; simp) fun r vs G' _ _ _ ⟨n4, ev⟩ => ⟨r, n4, rfl, by rw [ev]; exact upd_same⟩) fun v Ga Ha ga pv => ?_
        obtain ⟨r, n4, rfl, hr⟩ := pv
        have gqa : Ga q = none := ga.2.2.2 q (ne_none_of (e9 _ _ hq)) gq
        have gB := (g8.then e9).trans ga
        dsimp only
        refine st_setQ (q := q) (ys := ls.map V.int) (i := 3) (p := fun _ => True) (P := IV fun _ => True) gB.ok (ga.hp _ _ (e9 _ _ hq)) rfl (ed_ixL (ds := ([-1, (t.lens.length : Int), (t.lens.length : Int) + 5, n4] : List Int).map PyData.int) (q := fun z => 0 ≤ z ∧ z < 4) (EF.dv (ex_var (v := .ref r) rfl) (dp_mkL hr (dpa_ints [-1, (t.lens.length : Int), (t.lens.length : Int) + 5, n4]))) (ei_draw (n := 4) (cv rfl) (EF.ivp ex_c ⟨by omega, by omega⟩) (EF.iv ex_c) (by omega) (by omega)) fun z hz => ?_) ((EF.iv (ex_var (v := .int (i : Int)) rfl)).imp fun v _ _ ⟨z, ez, hz⟩ => ⟨z, ez, i, by omega, by rw [List.length_map]; omega, trivial⟩) fun j v Gc Hc hj _ gc pv => ?_
        · have hj : z.toNat < ([-1, (t.lens.length : Int), (t.lens.length : Int) + 5, n4] : List Int).length := by simp; omega
          exact ⟨z.toNat, .int ([-1, (t.lens.length : Int), (t.lens.length : Int) + 5, n4] : List Int)[z.toNat], by omega, by rw [List.getElem?_map, List.getElem?_eq_getElem hj]; rfl, fun v G' d => by cases d; exact ⟨_, rfl, trivial⟩⟩
        · obtain ⟨y, rfl, _⟩ := pv
          have gqc : Gc q = none := gc.2.2.2 q (ne_none_of (ga.hp _ _ (e9 _ _ hq))) gqa
          exact ⟨Gc, q, ls.set j y, _, rfl, Gr.put (gB.trans gc) fr gqc, by simp; omega, .inr ⟨by omega, gqc, fr, by rw [upd_same, List.map_set], trivial⟩⟩
      · exact ⟨G8, q, ls, _, rfl, g8.then e9, hl8, hc8.imp id fun ⟨a1, a2, a3, a4, a5⟩ => ⟨a1, a2, a3, e9 _ _ a4, trivial⟩⟩
    rw [hSt]
    rintro σ4 H9 ⟨G9, q, ls, v6, rfl, g9, hl9, hc9⟩
    rcases hc9 with ⟨_, sq⟩ | ⟨_, gq, fr, hq, _⟩
    · exact st_ret (P := XV (.ref q)) g9.ok (ex_var rfl) fun v G' H' g p => k v G' H' (g9.trans g) ⟨q, ls, p, hl9, Evl.ex_l g.up sq⟩
    · have gK := Gr.know hG g9 fr hq
      exact st_ret (P := XV (.ref q)) gK.ok (ex_var rfl) fun v G' H' g p => k v G' H' (gK.trans g) ⟨q, ls, p, hl9, Evl.ex_l g.up (Evl.sq_of upd_same)⟩
def spSizeT (K : PySem.W.Frag) : Sp := fun vs H Q _ => ∃ (G : Hp) (x : V) (t : Trk) (a : Addr) (way : List Int) (c fc : Int), Ex G H ∧ vs = [x, .ref a, .int c, .int fc] ∧ Dp K G x (dT t) ∧ SqL K G a (way.map V.int) ∧ WayP t way ∧ 1 ≤ fc ∧ fc ≤ 10 ^ 9 ∧ Ret G H (IV fun z => 1 ≤ z) Q
theorem ok_size (B : Blt mg) (m_sum : mg "sum" = none) (m_max : mg "max" = none) (F : Fun K "_law_size" "_law_size" s_size f fd) (Cd : Cal P w K mg base "_law_draw" 1 ["_law_cell_here", "_law_k", "_law_size_here"] spDraw) : FnOk P w K mg base CX0 2 f fd ["_law_track_here", "_law_way_here", "_law_cell_here", "_law_factor"] (spSizeT K) := by
  obtain ⟨f1, fd1, G_draw, m_draw, k_draw, b_draw⟩ := Cd
  have m_len := B.len
  refine F.ok sc_size (fun vs H Q E h => ?_) (fun cdv A outer s H vs Q E hr h => ?_)
  · obtain ⟨G, x, t, a, way, c, fc, _, rfl, _⟩ := h
    rfl
  · obtain ⟨G, x, t, a, way, c, fc, hG, rfl, dx, hs, hw, f1', f2', k⟩ := h
    refine ⟨_, (pss_cons (ps_set (i := 4) sc_size.nd rfl (by first | exact Or.inl rfl | exact Or.inr rfl) (pe_op op_mul (pv 3) (pe_op op_add pe_int (pe_call G_draw (hr.mono (by decide)) rfl m_draw k_draw b_draw .nil pass0 (pa_cons (pv 2) (pa_cons pe_int (pa_cons pe_int pa_nil)))))))
 (Evl.pss_cut (ps_if (pt_cmpR op_eq (pe_call G_draw (hr.mono (by decide)) rfl m_draw k_draw b_draw .nil pass0 (pa_cons (pv 2) (pa_cons pe_int (pa_cons pe_int pa_nil)))) pe_int (nomark _))
 (pss_one (ps_set (i := 4) sc_size.nd rfl (by first | exact Or.inl rfl | exact Or.inr rfl) (pe_op op_pow pe_int pe_int))) pss_nil)
 (Evl.pss_cut (ps_if (PW.pt (pw_and (pt_cmpR op_gt (pe_callB call_len_seq (by rfl) m_len PySem.boot_len (pa_cons (pv 1) pa_nil)) pe_int (nomark _)) (pw_and1 (pt_cmpR op_eq (pe_call G_draw (hr.mono (by decide)) rfl m_draw k_draw b_draw .nil pass0 (pa_cons (pv 2) (pa_cons pe_int (pa_cons pe_int pa_nil)))) pe_int (nomark _)))))
 (pss_cons (ps_set (i := 5) sc_size.nd rfl (by first | exact Or.inl rfl | exact Or.inr rfl) (pe_op op_add pe_int (pe_call G_draw (hr.mono (by decide)) rfl m_draw k_draw b_draw .nil pass0 (pa_cons (pv 2) (pa_cons pe_int (pa_cons (pe_op op_sub (pe_callB call_len_seq (by rfl) m_len PySem.boot_len (pa_cons (pv 1) pa_nil)) pe_int) pa_nil))))))
 (pss_cons (ps_set (i := 6) sc_size.nd rfl (by first | exact Or.inl rfl | exact Or.inr rfl) (pe_op op_add (pv 5) (pe_call G_draw (hr.mono (by decide)) rfl m_draw k_draw b_draw .nil pass0 (pa_cons (pv 2) (pa_cons pe_int (pa_cons (pe_op op_sub (pe_callB call_len_seq (by rfl) m_len PySem.boot_len (pa_cons (pv 1) pa_nil)) (pv 5)) pa_nil))))))
 (pss_cons (ps_set (i := 4) sc_size.nd rfl (by first | exact Or.inl rfl | exact Or.inr rfl) (pe_callB (cr_sum rfl) (by rfl) m_sum (by decide +kernel) (pa_cons (pe_lc (own := [("_law_block", 7)]) (g := (gName 7)) (tt := tYes) (te := (tOp (rIxL K) (tOp (rIxT K) (tVar 0) (tC (.int 0))) (tVar 7))) rfl sc_size.nd (pi_list (pe_slice sl_list (pv 1) (po_some (pv 5)) (po_some (pe_op op_add (pv 6) pe_int)))) (blkOk_by (N := ["_law_track_here", "_law_way_here", "_law_cell_here", "_law_factor", "_law_size_here", "_law_first", "_law_last", "_law_block"]) (sc := defScope s_size) (by decide +kernel)) (fun _ _ _ _ _ => pg_name (i := 7) sc_size.nd rfl (Or.inl rfl)) (fun _ _ _ _ _ => pts_nil) (fun _ _ _ _ _ => (pe_ix ix_list (pe_ix ix_tup (pv 0) pe_int (fun _ _ => rfl)) (pv 7) (fun _ _ => rfl)))) pa_nil)))
 (pss_one (ps_set (i := 4) sc_size.nd rfl (by first | exact Or.inl rfl | exact Or.inr rfl) (pe_callB (call_max2 rfl) (by rfl) m_max (by decide +kernel) (pa_cons pe_int (pa_cons (pe_op op_add (pv 4) (pe_ix ix_list (pe_lst (pa_cons pe_int (pa_cons pe_int (pa_cons pe_int (pa_cons (pe_un un_neg pe_int) pa_nil))))) (pe_call G_draw (hr.mono (by decide)) rfl m_draw k_draw b_draw .nil pass0 (pa_cons (pv 2) (pa_cons pe_int (pa_cons pe_int pa_nil)))) (fun _ _ => rfl))) pa_nil)))))))) pss_nil)
 (pss_one (ps_ret (pv 4)))))), ?_⟩
    obtain ⟨w1, w2, w3⟩ := hw
    have cv : ∀ {σ : L2.St} {G' : Hp}, σ[2]? = some (some (.int c)) → EF (tVar 2) σ G' (IV fun _ => True) := fun h => EF.ivp (ex_var h) trivial
    have dr : ∀ {σ : L2.St} {G' : Hp} {j m : Int}, σ[2]? = some (some (.int c)) → 0 ≤ j → j ≤ 100 → 1 ≤ m → m ≤ 2000 → EF (tCall spDraw [] E0 (tCons (tVar 2) (tCons (tC (.int j)) (tCons (tC (.int m)) tNil)))) σ G' (IV fun z => 0 ≤ z ∧ z < m) := fun {σ G' j m} h1 h2 h3 h4 h5 => ei_draw (n := m) (cv h1) (EF.ivp ex_c ⟨by omega, by omega⟩) (EF.iv ex_c) (by omega) (by omega)
    have ln : ∀ {σ : L2.St} {G' : Hp}, Ex G G' → σ[1]? = some (some (.ref a)) → EF (tCB (Evl.rLenS K) (tCons (tVar 1) tNil)) σ G' (XV (.int (way.length : Int))) := fun e h => (ex_lenL (ex_var h) (Evl.ex_l e hs)).imp fun v _ _ p => by rw [show v = _ from p, List.length_map]; rfl
    refine st_asg (P := IV fun z => 1 ≤ z) hG (ei_mul (p := (· = fc)) (q := fun z => 1 ≤ z) (EF.iv (ex_var rfl)) (ei_add (p := (· = 1)) (q := fun z => 0 ≤ z ∧ z < 40) (EF.iv ex_c) (dr rfl (by omega) (by omega) (by omega) (by omega)) fun a b ha hb => by omega) (fun a ha => by omega) fun a b ha hb => ?_) fun v4 G4 H4 g4 p4 => ?_
    · have : (1 : Int) * 1 ≤ a * b := Int.mul_le_mul (by omega) hb (by omega) (by omega)
      omega
    obtain ⟨z4, rfl, h4⟩ := p4
    refine ⟨fun σ' H' => ∃ Gk z, Gr G Gk H H' ∧ 1 ≤ z ∧ σ' = [some x, some (.ref a), some (.int c), some (.int fc), some (.int z), none, none, none], ?_, ?_⟩
    · refine st_if (p := fun _ => True) g4.ok (et_test (ei_eq (s := fun _ => True) (dr rfl (by omega) (by omega) (by omega) (by omega)) (EF.iv ex_c) fun _ _ _ _ => trivial)) (fun _ H5 e5 => ?_) (fun _ H5 e5 => ⟨G4, z4, g4.then e5, h4, rfl⟩)
      refine st_asg (P := XV (.int (10 ^ (12 : Int).toNat))) (g4.ok.trans e5) (ex_pow ex_c ex_c ⟨by omega, by omega, by decide⟩) fun v5 G5 H6 g5 p5 => ⟨G5, 10 ^ (12 : Int).toNat, (g4.then e5).trans g5, ?_, by cases (show v5 = _ from p5); rfl⟩
      decide
    rintro σ1 H5 ⟨G5, z5, g5, h5, rfl⟩
    refine ⟨fun σ' H' => ∃ Gk z v5 v6 v7, Gr G Gk H H' ∧ 1 ≤ z ∧ σ' = [some x, some (.ref a), some (.int c), some (.int fc), some (.int z), v5, v6, v7], ?_, ?_⟩
    · refine st_if (p := fun b => b = true → 1 < (way.length : Int)) g5.ok (et_and (p := (· = decide ((way.length : Int) > 1))) (q := fun _ => True) (et_gtI (ln g5.up rfl) ex_c) (fun _ => et_test (ei_eq (s := fun _ => True) (dr rfl (by omega) (by omega) (by omega) (by omega)) (EF.iv ex_c) fun _ _ _ _ => trivial)) (fun h _ _ _ => of_decide_eq_true h.symm) fun _ z => nomatch z) (fun h H6 e6 => ?_) (fun _ H6 e6 => ⟨G5, z5, _, _, _, g5.then e6, h5, rfl⟩)
      have h := h rfl
      refine st_asg (P := IV fun z => 1 ≤ z ∧ z < (way.length : Int)) (g5.ok.trans e6) (ei_add (p := (· = 1)) (q := fun z => 0 ≤ z ∧ z < (way.length : Int) - 1) (EF.iv ex_c) (ei_draw (n := (way.length : Int) - 1) (cv rfl) (EF.ivp ex_c ⟨by omega, by omega⟩) (EF.iv (ex_sub (ln g5.up rfl) (ex_c (v := .int 1)))) (by omega) (by omega)) fun a b ha hb => by omega) fun v6 G6 H7 g6 p6 => ?_
      obtain ⟨fi, rfl, hfi⟩ := p6
      have gA := (g5.then e6).trans g6
      dsimp only
      refine st_asg (P := IV fun z => True) gA.ok (ei_add (p := fun _ => True) (q := fun _ => True) (EF.ivp (ex_var (v := .int fi) rfl) trivial) (iv_any (ei_draw (n := (way.length : Int) - fi) (cv rfl) (EF.ivp ex_c ⟨by omega, by omega⟩) (EF.iv (ex_sub (ln gA.up rfl) (ex_var (v := .int fi) rfl))) (by omega) (by omega))) fun _ _ _ _ => trivial) fun v7 G7 H8 g7 p7 => ?_
      obtain ⟨la, rfl, _⟩ := p7
      have gB := gA.trans g7
      dsimp only
      obtain ⟨ns, n1, n2, hsl⟩ := ef_cut2 (K := K) (σ := [some x, some (.ref a), some (.int c), some (.int fc), some (.int z5), some (.int fi), some (.int la), none]) (G := G7) (ta := tVar 1) (tb := tVar 5) (tc := tOp (rI0 fun i j => .int (i + j)) (tVar 6) (tC (.int 1))) (ex_var (v := .ref a) rfl) (Evl.ex_l gB.up hs) (ex_var (v := .int fi) rfl) (ex_add (ex_var (v := .int la) rfl) (ex_c (v := .int 1)))
      have cmp : EF (tLc (iList K (tSl (rSlL K) (tVar 1) (tPart (tVar 5)) (tPart (tOp (rI0 fun i j => .int (i + j)) (tVar 6) (tC (.int 1)))))) (gName 7) tYes (tOp (rIxL K) (tOp (rIxT K) (tVar 0) (tC (.int 0))) (tVar 7)) [7]) [some x, some (.ref a), some (.int c), some (.int fc), some (.int z5), some (.int fi), some (.int la), none] G7 (LS K (ns.map fun b => PyData.int (lenOf t.lens b))) := el_mapA (K := K) (f := PyData.int) (l := ns) (xs := ns.map V.int) hsl (dpa_ints ns) (by omega) (fun x => rfl) fun z b G' e m d => by
        cases d
        have := w3 b (n1 b m)
        exact ed_ixL (P := DV K (.int (lenOf t.lens b))) (q := (· = b)) (ed_t0 rfl (dpx dx (gB.up.trans e))) (EF.iv (ex_var rfl)) fun i ei => ⟨b.toNat, .int (lenOf t.lens b), by omega, by
          rw [List.getElem?_map, List.getElem?_eq_getElem (by omega)]
          unfold lenOf
          rw [List.getD_eq_getElem?_getD, List.getElem?_eq_getElem (by omega)]
          rfl, fun v G' d => d⟩
      refine st_asg (P := IV fun _ => True) gB.ok ((ex_sumL (K := K) (ns := ns.map (lenOf t.lens)) (cmp.imp fun v G' _ p => by show Dp K G' v (.list ((ns.map (lenOf t.lens)).map PyData.int)); rw [List.map_map]; exact p.dp)).imp fun v _ _ p => ⟨_, p, trivial⟩) fun v8 G8 H9 g8 p8 => ?_
      obtain ⟨z8, rfl, _⟩ := p8
      have gC := gB.trans g8
      dsimp only
      refine st_asg (P := IV fun z => 1 ≤ z) gC.ok (ei_max1 ex_c (ei_add (p := fun _ => True) (q := fun _ => True) (EF.ivp (ex_var (v := .int z8) rfl) trivial) (ed_ixL (ds := ([0, 0, 1, -1] : List Int).map PyData.int) (q := fun z => 0 ≤ z ∧ z < 4) ((el_lst (ea_x ex_c (ea_x ex_c (ea_x ex_c (ea_x ex_neg ea_nil)))) (by simp) fun vs G' _ ev => by rw [ev]; exact dpa_ints [0, 0, 1, -1]).ls_dv) (dr rfl (by omega) (by omega) (by omega) (by omega)) fun z hz => ?_) fun _ _ _ _ => trivial)) fun v9 G9 Ha g9 p9 => ?_
      · have hj : z.toNat < ([0, 0, 1, -1] : List Int).length := by simp; omega
        exact ⟨z.toNat, .int ([0, 0, 1, -1] : List Int)[z.toNat], by omega, by rw [List.getElem?_map, List.getElem?_eq_getElem hj]; rfl, fun v G' d => by cases d; exact ⟨_, rfl, trivial⟩⟩
      · obtain ⟨z9, rfl, h9⟩ := p9
        exact ⟨G9, z9, _, _, _, gC.trans g9, h9, rfl⟩
    rintro σ2 H6 ⟨G6, z6, v5, v6, v7, g6, h6, rfl⟩
    exact st_ret (P := IV fun z => 1 ≤ z) g6.ok (EF.ivp (ex_var (v := .int z6) rfl) h6) fun v G' H' g p => k v G' H' (g6.trans g) p
end
end Kx

set_option Elab.async false
set_option linter.all false
set_option maxRecDepth 100000
set_option maxHeartbeats 8000000
/-! what the program refuses, and what it tells -/
namespace Kx
open PySem L2 Lw
open Evl (Ex)
abbrev s_refused : Stmt := top 31
theorem sc_refused : FnScope ["_law_way_here", "_law_size_here", "e", "_law_kin"] ["_law_way_here", "_law_size_here"] (defScope s_refused) := ⟨rfl, rfl, rfl, by decide +kernel, rfl, by decide +kernel, by decide +kernel⟩
abbrev s_told : Stmt := top 32
theorem sc_told : FnScope ["_law_layout_here", "_law_train", "e", "_law_answer", "_law_kin"] ["_law_layout_here", "_law_train"] (defScope s_told) := ⟨rfl, rfl, rfl, by decide +kernel, rfl, by decide +kernel, by decide +kernel⟩
structure ErrK (K : PySem.W.Frag) (mg : Str → Option Value) (x : Str) (C : Addr) : Prop where
  xf : XfC K C
  xc : ExcC K C
  gl : mg x = some (.ref C)
  te : PySem.W.exmOne K (.ref C) (.ref C) = some true
section
variable {K : PySem.W.Frag} {σ : L2.St} {G H : Hp} {ta tb tc : TE}
theorem ex_andT {b : Bool} (ha : EF ta σ G (XV (.bl true))) (hb : EF tb σ G (XV (.bl b))) : EF (tAndV ta tb) σ G (XV (.bl b)) := (eb_and (p := (· = true)) (q := (· = b)) (s := (· = b)) (EF.bl ha rfl) (fun _ => EF.bl hb rfl) (fun _ _ h => h) fun z => nomatch z).imp fun v _ _ ⟨z, ez, hz⟩ => by rw [ez, hz]; rfl
theorem ex_notV {b : Bool} (ha : EF ta σ G (XV (.bl b))) : EF (tNotV ta) σ G (XV (.bl !b)) := (eb_not (p := (· = !b)) (EF.bl (p := fun c => (!c) = !b) ha rfl)).imp fun v _ _ ⟨z, ez, hz⟩ => by rw [ez, hz]; rfl
theorem isxR {a C d E : Addr} {fs : List (Str × V)} {b : Bool} (h : EF ta σ G (XV (.ref a))) (hd : G d = some (.xd fs)) (hk : PySem.W.kitOne K (.ref C) (.ref E) = some b) : EF (tCB (rIsX K C a (.ref C) (some d)) (tCons ta (tCons (tC (.ref E)) tNil))) σ G (XV (.bl b)) := ef_isX h hd ex_c (fun u h => h) hk
theorem isxT {a C d : Addr} {fs : List (Str × V)} {b : Bool} {s : String} (h : EF ta σ G (XV (.ref a))) (hd : G d = some (.xd fs)) (hk : PySem.W.kitOne K (.ref C) (.type s) = some b) : EF (tCB (rIsX K C a (.ref C) (some d)) (tCons ta (tCons (tC (.ty s)) tNil))) σ G (XV (.bl b)) := ef_isX h hd ex_c (fun u h => h) hk
def lstD (s : Str) (z : Int) : PyData := .list [.bool true, .str s, .int z]
theorem ef_lstD {s : Str} {z : Int} (ha : EF ta σ G (XV (.bl true))) (hc : EF tc σ G (XV (.int z))) : EF (tLst (tCons ta (tCons (tC (.str s)) (tCons tc tNil)))) σ G (DV K (lstD s z)) := (el_lst (R := fun vs _ => vs = [.bl true, .str s, .int z]) (ea_x ha (ea_x ex_c (ea_x hc ea_nil))) (by simp) fun vs G' _ ev => by rw [ev]; exact .cons (.bl _) (.cons (.str _) (.cons (.int _) .nil))).ls_dv
end
def refD (len : Int) (way : List Int) : PyData := if way = [] then lstD "BadWay" 0 else if len < 1 then lstD "BadLength" len else .none
def spRefused (K : PySem.W.Frag) : Sp := fun vs H Q _ => ∃ (G : Hp) (a : Addr) (way : List Int) (len : Int), Ex G H ∧ vs = [.ref a, .int len] ∧ SqL K G a (way.map V.int) ∧ way.length ≤ 400 ∧ Ret G H (DV K (refD len way)) Q
theorem sa_refused {K : PySem.W.Frag} {G : Hp} {a : Addr} {way : List Int} {len : Int} (hs : SqL K G a (way.map V.int)) (hl : way.length ≤ 400) : SA (spRefused K) [.ref a, .int len] G (DV K (refD len way)) := fun H e Q _ q => ⟨G, a, way, len, e, rfl, hs, hl, q⟩
/-- told: the data, and a list of its own that may be changed -/
def TtV (K : PySem.W.Frag) (G0 : Hp) (lens : List Int) (len : Int) (way : List Int) (r : HR) : VP := fun v G => Dp K G v (dueD lens len way r) ∧ ∀ c, r = .way c → ∃ (a q : Addr) (xs : List V), v = .ref a ∧ G a = some (.tup [.str "told", .ref q]) ∧ G0 q = none ∧ G q = some (.lst xs) ∧ xs.length = way.length
theorem TtV.low {K : PySem.W.Frag} {G0 G1 G : Hp} {lens : List Int} {len : Int} {way : List Int} {r : HR} {v : V} (e : Ex G0 G1) (h : TtV K G1 lens len way r v G) : TtV K G0 lens len way r v G := ⟨h.1, fun c hc => by
  obtain ⟨a, q, xs, h1, h2, h3, h4⟩ := h.2 c hc
  exact ⟨a, q, xs, h1, h2, none_back e h3, h4⟩⟩
def spToldT (K : PySem.W.Frag) (C CT : Addr) : Sp := fun vs H Q _ => ∃ (G : Hp) (p q : Addr) (lens parks : List Int) (js : List (Int × Int)) (way : List Int) (len : Int), Ex G H ∧ vs = [.ref p, .ref q] ∧ LayL K C G p lens parks js ∧ TrAtT K CT G q way len ∧ way.length ≤ 400 ∧ Ret G H (TtV K G lens len way (headR (lens.length : Int) js way)) Q
theorem sa_toldT {K : PySem.W.Frag} {C CT : Addr} {G : Hp} {p q : Addr} {lens parks : List Int} {js : List (Int × Int)} {way : List Int} {len : Int} (hL : LayL K C G p lens parks js) (hT : TrAtT K CT G q way len) (hl : way.length ≤ 400) : SA (spToldT K C CT) [.ref p, .ref q] G (TtV K G lens len way (headR (lens.length : Int) js way)) := fun H e Q _ k => ⟨G, p, q, lens, parks, js, way, len, e, rfl, hL, hT, hl, k⟩
section
variable {P : Program} {w : World} {K : PySem.W.Frag} {mg : Str → Option Value} {base : Heap} {C CT CN A_BadWay A_BadLength A_RailError : Addr} {f : Addr} {fd : FuncData}
theorem ok_refused {gg : List Value → List Value → List Value} (B : Blt mg) (m_ValueError : mg "ValueError" = none) (m_RailError : mg "RailError" = some (.ref A_RailError)) (m_NoBlock : mg "NoBlock" = some (.ref CN)) (Z_BadWay : ErrK K mg "BadWay" A_BadWay) (Z_BadLength : ErrK K mg "BadLength" A_BadLength) (no_BadWay_at : PySem.W.findIn K (.ref A_BadWay) "at" = some none) (no_BadLength_length : PySem.W.findIn K (.ref A_BadLength) "length" = some none)
    (bR : PySem.W.kitOne K (.ref A_BadWay) (.ref A_RailError) = some true) (bV : PySem.W.kitOne K (.ref A_BadWay) (.type "ValueError") = some true) (bL : PySem.W.kitOne K (.ref A_BadWay) (.ref A_BadLength) = some false) (bN : PySem.W.kitOne K (.ref A_BadWay) (.ref CN) = some false)
    (lR : PySem.W.kitOne K (.ref A_BadLength) (.ref A_RailError) = some true) (lV : PySem.W.kitOne K (.ref A_BadLength) (.type "ValueError") = some true) (lN : PySem.W.kitOne K (.ref A_BadLength) (.ref CN) = some false) (xLW : PySem.W.exmOne K (.ref A_BadLength) (.ref A_BadWay) = some false)
    (F : Fun K "_law_refused" "_law_refused" s_refused f fd) (Ci : ∃ fI fdI, Mk K CT fI ∧ FnOk P w K mg base (L2.CX P w) 3 fI fdI ["self", "way", "length"] (spTInit K CT A_BadWay A_BadLength) ∧ KBn K fdI ["self", "way", "length"] 2 ["length"] gg (fun vs zs => vs ++ zs) ∧ mg "Train" = some (.ref CT)) : FnOk P w K mg base CX0 6 f fd ["_law_way_here", "_law_size_here"] (spRefused K) := by
  obtain ⟨fI, fdI, M_Train, G_tinit, b_tinit, m_Train⟩ := Ci
  have m_BadWay := Z_BadWay.gl
  have m_BadLength := Z_BadLength.gl
  have m_isinstance := B.isinstance
  have m_list := B.list
  refine F.ok sc_refused (fun vs H Q E h => ?_) (fun cdv A outer s H vs Q E hr h => ?_)
  · obtain ⟨G, a, way, len, _, rfl, _⟩ := h
    rfl
  · obtain ⟨G, a, way, len, hG, rfl, hs, hl, k⟩ := h
    refine ⟨_, (Evl.pss_cut (ps_tryN (W0 := fun _ _ _ _ => False) rfl rfl sc_refused.nd takes0
 (fun W pn xe tk po => (pss_one (ps_expr (pe_newKX M_Train G_tinit (hr.mono (by decide)) rfl m_Train b_tinit (fun σ => passAt tk σ) (pa_cons (pe_callTy (T := "list") (call_listK (K := K) rfl) (by rfl) m_list (by decide +kernel) (pa_cons (pv 0) pa_nil)) pa_nil) (pk_cons (pv 1) pk_nil)))))
 (.cons (i := 2) (ts := fun a cls d => tSeq (tAsg (tAndV (tCB (rIsX K A_BadWay a cls d) (tCons (tVar 2) (tCons (tC (.ref A_RailError)) tNil))) (tAndV (tCB (rIsX K A_BadWay a cls d) (tCons (tVar 2) (tCons (tC (.ty "ValueError")) tNil))) (tNotV (tCB (rIsX K A_BadWay a cls d) (tCons (tVar 2) (tCons (tC (.ref A_BadLength)) tNil)))))) (gName 3)) (tRet (tLst (tCons (tAndV (tVar 3) (tNotV (tCB (rIsX K A_BadWay a cls d) (tCons (tVar 2) (tCons (tC (.ref CN)) tNil))))) (tCons (tC (.str "BadWay")) (tCons (tXf a cls d A_BadWay "at" (tVar 2)) tNil)))))) rfl rfl ⟨by rfl, by decide, Or.inl Z_BadWay.gl⟩ (.cons (i := 2) (ts := fun a cls d => tSeq (tAsg (tAndV (tCB (rIsX K A_BadLength a cls d) (tCons (tVar 2) (tCons (tC (.ref A_RailError)) tNil))) (tAndV (tCB (rIsX K A_BadLength a cls d) (tCons (tVar 2) (tCons (tC (.ty "ValueError")) tNil))) (tNotV (tCB (rIsX K A_BadLength a cls d) (tCons (tVar 2) (tCons (tC (.ref CN)) tNil)))))) (gName 3)) (tRet (tLst (tCons (tVar 3) (tCons (tC (.str "BadLength")) (tCons (tXf a cls d A_BadLength "length" (tVar 2)) tNil)))))) rfl rfl ⟨by rfl, by decide, Or.inl Z_BadLength.gl⟩ .nil (fun a oe cls d pn hz hf => (pss_cons (ps_set (i := 3) sc_refused.nd rfl (by first | exact Or.inl rfl | exact Or.inr rfl) (pe_and (pe_callB (call_isX Z_BadLength.xc hz hf) (by rfl) m_isinstance (by decide +kernel) (pa_cons (pv 2) (pa_cons (pe_glob (v := .ref A_RailError) (by rfl) m_RailError rfl) pa_nil))) (pe_and (pe_callB (call_isX Z_BadLength.xc hz hf) (by rfl) m_isinstance (by decide +kernel) (pa_cons (pv 2) (pa_cons (pe_bltn (v := .ty "ValueError") (u := .type "ValueError") rfl m_ValueError (by decide +kernel) rfl) pa_nil))) (pe_one (pe_not (pe_callB (call_isX Z_BadLength.xc hz hf) (by rfl) m_isinstance (by decide +kernel) (pa_cons (pv 2) (pa_cons (pe_glob (v := .ref CN) (by rfl) m_NoBlock rfl) pa_nil))))))))
 (pss_one (ps_ret (pe_lst (pa_cons (pv 3) (pa_cons pe_str (pa_cons (pe_xf Z_BadLength.xf no_BadLength_length hz hf (pv 2)) pa_nil))))))))) (fun a oe cls d pn hz hf => (pss_cons (ps_set (i := 3) sc_refused.nd rfl (by first | exact Or.inl rfl | exact Or.inr rfl) (pe_and (pe_callB (call_isX Z_BadWay.xc hz hf) (by rfl) m_isinstance (by decide +kernel) (pa_cons (pv 2) (pa_cons (pe_glob (v := .ref A_RailError) (by rfl) m_RailError rfl) pa_nil))) (pe_and (pe_callB (call_isX Z_BadWay.xc hz hf) (by rfl) m_isinstance (by decide +kernel) (pa_cons (pv 2) (pa_cons (pe_bltn (v := .ty "ValueError") (u := .type "ValueError") rfl m_ValueError (by decide +kernel) rfl) pa_nil))) (pe_one (pe_not (pe_callB (call_isX Z_BadWay.xc hz hf) (by rfl) m_isinstance (by decide +kernel) (pa_cons (pv 2) (pa_cons (pe_glob (v := .ref A_BadLength) (by rfl) m_BadLength rfl) pa_nil))))))))
 (pss_one (ps_ret (pe_lst (pa_cons (pe_and (pv 3) (pe_one (pe_not (pe_callB (call_isX Z_BadWay.xc hz hf) (by rfl) m_isinstance (by decide +kernel) (pa_cons (pv 2) (pa_cons (pe_glob (v := .ref CN) (by rfl) m_NoBlock rfl) pa_nil)))))) (pa_cons pe_str (pa_cons (pe_xf Z_BadWay.xf no_BadWay_at hz hf (pv 2)) pa_nil))))))))))
 (pss_one (ps_ret pe_non))), ?_⟩
    dsimp only
    refine ⟨fun σ' H' => Ex H H' ∧ way ≠ [] ∧ 1 ≤ len ∧ σ' = [some (.ref a), some (.int len), none, none], ?_, ?_⟩
    · refine nw_train (K := K) (way := way) (len := len) hG ((ea_one (ed_list (EF.dv (ex_var (v := .ref a) rfl) (dv_row hs)))).imp fun vs G' _ ⟨v, ev, l, xs, evl, _, hl, hd⟩ => ⟨l, by rw [ev, evl], by rw [dpa_ints_eq hd] at hl; exact Evl.sq_of hl⟩) (fun G' e => ea_x (ex_var rfl) ea_nil) hl (fun hne => ?_) (fun hne hlt => ?_) fun hne h1 x G' H' g _ => ⟨g.hp, hne, h1, rfl⟩
      · refine Rse.rh (G := G) (rse_cla0 Z_BadWay.te fun G' H' d a' g hd ha => ?_) hG
        have gN := g.trans (Gr.new (o := .xd [("at", .int 0)]) g.ok hd)
        have dk : (upd G' d (.xd [("at", .int 0)])) d = some (.xd [("at", .int 0)]) := upd_same
        refine st_asg (P := XV (.bl true)) gN.ok (ex_andT (isxR (ex_var rfl) dk bR) (ex_andT (isxT (ex_var rfl) dk bV) (ex_notV (isxR (ex_var rfl) dk bL)))) fun v G2 H2 g2 p2 => ?_
        cases (show v = _ from p2)
        exact st_ret (P := DV K (lstD "BadWay" 0)) g2.ok (ef_lstD (ex_andT (ex_var rfl) (ex_notV (isxR (ex_var rfl) (g2.up _ _ dk) bN))) (ef_xf (ex_var rfl) (g2.up _ _ dk) (by simp [List.lookup]))) fun v G3 H3 g3 p3 => k v G3 H3 ((gN.trans g2).trans g3) (by unfold refD; rw [if_pos hne]; exact p3)
      · refine Rse.rh (G := G) (rse_claS xLW (rse_cla0 Z_BadLength.te fun G' H' d a' g hd ha => ?_)) hG
        have gN := g.trans (Gr.new (o := .xd [("length", .int len)]) g.ok hd)
        have dk : (upd G' d (.xd [("length", .int len)])) d = some (.xd [("length", .int len)]) := upd_same
        refine st_asg (P := XV (.bl true)) gN.ok (ex_andT (isxR (ex_var rfl) dk lR) (ex_andT (isxT (ex_var rfl) dk lV) (ex_notV (isxR (ex_var rfl) dk lN)))) fun v G2 H2 g2 p2 => ?_
        cases (show v = _ from p2)
        exact st_ret (P := DV K (lstD "BadLength" len)) g2.ok (ef_lstD (ex_var rfl) (ef_xf (ex_var rfl) (g2.up _ _ dk) (by simp [List.lookup]))) fun v G3 H3 g3 p3 => k v G3 H3 ((gN.trans g2).trans g3) (by unfold refD; rw [if_neg hne, if_pos hlt]; exact p3)
    rintro σ1 H1 ⟨e1, hne, h1, rfl⟩
    exact st_ret (P := DV K .none) (hG.trans e1) (ef_c .non) fun v G' H' g p => k v G' H' ((Gr.same hG e1).trans g) (by unfold refD; rw [if_neg hne, if_neg (by omega)]; exact p)
theorem ok_told (T : Cl K C) (m_ValueError : mg "ValueError" = none) (B : Blt mg) (m_RailError : mg "RailError" = some (.ref A_RailError)) (m_BadLength : mg "BadLength" = some (.ref A_BadLength)) (Z_NoBlock : ErrK K mg "NoBlock" CN) (Z_BadWay : ErrK K mg "BadWay" A_BadWay) (no_NoBlock_block : PySem.W.findIn K (.ref CN) "block" = some none) (no_BadWay_at : PySem.W.findIn K (.ref A_BadWay) "at" = some none)
    (bR : PySem.W.kitOne K (.ref A_BadWay) (.ref A_RailError) = some true) (bV : PySem.W.kitOne K (.ref A_BadWay) (.type "ValueError") = some true) (bL : PySem.W.kitOne K (.ref A_BadWay) (.ref A_BadLength) = some false)
    (nR : PySem.W.kitOne K (.ref CN) (.ref A_RailError) = some true) (nV : PySem.W.kitOne K (.ref CN) (.type "ValueError") = some true) (nW : PySem.W.kitOne K (.ref CN) (.ref A_BadWay) = some false) (nL : PySem.W.kitOne K (.ref CN) (.ref A_BadLength) = some false) (xWN : PySem.W.exmOne K (.ref A_BadWay) (.ref CN) = some false)
    (F : Fun K "_law_told" "_law_told" s_told f fd) (Cr : CalX P w K mg base "releases" 8 ["layout", "train"] (spRels K C CT CN A_BadWay)) : FnOk P w K mg base CX0 10 f fd ["_law_layout_here", "_law_train"] (spToldT K C CT) := by
  obtain ⟨f1, fd1, G_releases, m_releases, k_releases, b_releases⟩ := Cr
  have m_NoBlock := Z_NoBlock.gl
  have m_BadWay := Z_BadWay.gl
  have m_isinstance := B.isinstance
  refine F.ok sc_told (fun vs H Q E h => ?_) (fun cdv A outer s H vs Q E hr h => ?_)
  · obtain ⟨G, p, q, lens, parks, js, way, len, _, rfl, _⟩ := h
    rfl
  · obtain ⟨G, p, q, lens, parks, js, way, len, hG, rfl, hL, hT, hl, k⟩ := h
    refine ⟨_, (Evl.pss_cut (ps_tryN (W0 := fun _ _ _ _ => False) rfl rfl sc_told.nd takes0
 (fun W pn xe tk po => (pss_one (ps_set (i := 3) sc_told.nd rfl (by first | exact Or.inl rfl | exact Or.inr rfl) (pe_callSD G_releases (hr.mono (by decide)) rfl m_releases k_releases b_releases .nil (fun σ => passAt tk σ) (pa_cons (pv 0) (pa_cons (pv 1) pa_nil))))))
 (.cons (i := 2) (ts := fun a cls d => tSeq (tAsg (tAndV (tCB (rIsX K CN a cls d) (tCons (tVar 2) (tCons (tC (.ref A_RailError)) tNil))) (tAndV (tCB (rIsX K CN a cls d) (tCons (tVar 2) (tCons (tC (.ty "ValueError")) tNil))) (tNotV (tCB (rIsX K CN a cls d) (tCons (tVar 2) (tCons (tC (.ref A_BadWay)) tNil)))))) (gName 4)) (tRet (tLst (tCons (tAndV (tVar 4) (tNotV (tCB (rIsX K CN a cls d) (tCons (tVar 2) (tCons (tC (.ref A_BadLength)) tNil))))) (tCons (tC (.str "NoBlock")) (tCons (tXf a cls d CN "block" (tVar 2)) tNil)))))) rfl rfl ⟨by rfl, by decide, Or.inl Z_NoBlock.gl⟩ (.cons (i := 2) (ts := fun a cls d => tSeq (tAsg (tAndV (tCB (rIsX K A_BadWay a cls d) (tCons (tVar 2) (tCons (tC (.ref A_RailError)) tNil))) (tAndV (tCB (rIsX K A_BadWay a cls d) (tCons (tVar 2) (tCons (tC (.ty "ValueError")) tNil))) (tNotV (tCB (rIsX K A_BadWay a cls d) (tCons (tVar 2) (tCons (tC (.ref A_BadLength)) tNil)))))) (gName 4)) (tRet (tLst (tCons (tVar 4) (tCons (tC (.str "BadWay")) (tCons (tXf a cls d A_BadWay "at" (tVar 2)) tNil)))))) rfl rfl ⟨by rfl, by decide, Or.inl Z_BadWay.gl⟩ .nil (fun a oe cls d pn hz hf => (pss_cons (ps_set (i := 4) sc_told.nd rfl (by first | exact Or.inl rfl | exact Or.inr rfl) (pe_and (pe_callB (call_isX Z_BadWay.xc hz hf) (by rfl) m_isinstance (by decide +kernel) (pa_cons (pv 2) (pa_cons (pe_glob (v := .ref A_RailError) (by rfl) m_RailError rfl) pa_nil))) (pe_and (pe_callB (call_isX Z_BadWay.xc hz hf) (by rfl) m_isinstance (by decide +kernel) (pa_cons (pv 2) (pa_cons (pe_bltn (v := .ty "ValueError") (u := .type "ValueError") rfl m_ValueError (by decide +kernel) rfl) pa_nil))) (pe_one (pe_not (pe_callB (call_isX Z_BadWay.xc hz hf) (by rfl) m_isinstance (by decide +kernel) (pa_cons (pv 2) (pa_cons (pe_glob (v := .ref A_BadLength) (by rfl) m_BadLength rfl) pa_nil))))))))
 (pss_one (ps_ret (pe_lst (pa_cons (pv 4) (pa_cons pe_str (pa_cons (pe_xf Z_BadWay.xf no_BadWay_at hz hf (pv 2)) pa_nil))))))))) (fun a oe cls d pn hz hf => (pss_cons (ps_set (i := 4) sc_told.nd rfl (by first | exact Or.inl rfl | exact Or.inr rfl) (pe_and (pe_callB (call_isX Z_NoBlock.xc hz hf) (by rfl) m_isinstance (by decide +kernel) (pa_cons (pv 2) (pa_cons (pe_glob (v := .ref A_RailError) (by rfl) m_RailError rfl) pa_nil))) (pe_and (pe_callB (call_isX Z_NoBlock.xc hz hf) (by rfl) m_isinstance (by decide +kernel) (pa_cons (pv 2) (pa_cons (pe_bltn (v := .ty "ValueError") (u := .type "ValueError") rfl m_ValueError (by decide +kernel) rfl) pa_nil))) (pe_one (pe_not (pe_callB (call_isX Z_NoBlock.xc hz hf) (by rfl) m_isinstance (by decide +kernel) (pa_cons (pv 2) (pa_cons (pe_glob (v := .ref A_BadWay) (by rfl) m_BadWay rfl) pa_nil))))))))
 (pss_one (ps_ret (pe_lst (pa_cons (pe_and (pv 4) (pe_one (pe_not (pe_callB (call_isX Z_NoBlock.xc hz hf) (by rfl) m_isinstance (by decide +kernel) (pa_cons (pv 2) (pa_cons (pe_glob (v := .ref A_BadLength) (by rfl) m_BadLength rfl) pa_nil)))))) (pa_cons pe_str (pa_cons (pe_xf Z_NoBlock.xf no_NoBlock_block hz hf (pv 2)) pa_nil))))))))))
 (pss_one (ps_ret (pe_tup (pa_cons pe_str (pa_cons (pv 3) pa_nil)))))), ?_⟩
    dsimp only
    refine ⟨fun σ' H' => ∃ (Gk : Hp) (v : V) (c : Bool), headR (lens.length : Int) js way = .way c ∧ Gr G Gk H H' ∧ NwD K G ((relsOf lens len way).map PyData.int) v Gk ∧ σ' = [some (.ref p), some (.ref q), none, some v, none], ?_, ?_⟩
    · show tCallSD (spRels K C CT CN A_BadWay) [] _ (tCons (tVar 0) (tCons (tVar 1) tNil)) _ _ _
      refine ⟨.ref p, rfl, .ref q, rfl, G, p, q, lens, parks, js, way, len, hG, rfl, hL, hT, hl, ?_⟩
      cases hh : headR (lens.length : Int) js way with
      | way c => exact fun v G' H' g pv => ⟨G', v, c, rfl, g, pv, rfl⟩
      | no b =>
        rw [hh] at k
        refine rse_cla0 Z_NoBlock.te fun G' H' d a' g hd ha => ?_
        have gN := g.trans (Gr.new (o := .xd [("block", .int b)]) g.ok hd)
        have dk : (upd G' d (.xd [("block", .int b)])) d = some (.xd [("block", .int b)]) := upd_same
        refine st_asg (P := XV (.bl true)) gN.ok (ex_andT (isxR (ex_var rfl) dk nR) (ex_andT (isxT (ex_var rfl) dk nV) (ex_notV (isxR (ex_var rfl) dk nW)))) fun v G2 H2 g2 p2 => ?_
        cases (show v = _ from p2)
        exact st_ret (P := DV K (lstD "NoBlock" b)) g2.ok (ef_lstD (ex_andT (ex_var rfl) (ex_notV (isxR (ex_var rfl) (g2.up _ _ dk) nL))) (ef_xf (ex_var rfl) (g2.up _ _ dk) (by simp [List.lookup]))) fun v G3 H3 g3 p3 => k v G3 H3 ((gN.trans g2).trans g3) ⟨p3, fun c z => nomatch z⟩
      | bad i =>
        rw [hh] at k
        refine rse_claS xWN (rse_cla0 Z_BadWay.te fun G' H' d a' g hd ha => ?_)
        have gN := g.trans (Gr.new (o := .xd [("at", .int i)]) g.ok hd)
        have dk : (upd G' d (.xd [("at", .int i)])) d = some (.xd [("at", .int i)]) := upd_same
        refine st_asg (P := XV (.bl true)) gN.ok (ex_andT (isxR (ex_var rfl) dk bR) (ex_andT (isxT (ex_var rfl) dk bV) (ex_notV (isxR (ex_var rfl) dk bL)))) fun v G2 H2 g2 p2 => ?_
        cases (show v = _ from p2)
        exact st_ret (P := DV K (lstD "BadWay" i)) g2.ok (ef_lstD (ex_var rfl) (ef_xf (ex_var rfl) (g2.up _ _ dk) (by simp [List.lookup]))) fun v G3 H3 g3 p3 => k v G3 H3 ((gN.trans g2).trans g3) ⟨p3, fun c z => nomatch z⟩
    rintro σ1 H1 ⟨Gk, v, c, hh, gk, pv, rfl⟩
    rw [hh] at k
    have dv := pv.dp
    obtain ⟨l, xs, rfl, l0, l1, l2⟩ := pv
    have hxs : xs.length = way.length := by rw [dpa_len l2]; simp [relsOf]
    refine st_ret (P := fun v G' => ∃ b, v = .ref b ∧ Gk b = none ∧ G' b = some (.tup [.str "told", .ref l])) gk.ok (ef_tup (R := fun vs _ => vs = [.str "told", .ref l]) (ea_x ex_c (ea_x (ex_var rfl) ea_nil)) (fun vs _ ev => by rw [ev]; simp) fun b vs G' _ gb _ ev => ⟨b, rfl, gb, by rw [ev]; exact upd_same⟩) fun v G' H' g ⟨b, ev, gb, hb⟩ => k v G' H' (gk.trans g) ?_
    subst ev
    exact ⟨dp_mkT hb (.cons (.str _) (.cons (dpx dv g.up) .nil)), fun _ _ => ⟨b, l, xs, rfl, hb, l0, g.up _ _ l1, hxs⟩⟩
end
end Kx

set_option Elab.async false
set_option linter.all false
set_option maxRecDepth 100000
set_option maxHeartbeats 8000000
/-! asked and fits -/
namespace Kx
open PySem L2 Lw
open Evl (Ex)
abbrev s_asked : Stmt := top 34
theorem sc_asked : FnScope ["_law_layout_here", "_law_track_here", "_law_train", "_law_way_here", "_law_size_here", "_law_due_here", "_law_told_here", "_law_row"] ["_law_layout_here", "_law_track_here", "_law_train", "_law_way_here", "_law_size_here"] (defScope s_asked) := ⟨rfl, rfl, rfl, by decide +kernel, rfl, by decide +kernel, by decide +kernel⟩
abbrev s_train_fits : Stmt := top 35
theorem sc_train_fits : FnScope ["_law_track_here", "_law_train", "_law_way_here", "_law_size_here", "_law_block", "_law_due_here"] ["_law_track_here", "_law_train", "_law_way_here", "_law_size_here"] (defScope s_train_fits) := ⟨rfl, rfl, rfl, by decide +kernel, rfl, by decide +kernel, by decide +kernel⟩
section
variable {K : PySem.W.Frag} {σ : L2.St} {G H : Hp} {ta tb tc : TE}
theorem ex_index {ns : List Int} {z : Int} {a : Addr} (ha : EF ta σ G (XV (.ref a))) (hs : SqL K G a (ns.map V.int)) (hz : EF tb σ G (XV (.int z))) (hm : z ∈ ns) : EF (tBM K "list" (rIndex K) ta (tCons tb tNil)) σ G (XV (.int (ns.idxOf z : Nat))) := fun H e Q k => ha H e _ fun v G1 H1 g1 p1 => by
  cases (show v = _ from p1)
  refine ⟨.inl ⟨rfl, _, Evl.ex_l (g1.up.trans g1.ok) hs⟩, hz H1 (g1.up.trans g1.ok) _ fun u G2 H2 g2 p2 => ?_⟩
  cases (show u = _ from p2)
  have hl := List.idxOf_lt_length_of_mem hm
  refine ⟨a, ns.map V.int, .int z, ns.idxOf z, .int z, rfl, rfl, Evl.ex_l (g2.up.trans g2.ok) hs, rfl, ?_, ?_, ?_, fun m z' hlt hz' => ?_, k _ G2 H2 ((Gr.same e g1.hp).trans g2) rfl⟩
  · rw [List.all_eq_true]
    intro y hy
    obtain ⟨n, _, rfl⟩ := List.mem_map.mp hy
    rfl
  · rw [List.getElem?_map, List.getElem?_eq_getElem hl, List.getElem_idxOf hl]
    rfl
  · rw [eqV_int]; simp
  · rw [List.getElem?_map] at hz'
    obtain ⟨y, hy, rfl⟩ := Option.map_eq_some_iff.mp hz'
    rw [eqV_int]
    obtain ⟨hm1, rfl⟩ := List.getElem?_eq_some_iff.mp hy
    have := List.not_of_lt_findIdx (p := (· == z)) (xs := ns) (i := m) hlt
    simpa using this
end
theorem okb_rel {lens : List Int} {len : Int} {way : List Int} {r : HR} (h : way.length ≤ 400) : Okb 3 (dueD lens len way r) := by
  have l3 : ∀ (s : Str) (z : Int), Okb 3 (lstD s z) := fun s z => by
    refine ⟨by simp, fun d m => ?_⟩
    simp only [List.mem_cons, List.not_mem_nil, or_false] at m
    rcases m with rfl | rfl | rfl <;> trivial
  cases r with
  | bad i => exact l3 _ _
  | no b => exact l3 _ _
  | way c =>
    refine okb_told (by simp [relsOf]; omega) fun d m => ?_
    obtain ⟨z, _, rfl⟩ := List.mem_map.mp m
    exact okb_int
def spAsked (K : PySem.W.Frag) (C CT : Addr) : Sp := fun vs H Q _ => ∃ (G : Hp) (p q a : Addr) (x : V) (t : Trk) (way : List Int) (len : Int), Ex G H ∧ vs = [.ref p, x, .ref q, .ref a, .int len] ∧ LayL K C G p t.lens t.parks t.joints ∧ Dp K G x (dT t) ∧ TrkOk t ∧ TrAtT K CT G q way len ∧ SqL K G a (way.map V.int) ∧ way ≠ [] ∧ way.length ≤ 400 ∧ Ret G H (XV (.bl true)) Q
theorem sa_asked {K : PySem.W.Frag} {C CT : Addr} {G : Hp} {p q a : Addr} {x : V} {t : Trk} {way : List Int} {len : Int} (hL : LayL K C G p t.lens t.parks t.joints) (hx : Dp K G x (dT t)) (ht : TrkOk t) (hT : TrAtT K CT G q way len) (hs : SqL K G a (way.map V.int)) (hne : way ≠ []) (hl : way.length ≤ 400) : SA (spAsked K C CT) [.ref p, x, .ref q, .ref a, .int len] G (XV (.bl true)) := fun H e Q _ k => ⟨G, p, q, a, x, t, way, len, e, rfl, hL, hx, ht, hT, hs, hne, hl, k⟩
def spTFits (K : PySem.W.Frag) (CT : Addr) : Sp := fun vs H Q _ => ∃ (G : Hp) (q a : Addr) (x : V) (t : Trk) (way : List Int) (len : Int), Ex G H ∧ vs = [x, .ref q, .ref a, .int len] ∧ Dp K G x (dT t) ∧ TrkOk t ∧ TrAtT K CT G q way len ∧ SqL K G a (way.map V.int) ∧ way.length ≤ 400 ∧ Ret G H (XV (.bl true)) Q
theorem sa_tfits {K : PySem.W.Frag} {CT : Addr} {G : Hp} {q a : Addr} {x : V} {t : Trk} {way : List Int} {len : Int} (hx : Dp K G x (dT t)) (ht : TrkOk t) (hT : TrAtT K CT G q way len) (hs : SqL K G a (way.map V.int)) (hl : way.length ≤ 400) : SA (spTFits K CT) [x, .ref q, .ref a, .int len] G (XV (.bl true)) := fun H e Q _ k => ⟨G, q, a, x, t, way, len, e, rfl, hx, ht, hT, hs, hl, k⟩
section
variable {P : Program} {w : World} {K : PySem.W.Frag} {mg : Str → Option Value} {base : Heap} {C CT CN : Addr} {f : Addr} {fd : FuncData}
theorem ok_asked (B : Blt mg) (F : Fun K "_law_asked" "_law_asked" s_asked f fd) (Cd : Cal P w K mg base "_law_due" 2 ["_law_track_here", "_law_way_here", "_law_size_here"] (spDueT K)) (Ct : Cal P w K mg base "_law_told" 10 ["_law_layout_here", "_law_train"] (spToldT K C CT)) (Cs : Cal P w K mg base "_law_same" 4 ["_law_actual", "_law_wanted"] (spSameB K 3)) : FnOk P w K mg base CX0 11 f fd ["_law_layout_here", "_law_track_here", "_law_train", "_law_way_here", "_law_size_here"] (spAsked K C CT) := by
  obtain ⟨f1, fd1, G_due, m_due, k_due, b_due⟩ := Cd
  obtain ⟨f2, fd2, G_told, m_told, k_told, b_told⟩ := Ct
  obtain ⟨f3, fd3, G_same, m_same, k_same, b_same⟩ := Cs
  have m_isinstance := B.isinstance
  have m_tuple := B.tuple
  refine F.ok sc_asked (fun vs H Q E h => ?_) (fun cdv A outer s H vs Q E hr h => ?_)
  · obtain ⟨G, p, q, a, x, t, way, len, _, rfl, _⟩ := h
    rfl
  · obtain ⟨G, p, q, a, x, t, way, len, hG, rfl, hL, hx, ht, hT, hs, hne, hl, k⟩ := h
    refine ⟨_, (pss_cons (ps_set (i := 5) sc_asked.nd rfl (by first | exact Or.inl rfl | exact Or.inr rfl) (pe_call G_due (hr.mono (by decide)) rfl m_due k_due b_due .nil pass0 (pa_cons (pv 1) (pa_cons (pv 3) (pa_cons (pv 4) pa_nil)))))
 (pss_cons (ps_set (i := 6) sc_asked.nd rfl (by first | exact Or.inl rfl | exact Or.inr rfl) (pe_call G_told (hr.mono (by decide)) rfl m_told k_told b_told .nil pass0 (pa_cons (pv 0) (pa_cons (pv 2) pa_nil))))
 (pss_cons (ps_if (pt_not (pt_val (pe_call G_same (hr.mono (by decide)) rfl m_same k_same b_same .nil pass0 (pa_cons (pv 6) (pa_cons (pv 5) pa_nil)))))
 (pss_one (ps_ret pe_bl)) pss_nil)
 (Evl.pss_cut (ps_if (pt_val (pe_callB call_isi (by rfl) m_isinstance (by decide +kernel) (pa_cons (pv 6) (pa_cons (pe_bltn (v := .ty "tuple") (u := .type "tuple") rfl m_tuple (by decide +kernel) rfl) pa_nil))))
 (pss_cons (ps_set (i := 7) sc_asked.nd rfl (by first | exact Or.inl rfl | exact Or.inr rfl) (pe_ix ix_seq (pv 6) pe_int (fun _ _ => rfl)))
 (pss_cons (ps_expr (pe_bm PySem.F.plainAttrs_list PySem.F.slot_list_append PySem.F.type_list_append mt_append (pv 7) (pa_cons pe_int pa_nil)))
 (pss_one (ps_asg (pe_un un_neg pe_int) (pg_sub (pv 7) pe_int set_list))))) pss_nil)
 (pss_one (ps_ret (pe_call G_same (hr.mono (by decide)) rfl m_same k_same b_same .nil pass0 (pa_cons (pe_call G_told (hr.mono (by decide)) rfl m_told k_told b_told .nil pass0 (pa_cons (pv 0) (pa_cons (pv 2) pa_nil))) (pa_cons (pv 5) pa_nil))))))))), ?_⟩
    obtain ⟨r, hr⟩ : ∃ r, r = headR (t.lens.length : Int) t.joints way := ⟨_, rfl⟩
    have ob : Okb 3 (dueD t.lens len way r) := okb_rel hl
    refine st_asg (P := DV K (dueD t.lens len way r)) hG (ex_call3 (ex_var rfl) (ex_var rfl) (ex_var rfl) fun G' e => by rw [hr]; exact sa_dueT (dpx hx e) ht (Evl.ex_l e hs) hne hl) fun v5 G5 H5 g5 p5 => ?_
    have tld : ∀ {σ : L2.St} {G' : Hp}, Ex G5 G' → σ[0]? = some (some (.ref p)) → σ[2]? = some (some (.ref q)) → EF (tCall (spToldT K C CT) [] E0 (tCons (tVar 0) (tCons (tVar 2) tNil))) σ G' (TtV K G' t.lens len way r) := fun {σ G'} e h0 h2 => ex_call2 (ex_var h0) (ex_var h2) fun G2 e2 => by
      rw [hr]
      exact (sa_toldT (hL.ex ((g5.up.trans e).trans e2)) (hT.ex ((g5.up.trans e).trans e2)) hl).imp fun v G3 h => h.low e2
    dsimp only
    refine st_asg (P := TtV K G5 t.lens len way r) g5.ok (tld (.refl G5) rfl rfl) fun v6 G6 H6 g6 p6 => ?_
    obtain ⟨pd, pt⟩ := p6
    dsimp only
    refine st_if0 g6.ok (et_not (et_B (EF.bl (ex_call2 (P := XV (.bl true)) (ex_var (v := v6) rfl) (ex_var (v := v5) rfl) fun G' e => sa_sameB (dpx pd e) (dpx p5 (g6.up.trans e)) ob) rfl))) fun H7 e7 => ?_
    refine ⟨fun σ' H' => Ex H H' ∧ Ex G5 H' ∧ ∃ v7, σ' = [some (.ref p), some x, some (.ref q), some (.ref a), some (.int len), some v5, some v6, v7], ?_, ?_⟩
    · cases hrr : r with
      | way c =>
        obtain ⟨b, l, xs, rfl, hb, l0, l1, hxs⟩ := pt c hrr
        rw [hrr] at pd
        refine st_if (p := (· = true)) (g6.ok.trans e7) (et_B (EF.bl (ex_isi (k := .t) (r := true) (ex_var (v := .ref b) rfl) (ex_c (v := .ty "tuple")) pd rfl (by decide)) rfl)) (fun _ H8 e8 => ?_) (fun z => nomatch z)
        have sb : SqA K G6 (.ref b) [.str "told", .ref l] := ⟨b, rfl, .inr (Evl.st_of hb)⟩
        have h6l : H6 l = some (.lst xs) := g6.ok _ _ l1
        have fr5 : H5 l = none := g6.fresh l0 l1
        have frH : H l = none := none_back g5.hp fr5
        refine st_asg (P := XV (.ref l)) (g6.ok.trans (e7.trans e8)) (ex_ixA (i := 1) (ex_var rfl) ex_c sb rfl) fun v7 G8 H9 g8 p8 => ?_
        cases (show v7 = _ from p8)
        have hl9 := g8.hp _ _ (e8 _ _ (e7 _ _ h6l))
        -- work over G5: the list is ours
        have e5 : Ex G5 H9 := g6.up.trans (g6.ok.trans ((e7.trans e8).trans g8.hp))
        have eH : Ex H H9 := g5.hp.trans (g6.hp.trans ((e7.trans e8).trans g8.hp))
        dsimp only
        refine st_app (P := XV (.int 1)) (l := l) (xs := xs) e5 hl9 (ex_var rfl) ex_c (by omega) fun v G9 Ha g9 pv => ?_
        have g9l : G9 l = none := g9.2.2.2 l (ne_none_of hl9) l0
        refine st_setQ (q := l) (ys := xs ++ [v]) (i := 7) (p := fun _ => True) (P := XV (.int (-1))) (ex_off g9.ok g9l) upd_same rfl ex_neg ((EF.iv (ex_c (v := .int 0))).imp fun v _ _ ⟨z, ez, hz⟩ => ⟨z, ez, 0, by rw [hz]; rfl, by simp, trivial⟩) fun j v2 Ga Hb hj _ ga pv2 => ?_
        exact ⟨ex_off ((ex_off (eH.trans g9.hp) frH).trans ga.hp) frH, ex_off ((ex_off (g9.up.trans g9.ok) l0).trans ga.hp) l0, _, rfl⟩
      | bad i =>
        rw [hrr] at pd
        exact st_if0 (g6.ok.trans e7) (et_B (EF.bl (ex_isi (k := .l) (r := false) (ex_var (v := v6) rfl) (ex_c (v := .ty "tuple")) pd rfl (by decide)) rfl)) fun H8 e8 => ⟨g5.hp.trans (g6.hp.trans (e7.trans e8)), g6.up.trans (g6.ok.trans (e7.trans e8)), _, rfl⟩
      | no i =>
        rw [hrr] at pd
        exact st_if0 (g6.ok.trans e7) (et_B (EF.bl (ex_isi (k := .l) (r := false) (ex_var (v := v6) rfl) (ex_c (v := .ty "tuple")) pd rfl (by decide)) rfl)) fun H8 e8 => ⟨g5.hp.trans (g6.hp.trans (e7.trans e8)), g6.up.trans (g6.ok.trans (e7.trans e8)), _, rfl⟩
    rintro σ1 H8 ⟨eH, e5, v7, rfl⟩
    refine st_ret (P := XV (.bl true)) e5 (ef_call (ea_two (Pa := DV K (dueD t.lens len way r)) (Pb := DV K (dueD t.lens len way r)) mo_DV mo_DV ((tld (.refl G5) rfl rfl).imp fun v _ _ p => p.1) (EF.dv (ex_var (v := v5) rfl) p5)) fun vs G' _ ⟨y, z, ev, hy, hz⟩ => by rw [ev]; exact sa_sameB hy hz ob) fun v G' H' g p => ?_
    exact k v G H' (.same hG (eH.trans g.hp)) p
theorem ok_tfits (TT : TrCl K CT) (B : Blt mg) (F : Fun K "_law_train_fits" "_law_train_fits" s_train_fits f fd) (Cb : CalM P w K mg base CT "blocks" 1 ["self"] (spBlocksT K CT)) (Co : CalM P w K mg base CT "step_of" 1 ["self", "block"] (spStepOf K CT)) (Cs : Cal P w K mg base "_law_same" 4 ["_law_actual", "_law_wanted"] (spSameB K 3)) : FnOk P w K mg base CX0 5 f fd ["_law_track_here", "_law_train", "_law_way_here", "_law_size_here"] (spTFits K CT) := by
  obtain ⟨f1, fd1, G_blocks, M_blocks, b_blocks⟩ := Cb
  obtain ⟨f2, fd2, G_step_of, M_step_of, b_step_of⟩ := Co
  obtain ⟨f3, fd3, G_same, m_same, k_same, b_same⟩ := Cs
  have cT := TT.cl
  have m_len := B.len
  have m_range := B.range
  refine F.ok sc_train_fits (fun vs H Q E h => ?_) (fun cdv A outer s H vs Q E hr h => ?_)
  · obtain ⟨G, q, a, x, t, way, len, _, rfl, _⟩ := h
    rfl
  · obtain ⟨G, q, a, x, t, way, len, hG, rfl, hx, ht, hT, hs, hl, k⟩ := h
    refine ⟨_, (pss_cons (ps_if (PW.pt (pw_or (pt_not (pt_val (pe_call G_same (hr.mono (by decide)) rfl m_same k_same b_same .nil pass0 (pa_cons (pe_fld (pv 1) rfl) (pa_cons (pv 3) pa_nil))))) (pw_or1 (pt_not (pt_val (pe_call G_same (hr.mono (by decide)) rfl m_same k_same b_same .nil pass0 (pa_cons (pe_fld (pv 1) rfl) (pa_cons (pe_callB call_len_seq (by rfl) m_len PySem.boot_len (pa_cons (pv 2) pa_nil)) pa_nil))))))))
 (pss_one (ps_ret pe_bl)) pss_nil)
 (pss_cons (ps_if (PW.pt (pw_or (pt_not (pt_val (pe_call G_same (hr.mono (by decide)) rfl m_same k_same b_same .nil pass0 (pa_cons (pe_fld (pv 1) rfl) (pa_cons (pe_op op_mul pe_int (pe_callB call_len_seq (by rfl) m_len PySem.boot_len (pa_cons (pv 2) pa_nil))) pa_nil))))) (pw_or1 (pt_not (pt_val (pe_call G_same (hr.mono (by decide)) rfl m_same k_same b_same .nil pass0 (pa_cons (pe_meth0 (pv 1) cT M_blocks G_blocks (hr.mono (by decide)) b_blocks .nil pass0) (pa_cons (pv 2) pa_nil))))))))
 (pss_one (ps_ret pe_bl)) pss_nil)
 (pss_cons (ps_for PassesOwn.never rfl (pi_range2 rfl m_range (pa_cons (pe_un un_neg pe_int) (pa_cons (pe_op op_add (pe_callB call_len_seq (by rfl) m_len PySem.boot_len (pa_cons (pe_ix ix_tup (pv 0) pe_int (fun _ _ => rfl)) pa_nil)) pe_int) pa_nil))) (pg_name (i := 4) sc_train_fits.nd rfl (by first | exact Or.inl rfl | exact Or.inr rfl))
 (pss_cons (ps_set (i := 5) sc_train_fits.nd rfl (by first | exact Or.inl rfl | exact Or.inr rfl) (pe_un un_neg pe_int))
 (Evl.pss_cut (ps_if (pt_cmpR (op_inD (hu65 hr)) (pv 4) (pv 2) (by rfl))
 (pss_one (ps_set (i := 5) sc_train_fits.nd rfl (by first | exact Or.inl rfl | exact Or.inr rfl) (pe_bm PySem.F.plainAttrs_list PySem.F.slot_list_index PySem.F.type_list_index mt_index (pv 2) (pa_cons (pv 4) pa_nil)))) pss_nil)
 (pss_one (ps_if (pt_not (pt_val (pe_call G_same (hr.mono (by decide)) rfl m_same k_same b_same .nil pass0 (pa_cons (pe_meth (pv 1) cT M_step_of G_step_of (hr.mono (by decide)) b_step_of .nil pass0 (pa_cons (pv 4) pa_nil)) (pa_cons (pv 5) pa_nil)))))
 (pss_one (ps_ret pe_bl)) pss_nil)))))
 (pss_one (ps_ret pe_bl))))), ?_⟩
    have few := ht.few
    have ln : ∀ {σ : L2.St} {G' : Hp}, Ex G G' → σ[2]? = some (some (.ref a)) → EF (tCB (Evl.rLenS K) (tCons (tVar 2) tNil)) σ G' (XV (.int (way.length : Int))) := fun e h => (ex_lenL (ex_var h) (Evl.ex_l e hs)).imp fun v _ _ p => by rw [show v = _ from p, List.length_map]; rfl
    have sm : ∀ {σ : L2.St} {G' : Hp} {z : Int} {t1 t2 : TE}, EF t1 σ G' (XV (.int z)) → EF t2 σ G' (XV (.int z)) → ET (tNot (tB (tCall (spSameB K 3) [] E0 (tCons t1 (tCons t2 tNil))))) σ G' (· = false) := fun h1 h2 => et_not (et_B (EF.bl (ex_call2 (P := XV (.bl true)) h1 h2 fun G' e => sa_sameB (.int _) (.int _) okb_int) rfl))
    have okw : Okb 3 (dI way) := ⟨by rw [List.length_map]; omega, fun d m => by obtain ⟨z, _, rfl⟩ := List.mem_map.mp m; exact okb_int⟩
    refine st_if0 hG (et_or (p := (· = false)) (q := (· = false)) (s := (· = false)) (sm (ex_tlen TT hT (ex_var rfl)) (ex_var rfl)) (fun _ => sm (ex_tsteps TT hT (ex_var rfl)) (ln (.refl G) rfl)) (fun z => nomatch z) fun _ b h => h) fun H1 e1 => ?_
    refine st_if0 (hG.trans e1) (et_or (p := (· = false)) (q := (· = false)) (s := (· = false)) (sm (ex_tlast TT hT (ex_var rfl)) (ex_mul ex_c (ln (.refl G) rfl) (.inl (by decide)))) (fun _ => et_not (et_B (EF.bl (ef_call (P := XV (.bl true)) (ea_two (Pa := DV K (dI way)) (Pb := DV K (dI way)) mo_DV mo_DV (ex_meth0 (P := DV K (dI way)) (ex_var (v := .ref q) rfl) (hT.meth (by decide +kernel)) fun G' e => (sa_blocksT (hT.ex e)).imp fun v _ p => p.dp) (EF.dv (ex_var (v := .ref a) rfl) (dv_row hs))) fun vs G' _ ⟨y, z, ev, hy, hz⟩ => by rw [ev]; exact sa_sameB hy hz okw) rfl))) (fun z => nomatch z) fun _ b h => h) fun H2 e2 => ?_
    refine st_forR2N (lo := -2) (n := (t.lens.length : Int) + 7) (hG.trans (e1.trans e2)) (ea_x ex_neg (ea_x (ex_add ((ex_lenD (ed_t0 rfl hx)).imp fun v _ _ p => by rw [show v = _ from p, List.length_map]; rfl) (ex_c (v := .int 7))) ea_nil)) (by omega) (fun i σ' H' => Ex H H' ∧ ∃ v4 v5, σ' = [some x, some (.ref q), some (.ref a), some (.int len), v4, v5]) (fun H' e => ⟨(e1.trans e2).trans e, _, _, rfl⟩) (fun i σ' H' hi hw => ?_) (fun σ' H' hw => ?_)
    · obtain ⟨e, v4, v5, rfl⟩ := hw
      refine st_asg (P := XV (.int (-1))) (hG.trans e) ex_neg fun v5 G5 H5 g5 p5 => ?_
      cases (show v5 = _ from p5)
      refine ⟨fun σ' H' => Ex H H' ∧ σ' = [some x, some (.ref q), some (.ref a), some (.int len), some (.int (-2 + (i : Int))), some (.int (stepOf way (-2 + (i : Int))))], ?_, ?_⟩
      · refine st_if (p := (· = decide (-2 + (i : Int) ∈ way))) g5.ok (et_inI (ex_var rfl) (EF.dv (ex_var (v := .ref a) rfl) (dv_row (Evl.ex_l g5.up hs)))) (fun h H6 e6 => ?_) (fun h H6 e6 => ?_)
        · have hm := of_decide_eq_true h.symm
          refine st_asg (P := XV (.int ((way.idxOf (-2 + (i : Int)) : Nat) : Int))) (g5.ok.trans e6) (ex_index (ex_var (v := .ref a) rfl) (Evl.ex_l g5.up hs) (ex_var rfl) hm) fun v6 G6 H7 g6 p6 => ⟨e.trans (g5.hp.trans (e6.trans g6.hp)), ?_⟩
          cases (show v6 = _ from p6)
          unfold stepOf
          rw [if_pos hm]
          rfl
        · refine ⟨e.trans (g5.hp.trans e6), ?_⟩
          unfold stepOf
          rw [if_neg (of_decide_eq_false h.symm)]
          rfl
      rintro σ1 H6 ⟨e6, rfl⟩
      exact st_if0 (hG.trans e6) (sm (ex_meth1 (ex_var (v := .ref q) rfl) (hT.meth (by decide +kernel)) (ex_var rfl) fun G' e => sa_stepOf (hT.ex e)) (ex_var rfl)) fun H7 e7 => ⟨e6.trans e7, _, _, rfl⟩
    · obtain ⟨e, v4, v5, rfl⟩ := hw
      dsimp only
      refine st_ret (P := XV (.bl true)) (hG.trans e) ex_c fun v G' H' g p => ?_
      exact k v G' H' ((Gr.same hG e).trans g) p
end
end Kx

set_option Elab.async false
set_option linter.all false
set_option maxRecDepth 100000
set_option maxHeartbeats 16000000
/-! the law's world -/
namespace Kx
open PySem L2 Lw
open Evl (Ex)
abbrev s_layout : Stmt := top 26
theorem sc_layout : FnScope ["_law_track_here"] ["_law_track_here"] (defScope s_layout) := ⟨rfl, rfl, rfl, by decide +kernel, rfl, by decide +kernel, by decide +kernel⟩
abbrev s_second : Stmt := top 37
theorem sc_second : FnScope ["_law_script", "_law_track_here", "_law_factor", "_law_cell_here", "_law_lengths", "_law_block"] ["_law_script", "_law_track_here", "_law_factor"] (defScope s_second) := ⟨rfl, rfl, rfl, by decide +kernel, rfl, by decide +kernel, by decide +kernel⟩
abbrev s_refusals : Stmt := top 38
theorem sc_refusals : FnScope ["_law_way_here", "_law_size_here", "_law_low"] ["_law_way_here", "_law_size_here", "_law_low"] (defScope s_refusals) := ⟨rfl, rfl, rfl, by decide +kernel, rfl, by decide +kernel, by decide +kernel⟩
abbrev s_world : Stmt := top 36
theorem sc_world : FnScope ["_law_script", "_law_setup", "_law_factor", "_law_small", "_law_track_here", "_law_straight", "_law_way_here", "_law_entry"] ["_law_script"] (defScope s_world) := ⟨rfl, rfl, rfl, by decide +kernel, rfl, by decide +kernel, by decide +kernel⟩
section
variable {P : Program} {w : World} {K : PySem.W.Frag} {mg : Str → Option Value} {base : Heap} {C CT CN : Addr} {f : Addr} {fd : FuncData}
theorem ef_makeL {σ : L2.St} {G : Hp} {C : Addr} {E : XK} {t tk : TA} {lens : List Int} {js : List (Int × Int)} {parks : List Int} (h : EA t σ G fun vs G' => ∃ a1 a2, vs = [.ref a1, .ref a2] ∧ Dp K G' (.ref a1) (dI lens) ∧ Dp K G' (.ref a2) (dPs js)) (hk : EA tk σ G fun zs G' => ∃ a3, zs = [.ref a3] ∧ Dp K G' (.ref a3) (dI parks))
    (n2 : lens.length ≤ 200) (hl : ∀ z ∈ lens, 1 ≤ z) (hp : ∀ b ∈ parks, 0 ≤ b ∧ b < (lens.length : Int)) (hJ : JOk (lens.length : Int) parks js) (hj : js.length ≤ 900) :
    EF (tMakeK C 2 1 (spInitL K C) (fun vs zs => vs ++ zs) E t tk) σ G fun v G' => ∃ x, v = .ref x ∧ LayL K C G' x lens parks js := fun H e Q q =>
  h H e _ fun vs G1 H1 g1 ⟨a1, a2, ev, d1, d2⟩ => hk H1 (g1.up.trans g1.ok) _ fun zs G2 H2 g2 ⟨a3, ez, d3⟩ => by
    obtain ⟨G3, f1, f2, g3⟩ := g1.join g2
    subst ev ez
    refine ⟨rfl, rfl, fun x dx hx hdx hne => ?_⟩
    have ex2 : Ex H2 (outH (upd (upd H2 dx (.own x)) x (.ins C dx [])) x) := fun a o ha => by
      rw [out_ne (ne_of_none ha hx), upd_ne (ne_of_none ha hx), upd_ne (ne_of_none ha hdx)]
      exact ha
    refine ⟨G3, x, dx, lens, js, parks, a1, a2, a3, rfl, g3.ok.trans (ex2.trans out_ex), none_back g3.ok hx, upd_same, dpx d1 f1, dpx d2 f1, dpx d3 f2, n2, hl, hp, hJ, hj, fun G' H' g hL => ⟨rfl, ?_⟩⟩
    exact q _ G' H' (g3.trans (g.low ex2)) ⟨x, rfl, hL⟩
def spLayT (K : PySem.W.Frag) (C : Addr) : Sp := fun vs H Q _ => ∃ (G : Hp) (x : V) (t : Trk), Ex G H ∧ vs = [x] ∧ Dp K G x (dT t) ∧ TrkOk t ∧ Ret G H (fun v G' => ∃ p, v = .ref p ∧ LayL K C G' p t.lens t.parks t.joints) Q
theorem sa_layT {G : Hp} {x : V} {t : Trk} (hx : Dp K G x (dT t)) (ht : TrkOk t) : SA (spLayT K C) [x] G (fun v G' => ∃ p, v = .ref p ∧ LayL K C G' p t.lens t.parks t.joints) := fun H e Q _ q => ⟨G, x, t, e, rfl, hx, ht, q⟩
theorem ok_layout {gg : List Value → List Value → List Value} (B : Blt mg) (F : Fun K "_law_layout" "_law_layout" s_layout f fd) (Ci : ∃ fI fdI, Mk K C fI ∧ FnOk P w K mg base CX0 5 fI fdI ["self", "lengths", "joints", "yards"] (spInitL K C) ∧ KBn K fdI ["self", "lengths", "joints", "yards"] 3 ["yards"] gg (fun vs zs => vs ++ zs) ∧ mg "Layout" = some (.ref C)) : FnOk P w K mg base CX0 7 f fd ["_law_track_here"] (spLayT K C) := by
  obtain ⟨fI, fdI, M_Layout, G_init, b_init, m_Layout⟩ := Ci
  have m_list := B.list
  refine F.ok sc_layout (fun vs H Q E h => ?_) (fun cdv A outer s H vs Q E hr h => ?_)
  · obtain ⟨G, x, t, _, rfl, _⟩ := h
    rfl
  · obtain ⟨G, x, t, hG, rfl, hx, ht, k⟩ := h
    refine ⟨_, (pss_one (ps_ret (pe_makeK M_Layout G_init (hr.mono (by decide)) rfl m_Layout b_init pass0 (pa_cons (pe_callTy call_list_of (by rfl) m_list (by decide +kernel) (pa_cons (pe_ix ix_tup (pv 0) pe_int (fun _ _ => rfl)) pa_nil)) (pa_cons (pe_callTy call_list_of (by rfl) m_list (by decide +kernel) (pa_cons (pe_ix ix_tup (pv 0) pe_int (fun _ _ => rfl)) pa_nil)) pa_nil)) (pk_cons (pe_callTy call_list_of (by rfl) m_list (by decide +kernel) (pa_cons (pe_ix ix_tup (pv 0) pe_int (fun _ _ => rfl)) pa_nil)) pk_nil)))), ?_⟩
    refine st_ret hG (ef_makeL (K := K) (C := C) (lens := t.lens) (js := t.joints) (parks := t.parks) (EA.imp (ea_two (Pa := LS K (t.lens.map PyData.int)) (Pb := LS K (t.joints.map dP)) mo_LS mo_LS (el_list (ed_t0 rfl hx)) (el_list (ed_t1 rfl hx))) fun vs G' _ ⟨x, y, ev, hx, hy⟩ => ?_) (EA.imp (ea_one (el_list (ed_t2 rfl hx))) fun vs G' _ ⟨x, ev, hx⟩ => ?_) ht.few ht.one ht.inP ht.js ht.fewJ) fun v G' H' g p => k v G' H' g p
    · have hx' := hx.dp
      have hy' := hy.dp
      obtain ⟨b1, _, rfl, _⟩ := hx
      obtain ⟨b2, _, rfl, _⟩ := hy
      exact ⟨b1, b2, ev, hx', hy'⟩
    · have hx' := hx.dp
      obtain ⟨b1, _, rfl, _⟩ := hx
      exact ⟨b1, ev, hx'⟩
def spRefu (K : PySem.W.Frag) : Sp := fun vs H Q _ => ∃ (G : Hp) (a : Addr) (way : List Int) (len low : Int), Ex G H ∧ vs = [.ref a, .int len, .int low] ∧ SqL K G a (way.map V.int) ∧ way.length ≤ 400 ∧ way ≠ [] ∧ low < 1 ∧ Ret G H (XV (.bl true)) Q
theorem ok_refu (F : Fun K "_law_refusals" "_law_refusals" s_refusals f fd) (Cr : Cal P w K mg base "_law_refused" 6 ["_law_way_here", "_law_size_here"] (spRefused K)) (Cs : Cal P w K mg base "_law_same" 4 ["_law_actual", "_law_wanted"] (spSameB K 3)) : FnOk P w K mg base CX0 7 f fd ["_law_way_here", "_law_size_here", "_law_low"] (spRefu K) := by
  obtain ⟨f1, fd1, G_refused, m_refused, k_refused, b_refused⟩ := Cr
  obtain ⟨f2, fd2, G_same, m_same, k_same, b_same⟩ := Cs
  refine F.ok sc_refusals (fun vs H Q E h => ?_) (fun cdv A outer s H vs Q E hr h => ?_)
  · obtain ⟨G, a, way, len, low, _, rfl, _⟩ := h
    rfl
  · obtain ⟨G, a, way, len, low, hG, rfl, hs, hl, hne, hlow, k⟩ := h
    refine ⟨_, (pss_cons (ps_if (pt_not (pt_val (pe_call G_same (hr.mono (by decide)) rfl m_same k_same b_same .nil pass0 (pa_cons (pe_call G_refused (hr.mono (by decide)) rfl m_refused k_refused b_refused .nil pass0 (pa_cons (pe_lst pa_nil) (pa_cons (pv 1) pa_nil))) (pa_cons (pe_lst (pa_cons pe_bl (pa_cons pe_str (pa_cons pe_int pa_nil)))) pa_nil)))))
 (pss_one (ps_ret pe_bl)) pss_nil)
 (pss_cons (ps_if (pt_not (pt_val (pe_call G_same (hr.mono (by decide)) rfl m_same k_same b_same .nil pass0 (pa_cons (pe_call G_refused (hr.mono (by decide)) rfl m_refused k_refused b_refused .nil pass0 (pa_cons (pe_lst pa_nil) (pa_cons (pv 2) pa_nil))) (pa_cons (pe_lst (pa_cons pe_bl (pa_cons pe_str (pa_cons pe_int pa_nil)))) pa_nil)))))
 (pss_one (ps_ret pe_bl)) pss_nil)
 (pss_one (ps_ret (pe_and (pe_call G_same (hr.mono (by decide)) rfl m_same k_same b_same .nil pass0 (pa_cons (pe_call G_refused (hr.mono (by decide)) rfl m_refused k_refused b_refused .nil pass0 (pa_cons (pv 0) (pa_cons (pv 2) pa_nil))) (pa_cons (pe_lst (pa_cons pe_bl (pa_cons pe_str (pa_cons (pv 2) pa_nil)))) pa_nil))) (pe_one (pe_cmpR op_isN (pe_call G_refused (hr.mono (by decide)) rfl m_refused k_refused b_refused .nil pass0 (pa_cons (pv 0) (pa_cons pe_int pa_nil))) pe_non (nomark _)))))))), ?_⟩
    have l3 : ∀ (s : Str) (z : Int), Okb 3 (lstD s z) := fun s z => by
      refine ⟨by simp, fun d m => ?_⟩
      simp only [List.mem_cons, List.not_mem_nil, or_false] at m
      rcases m with rfl | rfl | rfl <;> trivial
    have nil : ∀ {σ : L2.St} {G' : Hp} {z : Int} {te : TE}, EF te σ G' (XV (.int z)) → EF (tCall (spRefused K) [] E0 (tCons (tLst tNil) (tCons te tNil))) σ G' (DV K (lstD "BadWay" 0)) := fun {σ G' z te} he => ef_call (ea_two (Pa := fun v G' => ∃ q : Addr, v = .ref q ∧ G' q = some (.lst [])) (fun v G G' e ⟨q, ev, hq⟩ => ⟨q, ev, e _ _ hq⟩) mo_XV (ef_lst (R := fun vs _ => vs = []) ea_nil (fun vs _ ev => by rw [ev]; simp) fun r vs G' _ _ _ ev => ⟨r, rfl, by rw [upd_same, ev]⟩) he) fun vs G' e ⟨u, v, ev, ⟨q, hu, hq⟩, hv⟩ => by
      rw [ev, hu, show v = _ from hv]
      have := sa_refused (K := K) (G := G') (a := q) (way := []) (len := z) (Evl.sq_of hq) (by simp)
      exact this
    have wy : ∀ {σ : L2.St} {G' : Hp} {z : Int} {te : TE}, Ex G G' → σ[0]? = some (some (.ref a)) → EF te σ G' (XV (.int z)) → EF (tCall (spRefused K) [] E0 (tCons (tVar 0) (tCons te tNil))) σ G' (DV K (refD z way)) := fun {σ G' z te} e h0 he => ex_call2 (ex_var h0) he fun G2 e2 => sa_refused (Evl.ex_l (e.trans e2) hs) hl
    have due : ∀ {σ : L2.St} {G' : Hp} {s : Str} {z : Int} {te : TE}, EF te σ G' (XV (.int z)) → EF (tLst (tCons (tC (.bl true)) (tCons (tC (.str s)) (tCons te tNil)))) σ G' (DV K (lstD s z)) := fun he => ef_lstD ex_c he
    have eqd : ∀ {σ : L2.St} {G' : Hp} {d : PyData} {t1 t2 : TE}, Okb 3 d → EF t1 σ G' (DV K d) → EF t2 σ G' (DV K d) → EF (tCall (spSameB K 3) [] E0 (tCons t1 (tCons t2 tNil))) σ G' (XV (.bl true)) := fun ob h1 h2 => ef_call (ea_two mo_DV mo_DV h1 h2) fun vs G' _ ⟨y, z, ev, hy, hz⟩ => by rw [ev]; exact sa_sameB hy hz ob
    refine st_if0 hG (et_not (et_B (EF.bl (eqd (l3 "BadWay" 0) (nil (ex_var rfl)) (due ex_c)) rfl))) fun H1 e1 => ?_
    refine st_if0 (hG.trans e1) (et_not (et_B (EF.bl (eqd (l3 "BadWay" 0) (nil (ex_var rfl)) (due ex_c)) rfl))) fun H2 e2 => ?_
    have r1 : refD low way = lstD "BadLength" low := by unfold refD; rw [if_neg hne, if_pos hlow]
    have r2 : refD 1 way = .none := by unfold refD; rw [if_neg hne, if_neg (by omega)]
    refine st_ret (P := XV (.bl true)) (hG.trans (e1.trans e2)) (ex_andT (eqd (l3 "BadLength" low) ((wy (.refl G) rfl (ex_var (v := .int low) rfl)).imp fun v _ _ p => by rw [r1] at p; exact p) (due (ex_var rfl))) (ex_isN ((wy (.refl G) rfl (ex_c (v := .int 1))).imp fun v _ _ p => by rw [r2] at p; cases p; rfl) ex_c)) fun v G' H' g p => k v G' H' ((Gr.same hG (e1.trans e2)).trans g) p
/-- tracks with other lengths -/
theorem trk_lens {t : Trk} (ht : TrkOk t) {l : List Int} (h1 : l.length = t.lens.length) (h2 : ∀ z ∈ l, 1 ≤ z) : TrkOk ⟨l, t.joints, t.parks⟩ := ⟨by show 1 ≤ l.length; rw [h1]; exact ht.pos, by show l.length ≤ 200; rw [h1]; exact ht.few, h2, ht.fewP, by show ∀ b ∈ t.parks, 0 ≤ b ∧ b < (l.length : Int); rw [h1]; exact ht.inP, ht.fewJ, by show JOk (l.length : Int) t.parks t.joints; rw [h1]; exact ht.js⟩
theorem ef_trk {σ : L2.St} {G : Hp} {ta tb tc : TE} {t : Trk} (h0 : EF ta σ G (DV K (dI t.lens))) (h1 : EF tb σ G (DV K (dPs t.joints))) (h2 : EF tc σ G (DV K (dI t.parks))) : EF (tTup (tCons ta (tCons tb (tCons tc tNil)))) σ G (DV K (dT t)) := ef_tup (ea_three mo_DV mo_DV mo_DV h0 h1 h2) (fun vs _ ⟨x, y, z, ev, _⟩ => by rw [ev]; simp) fun q vs G' _ _ gq ⟨x, y, z, ev, hx, hy, hz⟩ => dp_mkT upd_same (by rw [ev]; exact .cons (dpx hx (ex_in gq)) (.cons (dpx hy (ex_in gq)) (.cons (dpx hz (ex_in gq)) .nil)))
def LensV (K : PySem.W.Frag) (t : Trk) : VP := fun v G => ∃ l : List Int, l.length = t.lens.length ∧ (∀ z ∈ l, 1 ≤ z) ∧ Dp K G v (dI l)
def AnyL (K : PySem.W.Frag) (t0 : Trk) : VP := fun v G => ∃ t, TrkOk t ∧ t.lens.length = t0.lens.length ∧ Dp K G v (dT t)
theorem ef_trkL {σ : L2.St} {G : Hp} {ta tb tc : TE} {t : Trk} (ht : TrkOk t) (h0 : EF ta σ G (LensV K t)) (h1 : EF tb σ G (DV K (dPs t.joints))) (h2 : EF tc σ G (DV K (dI t.parks))) : EF (tTup (tCons ta (tCons tb (tCons tc tNil)))) σ G (AnyL K t) := ef_tup (ea_three (fun v G G' e ⟨l, a, b, c⟩ => ⟨l, a, b, dpx c e⟩) mo_DV mo_DV h0 h1 h2) (fun vs _ ⟨x, y, z, ev, _⟩ => by rw [ev]; simp) fun q vs G' _ _ gq ⟨x, y, z, ev, ⟨l, l1, l2, hx⟩, hy, hz⟩ => ⟨⟨l, t.joints, t.parks⟩, trk_lens ht l1 l2, l1, dp_mkT upd_same (by rw [ev]; exact .cons (dpx hx (ex_in gq)) (.cons (dpx hy (ex_in gq)) (.cons (dpx hz (ex_in gq)) .nil)))⟩
def AnyT (K : PySem.W.Frag) : VP := fun v G => ∃ t, TrkOk t ∧ Dp K G v (dT t)
def spSecond (K : PySem.W.Frag) : Sp := fun vs H Q _ => ∃ (G : Hp) (s : Addr) (ns : List Int) (x : V) (t : Trk) (fc : Int), Ex G H ∧ vs = [.ref s, x, .int fc] ∧ SqL K G s (ns.map V.int) ∧ ns.length ≤ 63 ∧ Dp K G x (dT t) ∧ TrkOk t ∧ 1 ≤ fc ∧ fc ≤ 10 ^ 9 ∧ Ret G H (AnyT K) Q
theorem mul_one {a b : Int} (ha : 1 ≤ a) (hb : 1 ≤ b) : 1 ≤ a * b := by
  have : (1 : Int) * 1 ≤ a * b := Int.mul_le_mul ha hb (by omega) (by omega)
  omega
theorem ok_second (B : Blt mg) (F : Fun K "_law_second" "_law_second" s_second f fd) (Cc : Cal P w K mg base "_law_cell" 1 ["_law_script", "_law_k"] (Lw.spCell K)) (Cd : Cal P w K mg base "_law_draw" 1 ["_law_cell_here", "_law_k", "_law_size_here"] spDraw) (Ct : Cal P w K mg base "_law_track" 2 ["_law_cell_here", "_law_most"] (spTrackB K)) : FnOk P w K mg base CX0 3 f fd ["_law_script", "_law_track_here", "_law_factor"] (spSecond K) := by
  obtain ⟨f1, fd1, G_cell, m_cell, k_cell, b_cell⟩ := Cc
  obtain ⟨f2, fd2, G_draw, m_draw, k_draw, b_draw⟩ := Cd
  obtain ⟨f3, fd3, G_track, m_track, k_track, b_track⟩ := Ct
  have m_len := B.len
  have m_range := B.range
  refine F.ok sc_second (fun vs H Q E h => ?_) (fun cdv A outer s H vs Q E hr h => ?_)
  · obtain ⟨G, s, ns, x, t, fc, _, rfl, _⟩ := h
    rfl
  · obtain ⟨G, s', ns, x, t, fc, hG, rfl, hS, hss, hx, ht, c1, c2, k⟩ := h
    refine ⟨_, (pss_cons (ps_set (i := 3) sc_second.nd rfl (by first | exact Or.inl rfl | exact Or.inr rfl) (pe_call G_cell (hr.mono (by decide)) rfl m_cell k_cell b_cell .nil pass0 (pa_cons (pv 0) (pa_cons pe_int pa_nil))))
 (pss_cons (ps_if (pt_cmpR op_eq (pe_call G_draw (hr.mono (by decide)) rfl m_draw k_draw b_draw .nil pass0 (pa_cons (pe_call G_cell (hr.mono (by decide)) rfl m_cell k_cell b_cell .nil pass0 (pa_cons (pv 0) (pa_cons pe_int pa_nil))) (pa_cons pe_int (pa_cons pe_int pa_nil)))) pe_int (nomark _))
 (pss_one (ps_ret (pe_call G_track (hr.mono (by decide)) rfl m_track k_track b_track .nil pass0 (pa_cons (pe_call G_cell (hr.mono (by decide)) rfl m_cell k_cell b_cell .nil pass0 (pa_cons (pv 0) (pa_cons pe_int pa_nil))) (pa_cons pe_int pa_nil))))) pss_nil)
 (pss_cons (ps_setLc (i := 4) (own := [("_law_block", 5)]) (g := (gName 5)) (tt := tYes) rfl sc_second.nd rfl rfl (sw_true rfl rfl rfl (by decide +kernel)) (pi_range1 rfl m_range (pa_cons (pe_callB call_len_seq (by rfl) m_len PySem.boot_len (pa_cons (pe_ix ix_tup (pv 1) pe_int (fun _ _ => rfl)) pa_nil)) pa_nil)) (blkOk_by (N := ["_law_script", "_law_track_here", "_law_factor", "_law_cell_here", "_law_lengths", "_law_block"]) (sc := defScope s_second) (by decide +kernel)) (fun _ _ _ _ _ => pg_name (i := 5) sc_second.nd rfl (Or.inl rfl)) (fun _ _ _ _ _ => pts_nil) (fun _ _ _ _ _ => (pe_op op_mul (pv 2) (pe_op op_add pe_int (pe_call G_draw (hr.mono (by decide)) rfl m_draw k_draw b_draw .nil pass0 (pa_cons (pv 3) (pa_cons (pv 5) (pa_cons pe_int pa_nil))))))))
 (pss_one (ps_ret (pe_tup (pa_cons (pv 4) (pa_cons (pe_ix ix_tup (pv 1) pe_int (fun _ _ => rfl)) (pa_cons (pe_ix ix_tup (pv 1) pe_int (fun _ _ => rfl)) pa_nil))))))))), ?_⟩
    have few := ht.few
    have pos := ht.pos
    have cellv : ∀ {j : Int} {σ : L2.St} {G' : Hp} {te : TE}, Ex G G' → σ[0]? = some (some (.ref s')) → EF te σ G' (XV (.int j)) → 0 ≤ j → j < 1000 → EF (tCall (Lw.spCell K) [] E0 (tCons (tVar 0) (tCons te tNil))) σ G' (IV fun _ => True) := fun e h he h0 h1 => ex_call2 (ex_var h) he fun G2 e2 => sa_cell (Evl.ex_l (e.trans e2) hS) hss h0 h1
    refine st_asg (P := IV fun _ => True) hG (cellv (.refl G) rfl ex_c (by omega) (by omega)) fun v3 G3 H3 g3 p3 => ?_
    obtain ⟨c, rfl, _⟩ := p3
    dsimp only
    refine st_if (p := fun _ => True) g3.ok (et_test (ei_eq (s := fun _ => True) (ei_draw (n := 3) (cellv g3.up rfl ex_c (by omega) (by omega)) (EF.ivp ex_c ⟨by omega, by omega⟩) (EF.iv ex_c) (by omega) (by omega)) (EF.iv ex_c) fun _ _ _ _ => trivial)) (fun _ H4 e4 => ?_) (fun _ H4 e4 => ?_)
    · refine st_ret (P := TVB K 8) (g3.ok.trans e4) (ef_call (ea_two mo_IV mo_XV (cellv g3.up rfl ex_c (by omega) (by omega)) (ex_c (v := .int 8))) fun vs G' _ ⟨y, z, ev, ⟨u, eu, _⟩, hz⟩ => ?_) fun v G' H' g ⟨t2, a1, _, _, a2⟩ => k v G' H' ((g3.then e4).trans g) ⟨t2, a1, a2⟩
      subst ev eu
      rw [show z = _ from hz]
      exact sa_trackB (by omega) (by omega)
    have gA := g3.then e4
    dsimp only
    refine st_asg (P := DL fun ns => (ns.length : Int) = (t.lens.length : Int) ∧ ∀ z ∈ ns, 1 ≤ z) gA.ok (ef_lens (n := (t.lens.length : Int)) (ea_x ((ex_lenD (ed_t0 rfl (dpx hx gA.up))).imp fun v _ _ p => by rw [show v = _ from p, List.length_map]; rfl) ea_nil) (by omega) (fun x => rfl) fun i G' _ hi => ei_mul (p := (· = fc)) (q := fun z => 1 ≤ z) (EF.iv (ex_var rfl)) (ei_add (p := (· = 1)) (q := fun z => 0 ≤ z ∧ z < 9) (EF.iv ex_c) (ei_draw (n := 9) (EF.ivp (ex_var (v := .int c) rfl) trivial) (EF.ivp (ex_var (v := .int (i : Int)) rfl) ⟨by omega, by omega⟩) (EF.iv ex_c) (by omega) (by omega)) fun a b ha hb => by omega) (fun a ha => by omega) fun a b ha hb => mul_one (by omega) hb) fun v4 G4 H5 g4 p4 => ?_
    obtain ⟨a3, lens, rfl, _, ⟨hl1, hl2⟩, d3⟩ := dl_dp (K := K) p4
    have gB := gA.trans g4
    dsimp only
    refine st_ret (P := DV K (dT ⟨lens, t.joints, t.parks⟩)) gB.ok (ef_trk (t := ⟨lens, t.joints, t.parks⟩) (EF.dv (ex_var (v := .ref a3) rfl) d3) (ed_t1 (t := t) (i := 1) rfl (dpx hx gB.up)) (ed_t2 (t := t) (i := 1) rfl (dpx hx gB.up))) fun v G' H' g p => k v G' H' (gB.trans g) ⟨_, trk_lens ht (by omega) hl2, p⟩
def WorldV (K : PySem.W.Frag) : VP := fun v G => ∃ (b : Addr) (x : V) (t : Trk) (a : Addr) (way : List Int) (len fc : Int), v = .ref b ∧ SqT K G b [x, .ref a, .int len, .int fc] ∧ Dp K G x (dT t) ∧ TrkOk t ∧ SqL K G a (way.map V.int) ∧ way ≠ [] ∧ way.length ≤ 400 ∧ 1 ≤ len ∧ 1 ≤ fc ∧ fc ≤ 10 ^ 9
def spWorld (K : PySem.W.Frag) : Sp := fun vs H Q _ => ∃ (G : Hp) (s : Addr) (ns : List Int), Ex G H ∧ vs = [.ref s] ∧ SqL K G s (ns.map V.int) ∧ ns.length ≤ 63 ∧ Ret G H (WorldV K) Q
theorem ok_world (B : Blt mg) (F : Fun K "_law_world" "_law_world" s_world f fd) (Cc : Cal P w K mg base "_law_cell" 1 ["_law_script", "_law_k"] (Lw.spCell K)) (Cd : Cal P w K mg base "_law_draw" 1 ["_law_cell_here", "_law_k", "_law_size_here"] spDraw) (Ct : Cal P w K mg base "_law_track" 2 ["_law_cell_here", "_law_most"] (spTrackB K)) (Cl : Cal P w K mg base "_law_line" 2 ["_law_cell_here"] (spLine K)) (Cw : Cal P w K mg base "_law_way" 2 ["_law_track_here", "_law_cell_here"] (spWay K)) (Cp : Cal P w K mg base "_law_spoilt_way" 2 ["_law_track_here", "_law_way_here", "_law_cell_here"] (spSpoil K)) (Cs : Cal P w K mg base "_law_size" 2 ["_law_track_here", "_law_way_here", "_law_cell_here", "_law_factor"] (spSizeT K)) : FnOk P w K mg base CX0 3 f fd ["_law_script"] (spWorld K) := by
  obtain ⟨f1, fd1, G_cell, m_cell, k_cell, b_cell⟩ := Cc
  obtain ⟨f2, fd2, G_draw, m_draw, k_draw, b_draw⟩ := Cd
  obtain ⟨f3, fd3, G_track, m_track, k_track, b_track⟩ := Ct
  obtain ⟨f4, fd4, G_line, m_line, k_line, b_line⟩ := Cl
  obtain ⟨f5, fd5, G_way, m_way, k_way, b_way⟩ := Cw
  obtain ⟨f6, fd6, G_spoilt_way, m_spoilt_way, k_spoilt_way, b_spoilt_way⟩ := Cp
  obtain ⟨f7, fd7, G_size, m_size, k_size, b_size⟩ := Cs
  have m_len := B.len
  have m_list := B.list
  refine F.ok sc_world (fun vs H Q E h => ?_) (fun cdv A outer s H vs Q E hr h => ?_)
  · obtain ⟨G, s, ns, _, rfl, _⟩ := h
    rfl
  · obtain ⟨G, s', ns, hG, rfl, hS, hss, k⟩ := h
    refine ⟨_, (pss_cons (ps_set (i := 1) sc_world.nd rfl (by first | exact Or.inl rfl | exact Or.inr rfl) (pe_call G_cell (hr.mono (by decide)) rfl m_cell k_cell b_cell .nil pass0 (pa_cons (pv 0) (pa_cons pe_int pa_nil))))
 (pss_cons (ps_set (i := 2) sc_world.nd rfl (by first | exact Or.inl rfl | exact Or.inr rfl) pe_int)
 (Evl.pss_cut (ps_if (pt_cmpR op_eq (pe_call G_draw (hr.mono (by decide)) rfl m_draw k_draw b_draw .nil pass0 (pa_cons (pv 1) (pa_cons pe_int (pa_cons pe_int pa_nil)))) pe_int (nomark _))
 (pss_one (ps_set (i := 2) sc_world.nd rfl (by first | exact Or.inl rfl | exact Or.inr rfl) (pe_op op_pow pe_int pe_int))) pss_nil)
 (pss_cons (ps_set (i := 3) sc_world.nd rfl (by first | exact Or.inl rfl | exact Or.inr rfl) (pe_call G_track (hr.mono (by decide)) rfl m_track k_track b_track .nil pass0 (pa_cons (pe_call G_cell (hr.mono (by decide)) rfl m_cell k_cell b_cell .nil pass0 (pa_cons (pv 0) (pa_cons pe_int pa_nil))) (pa_cons pe_int pa_nil))))
 (Evl.pss_cut (ps_if (pt_cmpR op_eq (pe_call G_draw (hr.mono (by decide)) rfl m_draw k_draw b_draw .nil pass0 (pa_cons (pv 1) (pa_cons pe_int (pa_cons pe_int pa_nil)))) pe_int (nomark _))
 (pss_one (ps_set (i := 3) sc_world.nd rfl (by first | exact Or.inl rfl | exact Or.inr rfl) (pe_call G_line (hr.mono (by decide)) rfl m_line k_line b_line .nil pass0 (pa_cons (pe_call G_cell (hr.mono (by decide)) rfl m_cell k_cell b_cell .nil pass0 (pa_cons (pv 0) (pa_cons pe_int pa_nil))) pa_nil)))) pss_nil)
 (pss_cons (ps_set (i := 4) sc_world.nd rfl (by first | exact Or.inl rfl | exact Or.inr rfl) (pe_tup (pa_cons (pe_lc (own := [("_law_entry", 7)]) (g := (gName 7)) (tt := tYes) rfl sc_world.nd (pi_list (pe_ix ix_tup (pv 3) pe_int (fun _ _ => rfl))) (blkOk_by (N := ["_law_script", "_law_setup", "_law_factor", "_law_small", "_law_track_here", "_law_straight", "_law_way_here", "_law_entry"]) (sc := defScope s_world) (by decide +kernel)) (fun _ _ _ _ _ => pg_name (i := 7) sc_world.nd rfl (Or.inl rfl)) (fun _ _ _ _ _ => pts_nil) (fun _ _ _ _ _ => (pe_op op_mul (pv 2) (pv 7)))) (pa_cons (pe_ix ix_tup (pv 3) pe_int (fun _ _ => rfl)) (pa_cons (pe_ix ix_tup (pv 3) pe_int (fun _ _ => rfl)) pa_nil)))))
 (pss_cons (ps_set (i := 5) sc_world.nd rfl (by first | exact Or.inl rfl | exact Or.inr rfl) (pe_call G_way (hr.mono (by decide)) rfl m_way k_way b_way .nil pass0 (pa_cons (pv 4) (pa_cons (pe_call G_cell (hr.mono (by decide)) rfl m_cell k_cell b_cell .nil pass0 (pa_cons (pv 0) (pa_cons pe_int pa_nil))) pa_nil))))
 (pss_cons (ps_set (i := 6) sc_world.nd rfl (by first | exact Or.inl rfl | exact Or.inr rfl) (pe_call G_spoilt_way (hr.mono (by decide)) rfl m_spoilt_way k_spoilt_way b_spoilt_way .nil pass0 (pa_cons (pv 4) (pa_cons (pv 5) (pa_cons (pe_call G_cell (hr.mono (by decide)) rfl m_cell k_cell b_cell .nil pass0 (pa_cons (pv 0) (pa_cons pe_int pa_nil))) pa_nil)))))
 (Evl.pss_cut (ps_if (PW.pt (pw_and (pt_cmpR op_gt (pe_callB call_len_seq (by rfl) m_len PySem.boot_len (pa_cons (pv 6) pa_nil)) pe_int (nomark _)) (pw_and1 (pt_cmpR op_eq (pe_call G_draw (hr.mono (by decide)) rfl m_draw k_draw b_draw .nil pass0 (pa_cons (pv 1) (pa_cons pe_int (pa_cons pe_int pa_nil)))) pe_int (nomark _)))))
 (pss_one (ps_set (i := 6) sc_world.nd rfl (by first | exact Or.inl rfl | exact Or.inr rfl) (pe_call G_spoilt_way (hr.mono (by decide)) rfl m_spoilt_way k_spoilt_way b_spoilt_way .nil pass0 (pa_cons (pv 4) (pa_cons (pv 6) (pa_cons (pe_call G_cell (hr.mono (by decide)) rfl m_cell k_cell b_cell .nil pass0 (pa_cons (pv 0) (pa_cons pe_int pa_nil))) pa_nil)))))) pss_nil)
 (Evl.pss_cut (ps_if (pt_cmpR op_eq (pe_callB call_len_seq (by rfl) m_len PySem.boot_len (pa_cons (pv 6) pa_nil)) pe_int (nomark _))
 (pss_one (ps_set (i := 6) sc_world.nd rfl (by first | exact Or.inl rfl | exact Or.inr rfl) (pe_callTy call_list_of (by rfl) m_list (by decide +kernel) (pa_cons (pv 5) pa_nil)))) pss_nil)
 (pss_one (ps_ret (pe_tup (pa_cons (pv 4) (pa_cons (pv 6) (pa_cons (pe_call G_size (hr.mono (by decide)) rfl m_size k_size b_size .nil pass0 (pa_cons (pv 4) (pa_cons (pv 5) (pa_cons (pe_call G_cell (hr.mono (by decide)) rfl m_cell k_cell b_cell .nil pass0 (pa_cons (pv 0) (pa_cons pe_int pa_nil))) (pa_cons (pv 2) pa_nil))))) (pa_cons (pv 2) pa_nil))))))))))))))))), ?_⟩
    have cellv : ∀ {j : Int} {σ : L2.St} {G' : Hp} {te : TE}, Ex G G' → σ[0]? = some (some (.ref s')) → EF te σ G' (XV (.int j)) → 0 ≤ j → j < 1000 → EF (tCall (Lw.spCell K) [] E0 (tCons (tVar 0) (tCons te tNil))) σ G' (IV fun _ => True) := fun e h he h0 h1 => ex_call2 (ex_var h) he fun G2 e2 => sa_cell (Evl.ex_l (e.trans e2) hS) hss h0 h1
    refine st_asg (P := IV fun _ => True) hG (cellv (.refl G) rfl ex_c (by omega) (by omega)) fun v1 G1 H1 g1 p1 => ?_
    obtain ⟨su, rfl, _⟩ := p1
    have rnd : ∀ {σ : L2.St} {G' : Hp} {j m z : Int}, σ[1]? = some (some (.int su)) → 0 ≤ j → j ≤ 100 → 1 ≤ m → m ≤ 2000 → ET (tTest (tOp rEq (tCall spDraw [] E0 (tCons (tVar 1) (tCons (tC (.int j)) (tCons (tC (.int m)) tNil)))) (tC (.int z)))) σ G' (fun _ => True) := fun {σ G' j m z} h1 h2 h3 h4 h5 => et_test (ei_eq (s := fun _ => True) (ei_draw (n := m) (EF.ivp (ex_var (v := .int su) h1) trivial) (EF.ivp ex_c ⟨by omega, by omega⟩) (EF.iv ex_c) (by omega) (by omega)) (EF.iv ex_c) fun _ _ _ _ => trivial)
    dsimp only
    refine st_asg (P := XV (.int 1)) g1.ok ex_c fun v2 G2 H2 g2 p2 => ?_
    cases (show v2 = _ from p2)
    have gA := g1.trans g2
    dsimp only
    refine ⟨fun σ' H' => ∃ Gk fc, Gr G Gk H H' ∧ 1 ≤ fc ∧ fc ≤ 10 ^ 9 ∧ σ' = [some (.ref s'), some (.int su), some (.int fc), none, none, none, none, none], ?_, ?_⟩
    · refine st_if (p := fun _ => True) g2.ok (rnd rfl (by omega) (by omega) (by omega) (by omega)) (fun _ H3 e3 => ?_) (fun _ H3 e3 => ⟨G2, 1, gA.then e3, by omega, by omega, rfl⟩)
      refine st_asg (P := XV (.int (10 ^ (9 : Int).toNat))) (g2.ok.trans e3) (ex_pow ex_c ex_c ⟨by omega, by omega, by decide⟩) fun v3 G3 H4 g3 p3 => ⟨G3, 10 ^ (9 : Int).toNat, (gA.then e3).trans g3, by decide, by decide, by cases (show v3 = _ from p3); rfl⟩
    rintro σ1 H3 ⟨G3, fc, g3, c1, c2, rfl⟩
    refine st_asg (P := AnyT K) g3.ok ((ef_call (P := TVB K 8) (ea_two mo_IV mo_XV (cellv g3.up rfl ex_c (by omega) (by omega)) (ex_c (v := .int 8))) fun vs G' _ ⟨y, z, ev, ⟨u, eu, _⟩, hz⟩ => by
      subst ev eu
      rw [show z = _ from hz]
      exact sa_trackB (by omega) (by omega)).imp fun v G' _ ⟨t2, a1, _, _, a2⟩ => ⟨t2, a1, a2⟩) fun v4 G4 H4 g4 p4 => ?_
    have gB := g3.trans g4
    dsimp only
    refine ⟨fun σ' H' => ∃ Gk v, Gr G Gk H H' ∧ AnyT K v Gk ∧ σ' = [some (.ref s'), some (.int su), some (.int fc), some v, none, none, none, none], ?_, ?_⟩
    · refine st_if (p := fun _ => True) g4.ok (rnd rfl (by omega) (by omega) (by omega) (by omega)) (fun _ H5 e5 => ?_) (fun _ H5 e5 => ⟨G4, v4, gB.then e5, p4, rfl⟩)
      refine st_asg (P := TV K 60) (g4.ok.trans e5) (ef_call (ea_one (cellv gB.up rfl ex_c (by omega) (by omega))) fun vs G' _ ⟨y, ev, ⟨u, eu, _⟩⟩ => by
        subst ev eu
        exact sa_line) fun v5 G5 H6 g5 ⟨t5, a1, _, a2⟩ => ⟨G5, v5, (gB.then e5).trans g5, ⟨t5, a1, a2⟩, rfl⟩
    rintro σ2 H5 ⟨G5, v3, g5, ⟨t0, ht0, d0⟩, rfl⟩
    have few := ht0.few
    have pos := ht0.pos
    have tl : EF (tOp (rIxT K) (tVar 3) (tC (.int 0))) [some (.ref s'), some (.int su), some (.int fc), some v3, none, none, none, none] G5 (DV K (dI t0.lens)) := ed_t0 rfl d0
    refine st_asg (P := AnyL K t0) g5.ok (ef_trkL (t := t0) ht0 (fun H0 e Q0 q0 => tl H0 e _ fun v G7 H8 g7 p7 => ?_) (ed_t1 (i := 3) rfl d0) (ed_t2 (i := 3) rfl d0)) fun v6 G6 H6 g6 p6 => ?_
    · obtain ⟨la, lxs, rfl, hls, hld⟩ := dp_lst p7
      have key : EF (tLc (iList K (tC (.ref la))) (gName 7) tYes (tOp (rI CMul fun i j => .int (i * j)) (tVar 2) (tVar 7)) [7]) [some (.ref s'), some (.int su), some (.int fc), some v3, none, none, none, none] G7 (LS K (t0.lens.map fun z => PyData.int (fc * z))) := el_mapA (K := K) (f := PyData.int) (l := t0.lens) (xs := lxs) ((ex_c (v := .ref la)).imp fun v G' e p => ⟨la, p, Evl.ex_l e hls⟩) hld (by omega) (fun x => rfl) fun z w G' e m d => by
        cases d
        exact (ex_mul (ex_var rfl) (ex_var rfl) (.inl (by omega))).dv (.int _)
      refine key H8 g7.ok Q0 fun u G9 H9 g9 p9 => q0 u G9 H9 (g7.trans g9) ⟨t0.lens.map fun z => fc * z, by rw [List.length_map], fun z m => ?_, ?_⟩
      · obtain ⟨z0, m0, rfl⟩ := List.mem_map.mp m
        exact mul_one c1 (ht0.one z0 m0)
      · show Dp K G9 u (.list ((t0.lens.map fun z => fc * z).map PyData.int))
        rw [List.map_map]
        exact p9.dp
    obtain ⟨t, ht, et, dt⟩ := p6
    have gC := g5.trans g6
    dsimp only
    refine st_asg (P := WL K (WayP t)) g6.ok (ef_call (ea_two mo_XV mo_IV (ex_var (v := v6) rfl) (cellv gC.up rfl ex_c (by omega) (by omega))) fun vs G' e ⟨y, z, ev, hy, ⟨u, eu, _⟩⟩ => by
      subst ev eu
      rw [show y = _ from hy]
      exact fun H e2 Q _ q => ⟨G', v6, t, u, e2, rfl, dpx dt e, ht, q⟩) fun v7 G7 H7 g7 p7 => ?_
    obtain ⟨a, str, rfl, hw, sa⟩ := p7
    have gD := gC.trans g7
    have d7 := dpx dt g7.up
    obtain ⟨w1, w2, w3⟩ := hw
    have spo : ∀ {σ : L2.St} {G' : Hp} {i : Nat} {j : Int} {b : Addr} {row : List Int}, Ex G7 G' → σ[0]? = some (some (.ref s')) → σ[4]? = some (some v6) → σ[i]? = some (some (.ref b)) → SqL K G' b (row.map V.int) → 1 ≤ row.length → row.length ≤ 300 → 0 ≤ j → j < 1000 → EF (tCall (spSpoil K) [] E0 (tCons (tVar 4) (tCons (tVar i) (tCons (tCall (Lw.spCell K) [] E0 (tCons (tVar 0) (tCons (tC (.int j)) tNil))) tNil)))) σ G' (WL K fun r => r.length ≤ row.length + 1) := fun {σ G' i j b row} e h0 h4 hi hb r1 r2 j0 j1 => ef_call (ea_three mo_XV mo_XV mo_IV (ex_var h4) (ex_var hi) (cellv (gD.up.trans e) h0 ex_c j0 j1)) fun vs G2 e2 ⟨y, z, u, ev, hy, hz, ⟨n, en, _⟩⟩ => by
      subst ev en
      rw [show y = _ from hy, show z = _ from hz]
      exact fun H e3 Q _ q => ⟨G2, v6, t, b, row, n, e3, rfl, dpx d7 (e.trans e2), ht, Evl.ex_l e2 hb, r1, r2, q⟩
    dsimp only
    refine st_asg (P := WL K fun r => r.length ≤ str.length + 1) g7.ok (spo (.refl G7) rfl rfl rfl sa w2 (by omega) (by omega) (by omega)) fun v8 G8 H8 g8 p8 => ?_
    obtain ⟨b, row, rfl, hr, sb⟩ := p8
    have hr : row.length ≤ str.length + 1 := hr
    have gE := gD.trans g8
    have lnr : ∀ {σ : L2.St} {G' : Hp} {b : Addr} {row : List Int}, SqL K G' b (row.map V.int) → σ[6]? = some (some (.ref b)) → EF (tCB (Evl.rLenS K) (tCons (tVar 6) tNil)) σ G' (XV (.int (row.length : Int))) := fun hs h => (ex_lenL (ex_var h) hs).imp fun v _ _ p => by rw [show v = _ from p, List.length_map]; rfl
    dsimp only
    refine ⟨fun σ' H' => ∃ (Gk : Hp) (b : Addr) (row : List Int), Gr G Gk H H' ∧ Ex G7 Gk ∧ SqL K Gk b (row.map V.int) ∧ row.length ≤ 300 ∧ σ' = [some (.ref s'), some (.int su), some (.int fc), some v3, some v6, some (.ref a), some (.ref b), none], ?_, ?_⟩
    · refine st_if (p := fun c => c = true → 0 < (row.length : Int)) g8.ok (et_and (p := (· = decide ((row.length : Int) > 0))) (q := fun _ => True) (et_gtI (lnr sb rfl) ex_c) (fun _ => rnd rfl (by omega) (by omega) (by omega) (by omega)) (fun h _ _ _ => of_decide_eq_true h.symm) fun _ z => nomatch z) (fun h H9 e9 => ?_) (fun _ H9 e9 => ⟨G8, b, row, gE.then e9, g8.up, sb, by omega, rfl⟩)
      have h := h rfl
      refine st_asg (P := WL K fun r => r.length ≤ row.length + 1) (g8.ok.trans e9) (spo g8.up rfl rfl rfl sb (by omega) (by omega) (by omega) (by omega)) fun v9 G9 Ha g9 p9 => ?_
      obtain ⟨b2, row2, rfl, hr2, sb2⟩ := p9
      have hr2 : row2.length ≤ row.length + 1 := hr2
      exact ⟨G9, b2, row2, (gE.then e9).trans g9, g8.up.trans g9.up, sb2, by omega, rfl⟩
    rintro σ3 H9 ⟨G9, b9, row9, g9, e79, sb9, hr9, rfl⟩
    refine ⟨fun σ' H' => ∃ (Gk : Hp) (b : Addr) (row : List Int), Gr G Gk H H' ∧ Ex G7 Gk ∧ SqL K Gk b (row.map V.int) ∧ row ≠ [] ∧ row.length ≤ 300 ∧ σ' = [some (.ref s'), some (.int su), some (.int fc), some v3, some v6, some (.ref a), some (.ref b), none], ?_, ?_⟩
    · refine st_if (p := (· = decide ((row9.length : Int) = 0))) g9.ok (et_eqI (lnr sb9 rfl) ex_c) (fun h Ha ea => ?_) (fun h Ha ea => ⟨G9, b9, row9, g9.then ea, e79, sb9, fun z => of_decide_eq_false h.symm (by rw [z]; rfl), hr9, rfl⟩)
      refine st_asg (P := LS K (str.map PyData.int)) (g9.ok.trans ea) (el_list (EF.dv (ex_var (v := .ref a) rfl) (dv_row (Evl.ex_l e79 sa)))) fun va Ga Hb ga ⟨l, xs, el, hl, hd⟩ => ?_
      subst el
      rw [dpa_ints_eq hd] at hl
      exact ⟨Ga, l, str, (g9.then ea).trans ga, e79.trans ga.up, Evl.sq_of hl, fun z => by rw [z] at w2; simp at w2, by omega, rfl⟩
    rintro σ4 Ha ⟨Ga, b0, row0, ga, e7a, sb0, hne, hr0, rfl⟩
    have da := dpx d7 e7a
    have sz : EF (tCall (spSizeT K) [] E0 (tCons (tVar 4) (tCons (tVar 5) (tCons (tCall (Lw.spCell K) [] E0 (tCons (tVar 0) (tCons (tC (.int 3)) tNil))) (tCons (tVar 2) tNil))))) [some (.ref s'), some (.int su), some (.int fc), some v3, some v6, some (.ref a), some (.ref b0), none] Ga (IV fun z => 1 ≤ z) := ef_call (ea_four mo_XV mo_XV mo_IV mo_XV (ex_var (v := v6) rfl) (ex_var (v := .ref a) rfl) (cellv ga.up rfl ex_c (by omega) (by omega)) (ex_var (v := .int fc) rfl)) fun vs G2 e2 ⟨y, z, u, x, ev, hy, hz, ⟨n, en, _⟩, hx⟩ => by
      subst ev en
      rw [show y = _ from hy, show z = _ from hz, show x = _ from hx]
      exact fun H e3 Q _ q => ⟨G2, v6, t, a, str, n, fc, e3, rfl, dpx da e2, Evl.ex_l (e7a.trans e2) sa, ⟨w1, w2, w3⟩, c1, c2, q⟩
    refine st_ret (P := WorldV K) ga.ok (ef_tup (ea_four (Pa := DV K (dT t)) (Pb := fun v G' => v = .ref b0 ∧ SqL K G' b0 (row0.map V.int)) mo_DV (fun v G G' e ⟨ev, h⟩ => ⟨ev, Evl.ex_l e h⟩) mo_IV mo_XV (EF.dv (ex_var (v := v6) rfl) da) (ef_var rfl ⟨rfl, sb0⟩) sz (ex_var (v := .int fc) rfl)) (fun vs _ ⟨_, _, _, _, ev, _⟩ => by rw [ev]; simp) fun q vs G' _ _ gq ⟨y, z, u, x, ev, hy, ⟨ez, hz⟩, ⟨n, en, hn⟩, hx⟩ => ?_) fun v G' H' g p => k v G' H' (ga.trans g) p
    subst ev ez en
    cases (show x = _ from hx)
    exact ⟨q, y, t, b0, row0, n, fc, rfl, Evl.st_of upd_same, dpx hy (ex_in gq), ht, Evl.ex_l (ex_in gq) hz, hne, by omega, hn, c1, c2⟩
end
end Kx

set_option Elab.async false
set_option linter.all false
set_option maxRecDepth 100000
set_option maxHeartbeats 16000000
/-! the law of releases -/
namespace Kx
open PySem L2 Lw
open Evl (Ex)
abbrev s_law : Stmt := top 39
theorem sc_law : FnScope ["_law_script", "_law_world_here", "_law_track_here", "_law_way_here", "_law_size_here", "_law_passed", "_law_train", "_law_short", "_law_row", "_law_second_here", "_law_layout_here", "_law_beside"] ["_law_script"] (defScope s_law) := ⟨rfl, rfl, rfl, by decide +kernel, rfl, by decide +kernel, by decide +kernel⟩
def spLaw (K : PySem.W.Frag) : Sp := fun vs H Q _ => ∃ (a : Addr) (ns : List Int), vs = [.ref a] ∧ SqL K H a (ns.map V.int) ∧ ns.length ≤ 63 ∧ ∀ H', Q (.bl true) H'
section
variable {P : Program} {w : World} {K : PySem.W.Frag} {mg : Str → Option Value} {base : Heap} {C CT CB CL CN : Addr} {f : Addr} {fd : FuncData}
theorem ok_law {uT : Value} {gg : List Value → List Value → List Value} (v0_tinit : Vals [V.int 1] [uT]) (TT : TrCl K CT) (B : Blt mg) (F : Fun K "law" "law" s_law f fd) (Cc : Cal P w K mg base "_law_cell" 1 ["_law_script", "_law_k"] (Lw.spCell K)) (Cd : Cal P w K mg base "_law_draw" 1 ["_law_cell_here", "_law_k", "_law_size_here"] spDraw) (Cw : Cal P w K mg base "_law_world" 3 ["_law_script"] (spWorld K)) (Cr : Cal P w K mg base "_law_refusals" 7 ["_law_way_here", "_law_size_here", "_law_low"] (spRefu K)) (Cs : Cal P w K mg base "_law_same" 4 ["_law_actual", "_law_wanted"] (spSameB K 3))
    (Ci : ∃ fI fdI, Mk K CT fI ∧ FnOk P w K mg base (L2.CX P w) 3 fI fdI ["self", "way", "length"] (spTInit K CT CB CL) ∧ KBn K fdI ["self", "way", "length"] 2 ["length"] gg (fun vs zs => vs ++ zs) ∧ mg "Train" = some (.ref CT) ∧ Binds K fdI ["self", "way", "length"] [uT])
    (Cf : Cal P w K mg base "_law_train_fits" 5 ["_law_track_here", "_law_train", "_law_way_here", "_law_size_here"] (spTFits K CT)) (Cb : CalM P w K mg base CT "blocks" 1 ["self"] (spBlocksT K CT)) (C2 : Cal P w K mg base "_law_second" 3 ["_law_script", "_law_track_here", "_law_factor"] (spSecond K)) (Cl : Cal P w K mg base "_law_layout" 7 ["_law_track_here"] (spLayT K C)) (Ca : Cal P w K mg base "_law_asked" 11 ["_law_layout_here", "_law_track_here", "_law_train", "_law_way_here", "_law_size_here"] (spAsked K C CT)) : FnOk P w K mg base CX0 12 f fd ["_law_script"] (spLaw K) := by
  obtain ⟨f1, fd1, G_cell, m_cell, k_cell, b_cell⟩ := Cc
  obtain ⟨f2, fd2, G_draw, m_draw, k_draw, b_draw⟩ := Cd
  obtain ⟨f3, fd3, G_world, m_world, k_world, b_world⟩ := Cw
  obtain ⟨f4, fd4, G_refusals, m_refusals, k_refusals, b_refusals⟩ := Cr
  obtain ⟨f5, fd5, G_same, m_same, k_same, b_same⟩ := Cs
  obtain ⟨fI, fdI, M_Train, G_tinit, b_tinit, m_Train, b_tinit0⟩ := Ci
  obtain ⟨f6, fd6, G_train_fits, m_train_fits, k_train_fits, b_train_fits⟩ := Cf
  obtain ⟨f7, fd7, G_blocks, M_blocks, b_blocks⟩ := Cb
  obtain ⟨f8, fd8, G_second, m_second, k_second, b_second⟩ := C2
  obtain ⟨f9, fd9, G_layout, m_layout, k_layout, b_layout⟩ := Cl
  obtain ⟨f10, fd10, G_asked, m_asked, k_asked, b_asked⟩ := Ca
  have cT := TT.cl
  have m_list := B.list
  refine F.ok sc_law (fun vs H Q E h => ?_) (fun cdv A outer s H vs Q E hr h => ?_)
  · obtain ⟨a, ns, rfl, _⟩ := h
    rfl
  · obtain ⟨s', ss, rfl, hS, hss, k⟩ := h
    refine ⟨_, (pss_cons (ps_set (i := 1) sc_law.nd rfl (by first | exact Or.inl rfl | exact Or.inr rfl) (pe_call G_world (hr.mono (by decide)) rfl m_world k_world b_world .nil pass0 (pa_cons (pv 0) pa_nil)))
 (pss_cons (ps_set (i := 2) sc_law.nd rfl (by first | exact Or.inl rfl | exact Or.inr rfl) (pe_ix ix_tup (pv 1) pe_int (fun _ _ => rfl)))
 (pss_cons (ps_set (i := 3) sc_law.nd rfl (by first | exact Or.inl rfl | exact Or.inr rfl) (pe_ix ix_tup (pv 1) pe_int (fun _ _ => rfl)))
 (pss_cons (ps_set (i := 4) sc_law.nd rfl (by first | exact Or.inl rfl | exact Or.inr rfl) (pe_ix ix_tup (pv 1) pe_int (fun _ _ => rfl)))
 (pss_cons (ps_if (pt_not (pt_val (pe_call G_refusals (hr.mono (by decide)) rfl m_refusals k_refusals b_refusals .nil pass0 (pa_cons (pv 3) (pa_cons (pv 4) (pa_cons (pe_op op_sub pe_int (pe_op op_mul (pe_ix ix_tup (pv 1) pe_int (fun _ _ => rfl)) (pe_call G_draw (hr.mono (by decide)) rfl m_draw k_draw b_draw .nil pass0 (pa_cons (pe_call G_cell (hr.mono (by decide)) rfl m_cell k_cell b_cell .nil pass0 (pa_cons (pv 0) (pa_cons pe_int pa_nil))) (pa_cons pe_int (pa_cons pe_int pa_nil)))))) pa_nil))))))
 (pss_one (ps_ret pe_bl)) pss_nil)
 (pss_cons (ps_set (i := 5) sc_law.nd rfl (by first | exact Or.inl rfl | exact Or.inr rfl) (pe_callTy call_list_of (by rfl) m_list (by decide +kernel) (pa_cons (pv 3) pa_nil)))
 (pss_cons (ps_set (i := 6) sc_law.nd rfl (by first | exact Or.inl rfl | exact Or.inr rfl) (pe_makeK M_Train G_tinit (hr.mono (by decide)) rfl m_Train b_tinit passL (pa_cons (pv 5) pa_nil) (pk_cons (pv 4) pk_nil)))
 (pss_cons (ps_set (i := 7) sc_law.nd rfl (by first | exact Or.inl rfl | exact Or.inr rfl) (pe_make M_Train G_tinit (hr.mono (by decide)) rfl m_Train b_tinit0 v0_tinit passL (pa_cons (pv 5) pa_nil)))
 (pss_cons (ps_if (pt_not (pt_val (pe_call G_same (hr.mono (by decide)) rfl m_same k_same b_same .nil pass0 (pa_cons (pv 5) (pa_cons (pv 3) pa_nil)))))
 (pss_one (ps_ret pe_bl)) pss_nil)
 (pss_cons (ps_expr (pe_bm PySem.F.plainAttrs_list PySem.F.slot_list_append PySem.F.type_list_append mt_append (pv 5) (pa_cons pe_int pa_nil)))
 (pss_cons (ps_asg (pe_un un_neg pe_int) (pg_sub (pv 5) pe_int set_list))
 (pss_cons (ps_if (PW.pt (pw_or (pt_not (pt_val (pe_call G_train_fits (hr.mono (by decide)) rfl m_train_fits k_train_fits b_train_fits .nil pass0 (pa_cons (pv 2) (pa_cons (pv 6) (pa_cons (pv 3) (pa_cons (pv 4) pa_nil))))))) (pw_or1 (pt_not (pt_val (pe_call G_train_fits (hr.mono (by decide)) rfl m_train_fits k_train_fits b_train_fits .nil pass0 (pa_cons (pv 2) (pa_cons (pv 7) (pa_cons (pv 3) (pa_cons pe_int pa_nil))))))))))
 (pss_one (ps_ret pe_bl)) pss_nil)
 (pss_cons (ps_set (i := 8) sc_law.nd rfl (by first | exact Or.inl rfl | exact Or.inr rfl) (pe_meth0 (pv 6) cT M_blocks G_blocks (hr.mono (by decide)) b_blocks .nil pass0))
 (pss_cons (ps_expr (pe_bm PySem.F.plainAttrs_list PySem.F.slot_list_append PySem.F.type_list_append mt_append (pv 8) (pa_cons pe_int pa_nil)))
 (pss_cons (ps_asg (pe_un un_neg pe_int) (pg_sub (pv 8) pe_int set_list))
 (pss_cons (ps_set (i := 9) sc_law.nd rfl (by first | exact Or.inl rfl | exact Or.inr rfl) (pe_call G_second (hr.mono (by decide)) rfl m_second k_second b_second .nil pass0 (pa_cons (pv 0) (pa_cons (pv 2) (pa_cons (pe_ix ix_tup (pv 1) pe_int (fun _ _ => rfl)) pa_nil)))))
 (pss_cons (ps_set (i := 10) sc_law.nd rfl (by first | exact Or.inl rfl | exact Or.inr rfl) (pe_call G_layout (hr.mono (by decide)) rfl m_layout k_layout b_layout .nil pass0 (pa_cons (pv 2) pa_nil)))
 (pss_cons (ps_set (i := 11) sc_law.nd rfl (by first | exact Or.inl rfl | exact Or.inr rfl) (pe_call G_layout (hr.mono (by decide)) rfl m_layout k_layout b_layout .nil pass0 (pa_cons (pv 9) pa_nil)))
 (pss_cons (ps_if (PW.pt (pw_or (pt_not (pt_val (pe_call G_asked (hr.mono (by decide)) rfl m_asked k_asked b_asked .nil pass0 (pa_cons (pv 10) (pa_cons (pv 2) (pa_cons (pv 6) (pa_cons (pv 3) (pa_cons (pv 4) pa_nil)))))))) (pw_or1 (pt_not (pt_val (pe_call G_asked (hr.mono (by decide)) rfl m_asked k_asked b_asked .nil pass0 (pa_cons (pv 11) (pa_cons (pv 9) (pa_cons (pv 6) (pa_cons (pv 3) (pa_cons (pv 4) pa_nil)))))))))))
 (pss_one (ps_ret pe_bl)) pss_nil)
 (pss_cons (ps_if (PW.pt (pw_or (pt_not (pt_val (pe_call G_asked (hr.mono (by decide)) rfl m_asked k_asked b_asked .nil pass0 (pa_cons (pv 10) (pa_cons (pv 2) (pa_cons (pv 7) (pa_cons (pv 3) (pa_cons pe_int pa_nil)))))))) (pw_or1 (pt_not (pt_val (pe_call G_asked (hr.mono (by decide)) rfl m_asked k_asked b_asked .nil pass0 (pa_cons (pv 10) (pa_cons (pv 2) (pa_cons (pv 6) (pa_cons (pv 3) (pa_cons (pv 4) pa_nil)))))))))))
 (pss_one (ps_ret pe_bl)) pss_nil)
 (pss_one (ps_ret (pe_and (pe_call G_train_fits (hr.mono (by decide)) rfl m_train_fits k_train_fits b_train_fits .nil pass0 (pa_cons (pv 2) (pa_cons (pv 6) (pa_cons (pv 3) (pa_cons (pv 4) pa_nil))))) (pe_one (pe_call G_train_fits (hr.mono (by decide)) rfl m_train_fits k_train_fits b_train_fits .nil pass0 (pa_cons (pv 2) (pa_cons (pv 7) (pa_cons (pv 3) (pa_cons pe_int pa_nil))))))))))))))))))))))))))))), ?_⟩
    have cellv : ∀ {j : Int} {σ : L2.St} {G' : Hp} {te : TE}, Ex H G' → σ[0]? = some (some (.ref s')) → EF te σ G' (XV (.int j)) → 0 ≤ j → j < 1000 → EF (tCall (Lw.spCell K) [] E0 (tCons (tVar 0) (tCons te tNil))) σ G' (IV fun _ => True) := fun e h he h0 h1 => ex_call2 (ex_var h) he fun G2 e2 => sa_cell (Evl.ex_l (e.trans e2) hS) hss h0 h1
    refine st_asg (P := WorldV K) (Ex.refl H) (ex_call1 (ex_var rfl) fun G' e H2 e2 Q2 _ q => ⟨G', s', ss, e2, rfl, Evl.ex_l e hS, hss, q⟩) fun v1 G1 H1 g1 p1 => ?_
    obtain ⟨wb, x, t, a, way, len, fc, rfl, sw, dx, ht, sa, hne, hl, l1, c1, c2⟩ := p1
    have few := ht.few
    dsimp only
    refine st_asg (P := XV x) g1.ok (ex_ixT (i := 0) (ex_var rfl) ex_c sw rfl) fun v2 G2 H2 g2 p2 => ?_
    cases (show v2 = _ from p2)
    dsimp only
    refine st_asg (P := XV (.ref a)) g2.ok (ex_ixT (i := 1) (ex_var rfl) ex_c (Evl.ex_t g2.up sw) rfl) fun v3 G3 H3 g3 p3 => ?_
    cases (show v3 = _ from p3)
    dsimp only
    have g13 := g2.up.trans g3.up
    refine st_asg (P := XV (.int len)) g3.ok (ex_ixT (i := 2) (ex_var rfl) ex_c (Evl.ex_t g13 sw) rfl) fun v4 G4 H4 g4 p4 => ?_
    cases (show v4 = _ from p4)
    have e14 := g13.trans g4.up
    have eH4 : Ex H G4 := g1.up.trans e14
    have sw4 := Evl.ex_t e14 sw
    have dx4 := dpx dx e14
    have sa4 := Evl.ex_l e14 sa
    dsimp only
    refine st_if0 g4.ok (et_not (et_B (EF.bl (ef_call (P := XV (.bl true)) (ea_three mo_XV mo_XV mo_IV (ex_var (v := .ref a) rfl) (ex_var (v := .int len) rfl) (ei_sub (p := (· = 0)) (q := fun z => 0 ≤ z) (s := fun z => z < 1) (EF.iv ex_c) (ei_mul (p := (· = fc)) (q := fun z => 0 ≤ z) (s := fun z => 0 ≤ z) (EF.iv (ex_ixT (i := 3) (ex_var (v := .ref wb) rfl) ex_c sw4 rfl)) ((ei_draw (n := 5) (cellv eH4 rfl ex_c (by omega) (by omega)) (EF.ivp ex_c ⟨by omega, by omega⟩) (EF.iv ex_c) (by omega) (by omega)).ivw fun z hz => hz.1) (fun a ha => by omega) fun u v hu hv => Int.mul_nonneg (by omega) hv) fun u v hu hv => by omega)) fun vs G' e ⟨y, z, u, ev, hy, hz, ⟨n, en, hn⟩⟩ => by
      subst ev en
      rw [show y = _ from hy, show z = _ from hz]
      exact fun H e2 Q _ q => ⟨G', a, way, len, n, e2, rfl, Evl.ex_l e sa4, hl, hne, hn, q⟩) rfl))) fun H5 e5 => ?_
    -- passed: a list of our own
    refine st_asg (P := fun v G' => ∃ q xs, v = .ref q ∧ G4 q = none ∧ G' q = some (.lst xs) ∧ DpAll K G' xs (way.map PyData.int)) (g4.ok.trans e5) (ed_list (EF.dv (ex_var (v := .ref a) rfl) (dv_row sa4))) fun v5 G6 H6 g6 p6 => ?_
    obtain ⟨q, xs, rfl, gq, hq6, hd6⟩ := p6
    rw [dpa_ints_eq hd6] at hq6
    have hq6' := g6.ok _ _ hq6
    have e4 : Ex G4 H6 := g6.up.trans g6.ok
    have eK : Ex (upd G4 q (.lst (way.map V.int))) H6 := ex_know e4 hq6'
    have eU : Ex G4 (upd G4 q (.lst (way.map V.int))) := ex_in gq
    have sq : SqL K (upd G4 q (.lst (way.map V.int))) q (way.map V.int) := Evl.sq_of upd_same
    dsimp only
    refine st_asg (P := fun v G' => ∃ r, v = .ref r ∧ TrNew CT (upd G4 q (.lst (way.map V.int))) G' r way len) eK (ef_trainK (K := K) (way := way) (len := len) ((ea_one (ex_var (v := .ref q) rfl)).imp fun vs G' e ⟨y, ev, hy⟩ => ⟨q, by rw [ev, show y = _ from hy], Evl.ex_l e sq⟩) (fun G' e => ea_x (ex_var rfl) ea_nil) hl hne l1) fun v6 G7 H7 g7 p7 => ?_
    obtain ⟨tr, rfl, hT7⟩ := p7
    dsimp only
    refine st_asg (P := fun v G' => ∃ r, v = .ref r ∧ TrNew CT G7 G' r way 1) g7.ok (ef_trainD (K := K) (way := way) ((ea_one (ex_var (v := .ref q) rfl)).imp fun vs G' e ⟨y, ev, hy⟩ => ⟨q, by rw [ev, show y = _ from hy], Evl.ex_l (g7.up.trans e) sq⟩) hl hne) fun v7 G8 H8 g8 p8 => ?_
    obtain ⟨ts, rfl, hT8⟩ := p8
    have hS8 := hT8.low g7.up
    have hL8 := hT7.ex g8.up
    have g78 := g7.trans g8
    have okw : Okb 3 (dI way) := ⟨by rw [List.length_map]; omega, fun d m => by obtain ⟨z, _, rfl⟩ := List.mem_map.mp m; exact okb_int⟩
    dsimp only
    refine st_if0 g8.ok (et_not (et_B (EF.bl (ex_call2 (P := XV (.bl true)) (ex_var (v := .ref q) rfl) (ex_var (v := .ref a) rfl) fun G' e => sa_sameB (dv_row (Evl.ex_l (g78.up.trans e) sq)) (dv_row (Evl.ex_l ((eU.trans g78.up).trans e) sa4)) okw) rfl))) fun H9 e9 => ?_
    -- passed is ours to change: it is forgotten
    have g9 := g78.then e9
    have q8 : G8 q = some (.lst (way.map V.int)) := g78.up _ _ upd_same
    have hq9 : H9 q = some (.lst (way.map V.int)) := g9.ok _ _ q8
    have gF := g9.forget gq
    have trL : TrAtT K CT (dropA G8 q) tr way len := hL8.drop upd_same q8
    have trS : TrAtT K CT (dropA G8 q) ts way 1 := hS8.drop upd_same q8
    obtain ⟨GF, hGF⟩ : ∃ GF, GF = dropA G8 q := ⟨_, rfl⟩
    rw [← hGF] at gF trL trS
    have gFq : GF q = none := by rw [hGF]; exact dropA_same
    have eF : Ex G4 GF := gF.up
    have dxF := dpx dx4 eF
    have saF := Evl.ex_l eF sa4
    have wpos : 1 ≤ way.length := by
      cases way with
      | nil => exact absurd rfl hne
      | cons z r => simp
    dsimp only
    refine st_app (P := XV (.int 0)) (l := q) (xs := way.map V.int) gF.ok hq9 (ex_var rfl) ex_c (by rw [List.length_map]; omega) fun v Ga Ha ga pv => ?_
    have gaq : Ga q = none := ga.2.2.2 q (ne_none_of hq9) gFq
    refine st_setQ (q := q) (ys := way.map V.int ++ [v]) (i := 5) (p := fun _ => True) (P := XV (.int (-9))) (G := GF) (ex_off (ga.up.trans ga.ok) gFq) upd_same rfl ex_neg ((EF.iv (ex_c (v := .int 0))).imp fun v _ _ ⟨z, ez, hz⟩ => ⟨z, ez, 0, by rw [hz]; rfl, by simp, trivial⟩) fun j v2 Gb Hb hj _ gb pv2 => ?_
    have eb : Ex GF (upd Hb q (.lst ((way.map V.int ++ [v]).set j v2))) := ex_off (gb.up.trans gb.ok) gFq
    generalize upd Hb q (.lst ((way.map V.int ++ [v]).set j v2)) = Hc at eb ⊢
    have fit : ∀ {σ : L2.St} {G' : Hp} {i j : Nat} {r : Addr} {ln : Int}, Ex GF G' → TrAtT K CT GF r way ln → σ[2]? = some (some x) → σ[3]? = some (some (.ref a)) → σ[i]? = some (some (.ref r)) → ∀ {tl : TE}, EF tl σ G' (XV (.int ln)) → EF (tCall (spTFits K CT) [] E0 (tCons (tVar 2) (tCons (tVar i) (tCons (tVar 3) (tCons tl tNil))))) σ G' (XV (.bl true)) := fun {σ G' i j r ln} e hT h2 h3 hi {tl} hln => ex_call4 (ex_var h2) (ex_var hi) (ex_var h3) hln fun G2 e2 => sa_tfits (dpx dxF (e.trans e2)) ht (hT.ex (e.trans e2)) (Evl.ex_l (e.trans e2) saF) hl
    refine st_if0 eb (et_or (p := (· = false)) (q := (· = false)) (s := (· = false)) (et_not (et_B (EF.bl (fit (j := 0) (.refl GF) trL rfl rfl rfl (ex_var rfl)) rfl))) (fun _ => et_not (et_B (EF.bl (fit (j := 0) (.refl GF) trS rfl rfl rfl ex_c) rfl))) (fun z => nomatch z) fun _ b h => h) fun Hd ed => ?_
    have eD := eb.trans ed
    refine st_asg (P := fun v G' => ∃ r xs, v = .ref r ∧ GF r = none ∧ G' r = some (.lst xs) ∧ xs.length = way.length) eD ((ex_meth0 (P := NwD K GF (way.map PyData.int)) (ex_var (v := .ref tr) rfl) (trL.meth (by decide +kernel)) fun G' e => (sa_blocksT (trL.ex e)).imp fun v G2 p => p.low e).imp fun v G' _ ⟨r, xs, ev, r0, r1, r2⟩ => ⟨r, xs, ev, r0, r1, by rw [dpa_len r2, List.length_map]⟩) fun v8 Ge He ge pe => ?_
    obtain ⟨r, ys, rfl, r0, r1, r2⟩ := pe
    have hre := ge.ok _ _ r1
    dsimp only
    refine st_app (P := XV (.int 3)) (l := r) (xs := ys) (ge.up.trans ge.ok) hre (ex_var rfl) ex_c (by omega) fun v Gf Hf gf pv => ?_
    have gfr : Gf r = none := gf.2.2.2 r (ne_none_of hre) r0
    refine st_setQ (q := r) (ys := ys ++ [v]) (i := 8) (p := fun _ => True) (P := XV (.int (-4))) (G := GF) (ex_off (gf.up.trans gf.ok) r0) upd_same rfl ex_neg ((EF.iv (ex_c (v := .int 0))).imp fun v _ _ ⟨z, ez, hz⟩ => ⟨z, ez, 0, by rw [hz]; rfl, by simp, trivial⟩) fun j2 v3 Gg Hg hj2 _ gg2 pv3 => ?_
    have eg : Ex GF (upd Hg r (.lst ((ys ++ [v]).set j2 v3))) := ex_off (gg2.up.trans gg2.ok) r0
    generalize upd Hg r (.lst ((ys ++ [v]).set j2 v3)) = Hh at eg ⊢
    have eHF : Ex H GF := eH4.trans eF
    have swF := Evl.ex_t eF sw4
    dsimp only
    refine st_asg (P := AnyT K) eg (ex_call3 (ex_var (v := .ref s') rfl) (ex_var (v := x) rfl) (ex_ixT (i := 3) (ex_var (v := .ref wb) rfl) ex_c swF rfl) fun G' e H2 e2 Q2 _ q2 => ⟨G', s', ss, x, t, fc, e2, rfl, Evl.ex_l (eHF.trans e) hS, hss, dpx dxF e, ht, c1, c2, q2⟩) fun v9 Gi Hi gi pi => ?_
    obtain ⟨t2, ht2, d2⟩ := pi
    dsimp only
    refine st_asg (P := fun v G' => ∃ p, v = .ref p ∧ LayL K C G' p t.lens t.parks t.joints) gi.ok (ex_call1 (ex_var (v := x) rfl) fun G' e => sa_layT (dpx dxF (gi.up.trans e)) ht) fun v10 Gj Hj gj pj => ?_
    obtain ⟨p1, rfl, L1⟩ := pj
    dsimp only
    refine st_asg (P := fun v G' => ∃ p, v = .ref p ∧ LayL K C G' p t2.lens t2.parks t2.joints) gj.ok (ex_call1 (ex_var (v := v9) rfl) fun G' e => sa_layT (dpx d2 (gj.up.trans e)) ht2) fun v11 Gk Hk gk pk => ?_
    obtain ⟨p2, rfl, L2'⟩ := pk
    have L1' := L1.ex gk.up
    have eFk : Ex GF Gk := gi.up.trans (gj.up.trans gk.up)
    have d2k := dpx d2 (gj.up.trans gk.up)
    have dxk := dpx dxF eFk
    have sak := Evl.ex_l eFk saF
    have trLk := trL.ex eFk
    have trSk := trS.ex eFk
    have ask : ∀ {σ : L2.St} {G' : Hp} {i j n : Nat} {pp rr : Addr} {y : V} {tt : Trk} {ln : Int}, Ex Gk G' → LayL K C Gk pp tt.lens tt.parks tt.joints → Dp K Gk y (dT tt) → TrkOk tt → TrAtT K CT Gk rr way ln → σ[i]? = some (some (.ref pp)) → σ[j]? = some (some y) → σ[n]? = some (some (.ref rr)) → σ[3]? = some (some (.ref a)) → ∀ {tl : TE}, EF tl σ G' (XV (.int ln)) → ET (tNot (tB (tCall (spAsked K C CT) [] E0 (tCons (tVar i) (tCons (tVar j) (tCons (tVar n) (tCons (tVar 3) (tCons tl tNil)))))))) σ G' (· = false) := fun {σ G' i j n pp rr y tt ln} e hL hy htt hT h1 h2 h3 h4 {tl} hln => et_not (et_B (EF.bl (ef_call (P := XV (.bl true)) (ea_x (ex_var h1) (ea_x (ex_var h2) (ea_x (ex_var h3) (ea_x (ex_var h4) (ea_x hln ea_nil))))) fun vs G2 e2 ev => by rw [ev]; exact sa_asked (hL.ex (e.trans e2)) (dpx hy (e.trans e2)) htt (hT.ex (e.trans e2)) (Evl.ex_l (e.trans e2) sak) hne hl) rfl))
    refine st_if0 gk.ok (et_or (p := (· = false)) (q := (· = false)) (s := (· = false)) (ask (.refl Gk) L1' dxk ht trLk rfl rfl rfl rfl (ex_var rfl)) (fun _ => ask (.refl Gk) L2' d2k ht2 trLk rfl rfl rfl rfl (ex_var rfl)) (fun z => nomatch z) fun _ b h => h) fun Hl el => ?_
    refine st_if0 (gk.ok.trans el) (et_or (p := (· = false)) (q := (· = false)) (s := (· = false)) (ask (.refl Gk) L1' dxk ht trSk rfl rfl rfl rfl ex_c) (fun _ => ask (.refl Gk) L1' dxk ht trLk rfl rfl rfl rfl (ex_var rfl)) (fun z => nomatch z) fun _ b h => h) fun Hm em => ?_
    refine st_ret (P := XV (.bl true)) ((gk.ok.trans el).trans em) (ex_andT (fit (j := 0) eFk trL rfl rfl rfl (ex_var rfl)) (fit (j := 0) eFk trS rfl rfl rfl ex_c)) fun v G' H' g pv => ?_
    rw [show v = _ from pv]
    exact k H'
end
end Kx

set_option Elab.async false
set_option linter.all false
set_option maxRecDepth 100000
set_option maxHeartbeats 4000000
namespace Kx
open PySem L2 Lw
theorem wpAny_iteF {M : Model} {A : Around} {α : Type} {c : Prop} [Decidable c] {x y : Sem α} {Q : α → Shared → Prop} {E : Value → Shared → Prop} {s : Shared} (h : ¬ c) (k : wpAny M A y Q E s) : wpAny M A (if c then x else y) Q E s := by rw [if_neg h]; exact k
theorem wpAny_iteT {M : Model} {A : Around} {α : Type} {c : Prop} [Decidable c] {x y : Sem α} {Q : α → Shared → Prop} {E : Value → Shared → Prop} {s : Shared} (h : c) (k : wpAny M A x Q E s) : wpAny M A (if c then x else y) Q E s := by rw [if_pos h]; exact k
theorem binds_tinit0 {K : PySem.W.Frag} {aD : Addr} {u : Value} {dc pm : Value} {an : Option Addr} {cd ct : Value} (dY : PySem.W.nsIn K aD "length" = some (some u)) : Binds K (PySem.W.fnOf "__init__" "Train.__init__" (defArgs s_Train_init) (defBody s_Train_init) (defScope s_Train_init) .none (.ref aD) dc pm an cd ct) ["self", "way", "length"] [u] := by
  intro s us hK hl
  have h3 : us.length = 2 := by simpa using hl
  match us, h3 with
  | [a, b], _ =>
    intro M A E Q q
    have ha : ∃ p1 p2 p3 p4, defArgs s_Train_init = p1 := ⟨_, 0, 0, 0, rfl⟩
    unfold bindArgs
    dsimp only [PySem.W.fnOf]
    generalize hx : defArgs s_Train_init = ar
    have hn : (List.map (fun x => x.arg) ar.posonlyargs ++ List.map (fun x => x.arg) ar.args) = (["self", "way"] : List Str) := by rw [← hx]; rfl
    have hk : List.map (fun x => x.arg) ar.kwonlyargs = (["length"] : List Str) := by rw [← hx]; rfl
    have hv : ar.vararg = none := by rw [← hx]; rfl
    have hw : ar.kwarg = none := by rw [← hx]; rfl
    clear hx ha
    simp only [hn, hk, hv, hw]
    refine wpAny_bind (wpAny_pure ?_)
    refine wpAny_bind (wpAny_pure ?_)
    clear hn hk hv hw
    have nf : ∀ {b : Bool}, b = false → ¬ (b = true) := fun h z => by rw [h] at z; cases z
    refine wpAny_iteF (nf rfl) ?_
    refine wpAny_iteF (nf rfl) ?_
    refine wpAny_bind (wpAny_pure ?_)
    refine wpAny_bind ?_
    refine wpAny_bind ?_
    refine wpAny_iteT rfl ?_
    refine wpAny_bind (PySem.W.looks_nsIn hK dY A _ E s (fun _ _ h => h) ?_)
    refine wpAny_pure ?_
    refine wpAny_pure ?_
    refine wpAny_iteF (nf rfl) ?_
    exact wpAny_pure q
end Kx

set_option Elab.async false
set_option linter.all false
set_option maxRecDepth 100000
set_option maxHeartbeats 16000000
namespace Kx
open PySem L2 Lw
open Evl (Ex)
def ggI (us ws : List Value) : List Value := us ++ ws
theorem exm_sub {K : PySem.W.Frag} {S R : Addr} {b : Bool} (h1 : PySem.W.subIn K (.ref R) (.type "BaseException") = some true) (h2 : PySem.W.isClsIn K R = true) (h3 : PySem.W.typeIn K (.ref R) = some (.type "type")) (h4 : PySem.W.subIn K (.ref S) (.ref R) = some b) : PySem.W.exmOne K (.ref S) (.ref R) = some b := by
  have e1 : (PySem.W.subIn K (.ref R) (.type "BaseException") == some true) = true := by rw [h1] <;> rfl
  have e2 : ((PySem.W.clsIn K R).isSome && PySem.W.typeIn K (.ref R) == some (.type "type")) = true := by
    have h2' : (PySem.W.clsIn K R).isSome = true := h2
    rw [h2', h3] <;> rfl
  unfold PySem.W.exmOne
  rw [if_pos e1]
  show (if ((PySem.W.clsIn K R).isSome && PySem.W.typeIn K (.ref R) == some (.type "type")) = true then PySem.W.subIn K (.ref S) (.ref R) else none) = some b
  rw [if_pos e2]
  exact h4
theorem all_mk {l : PySem.W.OpenLaw} {w : World} {K : PySem.W.Frag} {h : Heap} {mg : Str → Option Value} {tk_Train_init : Tok} {aD_Train_init fa C f_check_block f_check_blocks f_heading f_first_break f_releases f__release f_cell f_draw f_same f_track f_way f_lreleases f_layout f_line f_way_error f_spoilt_way f_size f_refused f_told f_due f_asked f_train_fits f_world f_second f_refusals f_law f_Layout_init f_Layoutadd_joint f_Layout_contains f_Layout_length_of f_Layout_east_of f_Layout_west_of f_Layout_branches f_Layout_joined f_Train_init f_Train_blocks f_Train_step_of f_NoBlock_init f_BadWay_init f_BadLength_init CT A_RailError CN A_BadWay A_BadLength : Addr} (X : K.In h) (G : h.Ns mainGlobals mg) (hfa : mg "law" = some (.ref fa))
    {nm_NoBlock q_NoBlock : Str} {N_NoBlock : Addr} {bs_NoBlock : List Value} {sn_NoBlock : List Str} {sub_NoBlock : List Value} {ab_NoBlock : Bool} {col_NoBlock : Option Bool} {dd_NoBlock : Option Addr} {m0_NoBlock m1_NoBlock m2_NoBlock m3_NoBlock m5_NoBlock : Option Value} {nm_BadWay q_BadWay : Str} {N_BadWay : Addr} {bs_BadWay : List Value} {sn_BadWay : List Str} {sub_BadWay : List Value} {ab_BadWay : Bool} {col_BadWay : Option Bool} {dd_BadWay : Option Addr} {m0_BadWay m1_BadWay m2_BadWay m3_BadWay m5_BadWay : Option Value} {nm_BadLength q_BadLength : Str} {N_BadLength : Addr} {bs_BadLength : List Value} {sn_BadLength : List Str} {sub_BadLength : List Value} {ab_BadLength : Bool} {col_BadLength : Option Bool} {dd_BadLength : Option Addr} {m0_BadLength m1_BadLength m2_BadLength m3_BadLength m5_BadLength : Option Value}
    {od_check_block an_check_block od_check_blocks an_check_blocks od_heading an_heading od_first_break an_first_break od_releases an_releases od__release an__release od_cell an_cell od_draw an_draw od_same an_same od_track an_track od_way an_way od_lreleases an_lreleases od_layout an_layout od_line an_line od_way_error an_way_error od_spoilt_way an_spoilt_way od_size an_size od_refused an_refused od_told an_told od_due an_due od_asked an_asked od_train_fits an_train_fits od_world an_world od_second an_second od_refusals an_refusals od_law an_law od_Layout_init an_Layout_init od_Layoutadd_joint an_Layoutadd_joint od_Layout_contains an_Layout_contains od_Layout_length_of an_Layout_length_of od_Layout_east_of an_Layout_east_of od_Layout_west_of an_Layout_west_of od_Layout_branches an_Layout_branches od_Layout_joined an_Layout_joined od_Train_init an_Train_init od_Train_blocks an_Train_blocks od_Train_step_of an_Train_step_of od_NoBlock_init an_NoBlock_init od_BadWay_init an_BadWay_init od_BadLength_init an_BadLength_init : Option Addr} {sl_check_block sl_check_blocks sl_heading sl_first_break sl_releases sl__release sl_cell sl_draw sl_same sl_track sl_way sl_lreleases sl_layout sl_line sl_way_error sl_spoilt_way sl_size sl_refused sl_told sl_due sl_asked sl_train_fits sl_world sl_second sl_refusals sl_law sl_Layout_init sl_Layoutadd_joint sl_Layout_contains sl_Layout_length_of sl_Layout_east_of sl_Layout_west_of sl_Layout_branches sl_Layout_joined sl_Train_init sl_Train_blocks sl_Train_step_of sl_NoBlock_init sl_BadWay_init sl_BadLength_init : Array (Option Value)} {oc_check_block kV_check_block dc_check_block pm_check_block cd_check_block ct_check_block oc_check_blocks kV_check_blocks dc_check_blocks pm_check_blocks cd_check_blocks ct_check_blocks oc_heading kV_heading dc_heading pm_heading cd_heading ct_heading oc_first_break kV_first_break dc_first_break pm_first_break cd_first_break ct_first_break oc_releases kV_releases dc_releases pm_releases cd_releases ct_releases oc__release kV__release dc__release pm__release cd__release ct__release oc_cell kV_cell dc_cell pm_cell cd_cell ct_cell oc_draw kV_draw dc_draw pm_draw cd_draw ct_draw oc_same kV_same dc_same pm_same cd_same ct_same oc_track kV_track dc_track pm_track cd_track ct_track oc_way kV_way dc_way pm_way cd_way ct_way oc_lreleases kV_lreleases dc_lreleases pm_lreleases cd_lreleases ct_lreleases oc_layout kV_layout dc_layout pm_layout cd_layout ct_layout oc_line kV_line dc_line pm_line cd_line ct_line oc_way_error kV_way_error dc_way_error pm_way_error cd_way_error ct_way_error oc_spoilt_way kV_spoilt_way dc_spoilt_way pm_spoilt_way cd_spoilt_way ct_spoilt_way oc_size kV_size dc_size pm_size cd_size ct_size oc_refused kV_refused dc_refused pm_refused cd_refused ct_refused oc_told kV_told dc_told pm_told cd_told ct_told oc_due kV_due dc_due pm_due cd_due ct_due oc_asked kV_asked dc_asked pm_asked cd_asked ct_asked oc_train_fits kV_train_fits dc_train_fits pm_train_fits cd_train_fits ct_train_fits oc_world kV_world dc_world pm_world cd_world ct_world oc_second kV_second dc_second pm_second cd_second ct_second oc_refusals kV_refusals dc_refusals pm_refusals cd_refusals ct_refusals oc_law kV_law dc_law pm_law cd_law ct_law oc_Layout_init kV_Layout_init dc_Layout_init pm_Layout_init cd_Layout_init ct_Layout_init oc_Layoutadd_joint kV_Layoutadd_joint dc_Layoutadd_joint pm_Layoutadd_joint cd_Layoutadd_joint ct_Layoutadd_joint oc_Layout_contains kV_Layout_contains dc_Layout_contains pm_Layout_contains cd_Layout_contains ct_Layout_contains oc_Layout_length_of kV_Layout_length_of dc_Layout_length_of pm_Layout_length_of cd_Layout_length_of ct_Layout_length_of oc_Layout_east_of kV_Layout_east_of dc_Layout_east_of pm_Layout_east_of cd_Layout_east_of ct_Layout_east_of oc_Layout_west_of kV_Layout_west_of dc_Layout_west_of pm_Layout_west_of cd_Layout_west_of ct_Layout_west_of oc_Layout_branches kV_Layout_branches dc_Layout_branches pm_Layout_branches cd_Layout_branches ct_Layout_branches oc_Layout_joined kV_Layout_joined dc_Layout_joined pm_Layout_joined cd_Layout_joined ct_Layout_joined oc_Train_init dc_Train_init pm_Train_init cd_Train_init ct_Train_init oc_Train_blocks kV_Train_blocks dc_Train_blocks pm_Train_blocks cd_Train_blocks ct_Train_blocks oc_Train_step_of kV_Train_step_of dc_Train_step_of pm_Train_step_of cd_Train_step_of ct_Train_step_of oc_NoBlock_init kV_NoBlock_init dc_NoBlock_init pm_NoBlock_init cd_NoBlock_init ct_NoBlock_init oc_BadWay_init kV_BadWay_init dc_BadWay_init pm_BadWay_init cd_BadWay_init ct_BadWay_init oc_BadLength_init kV_BadLength_init dc_BadLength_init pm_BadLength_init cd_BadLength_init ct_BadLength_init : Value}
    (aC : PySem.W.nsIn K mainGlobals "Layout" = some (some (.ref C)))
    (a_check_block : PySem.W.nsIn K mainGlobals "check_block" = some (some (.ref f_check_block)))
    (l_check_block : K.lookup f_check_block = some ⟨oc_check_block, od_check_block, .func (PySem.W.fnOf "check_block" "check_block" (defArgs s_check_block) (defBody s_check_block) (defScope s_check_block) .none kV_check_block dc_check_block pm_check_block an_check_block cd_check_block ct_check_block), sl_check_block⟩) (c_check_block : PySem.W.codeIn K cd_check_block "check_block" = true) (k_check_block : PySem.W.keepIn K (.ref f_check_block) = true)
    (a_check_blocks : PySem.W.nsIn K mainGlobals "check_blocks" = some (some (.ref f_check_blocks)))
    (l_check_blocks : K.lookup f_check_blocks = some ⟨oc_check_blocks, od_check_blocks, .func (PySem.W.fnOf "check_blocks" "check_blocks" (defArgs s_check_blocks) (defBody s_check_blocks) (defScope s_check_blocks) .none kV_check_blocks dc_check_blocks pm_check_blocks an_check_blocks cd_check_blocks ct_check_blocks), sl_check_blocks⟩) (c_check_blocks : PySem.W.codeIn K cd_check_blocks "check_blocks" = true) (k_check_blocks : PySem.W.keepIn K (.ref f_check_blocks) = true)
    (a_heading : PySem.W.nsIn K mainGlobals "heading" = some (some (.ref f_heading)))
    (l_heading : K.lookup f_heading = some ⟨oc_heading, od_heading, .func (PySem.W.fnOf "heading" "heading" (defArgs s_heading) (defBody s_heading) (defScope s_heading) .none kV_heading dc_heading pm_heading an_heading cd_heading ct_heading), sl_heading⟩) (c_heading : PySem.W.codeIn K cd_heading "heading" = true) (k_heading : PySem.W.keepIn K (.ref f_heading) = true)
    (a_first_break : PySem.W.nsIn K mainGlobals "first_break" = some (some (.ref f_first_break)))
    (l_first_break : K.lookup f_first_break = some ⟨oc_first_break, od_first_break, .func (PySem.W.fnOf "first_break" "first_break" (defArgs s_first_break) (defBody s_first_break) (defScope s_first_break) .none kV_first_break dc_first_break pm_first_break an_first_break cd_first_break ct_first_break), sl_first_break⟩) (c_first_break : PySem.W.codeIn K cd_first_break "first_break" = true) (k_first_break : PySem.W.keepIn K (.ref f_first_break) = true)
    (a_releases : PySem.W.nsIn K mainGlobals "releases" = some (some (.ref f_releases)))
    (l_releases : K.lookup f_releases = some ⟨oc_releases, od_releases, .func (PySem.W.fnOf "releases" "releases" (defArgs s_releases) (defBody s_releases) (defScope s_releases) .none kV_releases dc_releases pm_releases an_releases cd_releases ct_releases), sl_releases⟩) (c_releases : PySem.W.codeIn K cd_releases "releases" = true) (k_releases : PySem.W.keepIn K (.ref f_releases) = true)
    (a__release : PySem.W.nsIn K mainGlobals "_release" = some (some (.ref f__release)))
    (l__release : K.lookup f__release = some ⟨oc__release, od__release, .func (PySem.W.fnOf "_release" "_release" (defArgs s__release) (defBody s__release) (defScope s__release) .none kV__release dc__release pm__release an__release cd__release ct__release), sl__release⟩) (c__release : PySem.W.codeIn K cd__release "_release" = true) (k__release : PySem.W.keepIn K (.ref f__release) = true)
    (a_cell : PySem.W.nsIn K mainGlobals "_law_cell" = some (some (.ref f_cell)))
    (l_cell : K.lookup f_cell = some ⟨oc_cell, od_cell, .func (PySem.W.fnOf "_law_cell" "_law_cell" (defArgs s_cell) (defBody s_cell) (defScope s_cell) .none kV_cell dc_cell pm_cell an_cell cd_cell ct_cell), sl_cell⟩) (c_cell : PySem.W.codeIn K cd_cell "_law_cell" = true) (k_cell : PySem.W.keepIn K (.ref f_cell) = true)
    (a_draw : PySem.W.nsIn K mainGlobals "_law_draw" = some (some (.ref f_draw)))
    (l_draw : K.lookup f_draw = some ⟨oc_draw, od_draw, .func (PySem.W.fnOf "_law_draw" "_law_draw" (defArgs s_draw) (defBody s_draw) (defScope s_draw) .none kV_draw dc_draw pm_draw an_draw cd_draw ct_draw), sl_draw⟩) (c_draw : PySem.W.codeIn K cd_draw "_law_draw" = true) (k_draw : PySem.W.keepIn K (.ref f_draw) = true)
    (a_same : PySem.W.nsIn K mainGlobals "_law_same" = some (some (.ref f_same)))
    (l_same : K.lookup f_same = some ⟨oc_same, od_same, .func (PySem.W.fnOf "_law_same" "_law_same" (defArgs s_same) (defBody s_same) (defScope s_same) .none kV_same dc_same pm_same an_same cd_same ct_same), sl_same⟩) (c_same : PySem.W.codeIn K cd_same "_law_same" = true) (k_same : PySem.W.keepIn K (.ref f_same) = true)
    (a_track : PySem.W.nsIn K mainGlobals "_law_track" = some (some (.ref f_track)))
    (l_track : K.lookup f_track = some ⟨oc_track, od_track, .func (PySem.W.fnOf "_law_track" "_law_track" (defArgs s_track) (defBody s_track) (defScope s_track) .none kV_track dc_track pm_track an_track cd_track ct_track), sl_track⟩) (c_track : PySem.W.codeIn K cd_track "_law_track" = true) (k_track : PySem.W.keepIn K (.ref f_track) = true)
    (a_way : PySem.W.nsIn K mainGlobals "_law_way" = some (some (.ref f_way)))
    (l_way : K.lookup f_way = some ⟨oc_way, od_way, .func (PySem.W.fnOf "_law_way" "_law_way" (defArgs s_way) (defBody s_way) (defScope s_way) .none kV_way dc_way pm_way an_way cd_way ct_way), sl_way⟩) (c_way : PySem.W.codeIn K cd_way "_law_way" = true) (k_way : PySem.W.keepIn K (.ref f_way) = true)
    (a_lreleases : PySem.W.nsIn K mainGlobals "_law_releases" = some (some (.ref f_lreleases)))
    (l_lreleases : K.lookup f_lreleases = some ⟨oc_lreleases, od_lreleases, .func (PySem.W.fnOf "_law_releases" "_law_releases" (defArgs s_lreleases) (defBody s_lreleases) (defScope s_lreleases) .none kV_lreleases dc_lreleases pm_lreleases an_lreleases cd_lreleases ct_lreleases), sl_lreleases⟩) (c_lreleases : PySem.W.codeIn K cd_lreleases "_law_releases" = true) (k_lreleases : PySem.W.keepIn K (.ref f_lreleases) = true)
    (a_layout : PySem.W.nsIn K mainGlobals "_law_layout" = some (some (.ref f_layout)))
    (l_layout : K.lookup f_layout = some ⟨oc_layout, od_layout, .func (PySem.W.fnOf "_law_layout" "_law_layout" (defArgs s_layout) (defBody s_layout) (defScope s_layout) .none kV_layout dc_layout pm_layout an_layout cd_layout ct_layout), sl_layout⟩) (c_layout : PySem.W.codeIn K cd_layout "_law_layout" = true) (k_layout : PySem.W.keepIn K (.ref f_layout) = true)
    (a_line : PySem.W.nsIn K mainGlobals "_law_line" = some (some (.ref f_line)))
    (l_line : K.lookup f_line = some ⟨oc_line, od_line, .func (PySem.W.fnOf "_law_line" "_law_line" (defArgs s_line) (defBody s_line) (defScope s_line) .none kV_line dc_line pm_line an_line cd_line ct_line), sl_line⟩) (c_line : PySem.W.codeIn K cd_line "_law_line" = true) (k_line : PySem.W.keepIn K (.ref f_line) = true)
    (a_way_error : PySem.W.nsIn K mainGlobals "_law_way_error" = some (some (.ref f_way_error)))
    (l_way_error : K.lookup f_way_error = some ⟨oc_way_error, od_way_error, .func (PySem.W.fnOf "_law_way_error" "_law_way_error" (defArgs s_way_error) (defBody s_way_error) (defScope s_way_error) .none kV_way_error dc_way_error pm_way_error an_way_error cd_way_error ct_way_error), sl_way_error⟩) (c_way_error : PySem.W.codeIn K cd_way_error "_law_way_error" = true) (k_way_error : PySem.W.keepIn K (.ref f_way_error) = true)
    (a_spoilt_way : PySem.W.nsIn K mainGlobals "_law_spoilt_way" = some (some (.ref f_spoilt_way)))
    (l_spoilt_way : K.lookup f_spoilt_way = some ⟨oc_spoilt_way, od_spoilt_way, .func (PySem.W.fnOf "_law_spoilt_way" "_law_spoilt_way" (defArgs s_spoilt_way) (defBody s_spoilt_way) (defScope s_spoilt_way) .none kV_spoilt_way dc_spoilt_way pm_spoilt_way an_spoilt_way cd_spoilt_way ct_spoilt_way), sl_spoilt_way⟩) (c_spoilt_way : PySem.W.codeIn K cd_spoilt_way "_law_spoilt_way" = true) (k_spoilt_way : PySem.W.keepIn K (.ref f_spoilt_way) = true)
    (a_size : PySem.W.nsIn K mainGlobals "_law_size" = some (some (.ref f_size)))
    (l_size : K.lookup f_size = some ⟨oc_size, od_size, .func (PySem.W.fnOf "_law_size" "_law_size" (defArgs s_size) (defBody s_size) (defScope s_size) .none kV_size dc_size pm_size an_size cd_size ct_size), sl_size⟩) (c_size : PySem.W.codeIn K cd_size "_law_size" = true) (k_size : PySem.W.keepIn K (.ref f_size) = true)
    (a_refused : PySem.W.nsIn K mainGlobals "_law_refused" = some (some (.ref f_refused)))
    (l_refused : K.lookup f_refused = some ⟨oc_refused, od_refused, .func (PySem.W.fnOf "_law_refused" "_law_refused" (defArgs s_refused) (defBody s_refused) (defScope s_refused) .none kV_refused dc_refused pm_refused an_refused cd_refused ct_refused), sl_refused⟩) (c_refused : PySem.W.codeIn K cd_refused "_law_refused" = true) (k_refused : PySem.W.keepIn K (.ref f_refused) = true)
    (a_told : PySem.W.nsIn K mainGlobals "_law_told" = some (some (.ref f_told)))
    (l_told : K.lookup f_told = some ⟨oc_told, od_told, .func (PySem.W.fnOf "_law_told" "_law_told" (defArgs s_told) (defBody s_told) (defScope s_told) .none kV_told dc_told pm_told an_told cd_told ct_told), sl_told⟩) (c_told : PySem.W.codeIn K cd_told "_law_told" = true) (k_told : PySem.W.keepIn K (.ref f_told) = true)
    (a_due : PySem.W.nsIn K mainGlobals "_law_due" = some (some (.ref f_due)))
    (l_due : K.lookup f_due = some ⟨oc_due, od_due, .func (PySem.W.fnOf "_law_due" "_law_due" (defArgs s_due) (defBody s_due) (defScope s_due) .none kV_due dc_due pm_due an_due cd_due ct_due), sl_due⟩) (c_due : PySem.W.codeIn K cd_due "_law_due" = true) (k_due : PySem.W.keepIn K (.ref f_due) = true)
    (a_asked : PySem.W.nsIn K mainGlobals "_law_asked" = some (some (.ref f_asked)))
    (l_asked : K.lookup f_asked = some ⟨oc_asked, od_asked, .func (PySem.W.fnOf "_law_asked" "_law_asked" (defArgs s_asked) (defBody s_asked) (defScope s_asked) .none kV_asked dc_asked pm_asked an_asked cd_asked ct_asked), sl_asked⟩) (c_asked : PySem.W.codeIn K cd_asked "_law_asked" = true) (k_asked : PySem.W.keepIn K (.ref f_asked) = true)
    (a_train_fits : PySem.W.nsIn K mainGlobals "_law_train_fits" = some (some (.ref f_train_fits)))
    (l_train_fits : K.lookup f_train_fits = some ⟨oc_train_fits, od_train_fits, .func (PySem.W.fnOf "_law_train_fits" "_law_train_fits" (defArgs s_train_fits) (defBody s_train_fits) (defScope s_train_fits) .none kV_train_fits dc_train_fits pm_train_fits an_train_fits cd_train_fits ct_train_fits), sl_train_fits⟩) (c_train_fits : PySem.W.codeIn K cd_train_fits "_law_train_fits" = true) (k_train_fits : PySem.W.keepIn K (.ref f_train_fits) = true)
    (a_world : PySem.W.nsIn K mainGlobals "_law_world" = some (some (.ref f_world)))
    (l_world : K.lookup f_world = some ⟨oc_world, od_world, .func (PySem.W.fnOf "_law_world" "_law_world" (defArgs s_world) (defBody s_world) (defScope s_world) .none kV_world dc_world pm_world an_world cd_world ct_world), sl_world⟩) (c_world : PySem.W.codeIn K cd_world "_law_world" = true) (k_world : PySem.W.keepIn K (.ref f_world) = true)
    (a_second : PySem.W.nsIn K mainGlobals "_law_second" = some (some (.ref f_second)))
    (l_second : K.lookup f_second = some ⟨oc_second, od_second, .func (PySem.W.fnOf "_law_second" "_law_second" (defArgs s_second) (defBody s_second) (defScope s_second) .none kV_second dc_second pm_second an_second cd_second ct_second), sl_second⟩) (c_second : PySem.W.codeIn K cd_second "_law_second" = true) (k_second : PySem.W.keepIn K (.ref f_second) = true)
    (a_refusals : PySem.W.nsIn K mainGlobals "_law_refusals" = some (some (.ref f_refusals)))
    (l_refusals : K.lookup f_refusals = some ⟨oc_refusals, od_refusals, .func (PySem.W.fnOf "_law_refusals" "_law_refusals" (defArgs s_refusals) (defBody s_refusals) (defScope s_refusals) .none kV_refusals dc_refusals pm_refusals an_refusals cd_refusals ct_refusals), sl_refusals⟩) (c_refusals : PySem.W.codeIn K cd_refusals "_law_refusals" = true) (k_refusals : PySem.W.keepIn K (.ref f_refusals) = true)
    (a_law : PySem.W.nsIn K mainGlobals "law" = some (some (.ref f_law)))
    (l_law : K.lookup f_law = some ⟨oc_law, od_law, .func (PySem.W.fnOf "law" "law" (defArgs s_law) (defBody s_law) (defScope s_law) .none kV_law dc_law pm_law an_law cd_law ct_law), sl_law⟩) (c_law : PySem.W.codeIn K cd_law "law" = true) (k_law : PySem.W.keepIn K (.ref f_law) = true)
    (a_Layout_init : PySem.W.findIn K (.ref C) "__init__" = some (some (.ref f_Layout_init))) (i_Layout_init : PySem.W.isFn K (.ref f_Layout_init) = true)
    (l_Layout_init : K.lookup f_Layout_init = some ⟨oc_Layout_init, od_Layout_init, .func (PySem.W.fnOf "__init__" "Layout.__init__" (defArgs s_Layout_init) (defBody s_Layout_init) (defScope s_Layout_init) .none kV_Layout_init dc_Layout_init pm_Layout_init an_Layout_init cd_Layout_init ct_Layout_init), sl_Layout_init⟩) (c_Layout_init : PySem.W.codeIn K cd_Layout_init "Layout.__init__" = true) (k_Layout_init : PySem.W.keepIn K (.ref f_Layout_init) = true)
    (a_Layoutadd_joint : PySem.W.findIn K (.ref C) "_add_joint" = some (some (.ref f_Layoutadd_joint))) (i_Layoutadd_joint : PySem.W.isFn K (.ref f_Layoutadd_joint) = true)
    (l_Layoutadd_joint : K.lookup f_Layoutadd_joint = some ⟨oc_Layoutadd_joint, od_Layoutadd_joint, .func (PySem.W.fnOf "_add_joint" "Layout._add_joint" (defArgs s_Layoutadd_joint) (defBody s_Layoutadd_joint) (defScope s_Layoutadd_joint) .none kV_Layoutadd_joint dc_Layoutadd_joint pm_Layoutadd_joint an_Layoutadd_joint cd_Layoutadd_joint ct_Layoutadd_joint), sl_Layoutadd_joint⟩) (c_Layoutadd_joint : PySem.W.codeIn K cd_Layoutadd_joint "Layout._add_joint" = true) (k_Layoutadd_joint : PySem.W.keepIn K (.ref f_Layoutadd_joint) = true)
    (a_Layout_contains : PySem.W.findIn K (.ref C) "__contains__" = some (some (.ref f_Layout_contains))) (i_Layout_contains : PySem.W.isFn K (.ref f_Layout_contains) = true)
    (l_Layout_contains : K.lookup f_Layout_contains = some ⟨oc_Layout_contains, od_Layout_contains, .func (PySem.W.fnOf "__contains__" "Layout.__contains__" (defArgs s_Layout_contains) (defBody s_Layout_contains) (defScope s_Layout_contains) .none kV_Layout_contains dc_Layout_contains pm_Layout_contains an_Layout_contains cd_Layout_contains ct_Layout_contains), sl_Layout_contains⟩) (c_Layout_contains : PySem.W.codeIn K cd_Layout_contains "Layout.__contains__" = true) (k_Layout_contains : PySem.W.keepIn K (.ref f_Layout_contains) = true)
    (a_Layout_length_of : PySem.W.findIn K (.ref C) "length_of" = some (some (.ref f_Layout_length_of))) (i_Layout_length_of : PySem.W.isFn K (.ref f_Layout_length_of) = true)
    (l_Layout_length_of : K.lookup f_Layout_length_of = some ⟨oc_Layout_length_of, od_Layout_length_of, .func (PySem.W.fnOf "length_of" "Layout.length_of" (defArgs s_Layout_length_of) (defBody s_Layout_length_of) (defScope s_Layout_length_of) .none kV_Layout_length_of dc_Layout_length_of pm_Layout_length_of an_Layout_length_of cd_Layout_length_of ct_Layout_length_of), sl_Layout_length_of⟩) (c_Layout_length_of : PySem.W.codeIn K cd_Layout_length_of "Layout.length_of" = true) (k_Layout_length_of : PySem.W.keepIn K (.ref f_Layout_length_of) = true)
    (a_Layout_east_of : PySem.W.findIn K (.ref C) "east_of" = some (some (.ref f_Layout_east_of))) (i_Layout_east_of : PySem.W.isFn K (.ref f_Layout_east_of) = true)
    (l_Layout_east_of : K.lookup f_Layout_east_of = some ⟨oc_Layout_east_of, od_Layout_east_of, .func (PySem.W.fnOf "east_of" "Layout.east_of" (defArgs s_Layout_east_of) (defBody s_Layout_east_of) (defScope s_Layout_east_of) .none kV_Layout_east_of dc_Layout_east_of pm_Layout_east_of an_Layout_east_of cd_Layout_east_of ct_Layout_east_of), sl_Layout_east_of⟩) (c_Layout_east_of : PySem.W.codeIn K cd_Layout_east_of "Layout.east_of" = true) (k_Layout_east_of : PySem.W.keepIn K (.ref f_Layout_east_of) = true)
    (a_Layout_west_of : PySem.W.findIn K (.ref C) "west_of" = some (some (.ref f_Layout_west_of))) (i_Layout_west_of : PySem.W.isFn K (.ref f_Layout_west_of) = true)
    (l_Layout_west_of : K.lookup f_Layout_west_of = some ⟨oc_Layout_west_of, od_Layout_west_of, .func (PySem.W.fnOf "west_of" "Layout.west_of" (defArgs s_Layout_west_of) (defBody s_Layout_west_of) (defScope s_Layout_west_of) .none kV_Layout_west_of dc_Layout_west_of pm_Layout_west_of an_Layout_west_of cd_Layout_west_of ct_Layout_west_of), sl_Layout_west_of⟩) (c_Layout_west_of : PySem.W.codeIn K cd_Layout_west_of "Layout.west_of" = true) (k_Layout_west_of : PySem.W.keepIn K (.ref f_Layout_west_of) = true)
    (a_Layout_branches : PySem.W.findIn K (.ref C) "branches" = some (some (.ref f_Layout_branches))) (i_Layout_branches : PySem.W.isFn K (.ref f_Layout_branches) = true)
    (l_Layout_branches : K.lookup f_Layout_branches = some ⟨oc_Layout_branches, od_Layout_branches, .func (PySem.W.fnOf "branches" "Layout.branches" (defArgs s_Layout_branches) (defBody s_Layout_branches) (defScope s_Layout_branches) .none kV_Layout_branches dc_Layout_branches pm_Layout_branches an_Layout_branches cd_Layout_branches ct_Layout_branches), sl_Layout_branches⟩) (c_Layout_branches : PySem.W.codeIn K cd_Layout_branches "Layout.branches" = true) (k_Layout_branches : PySem.W.keepIn K (.ref f_Layout_branches) = true)
    (a_Layout_joined : PySem.W.findIn K (.ref C) "joined" = some (some (.ref f_Layout_joined))) (i_Layout_joined : PySem.W.isFn K (.ref f_Layout_joined) = true)
    (l_Layout_joined : K.lookup f_Layout_joined = some ⟨oc_Layout_joined, od_Layout_joined, .func (PySem.W.fnOf "joined" "Layout.joined" (defArgs s_Layout_joined) (defBody s_Layout_joined) (defScope s_Layout_joined) .none kV_Layout_joined dc_Layout_joined pm_Layout_joined an_Layout_joined cd_Layout_joined ct_Layout_joined), sl_Layout_joined⟩) (c_Layout_joined : PySem.W.codeIn K cd_Layout_joined "Layout.joined" = true) (k_Layout_joined : PySem.W.keepIn K (.ref f_Layout_joined) = true)
    (aC_Train : PySem.W.nsIn K mainGlobals "Train" = some (some (.ref CT)))
    (a_Train_init : PySem.W.findIn K (.ref CT) "__init__" = some (some (.ref f_Train_init))) (i_Train_init : PySem.W.isFn K (.ref f_Train_init) = true)
    (l_Train_init : K.lookup f_Train_init = some ⟨oc_Train_init, od_Train_init, .func (PySem.W.fnOf "__init__" "Train.__init__" (defArgs s_Train_init) (defBody s_Train_init) (defScope s_Train_init) .none (.ref aD_Train_init) dc_Train_init pm_Train_init an_Train_init cd_Train_init ct_Train_init), sl_Train_init⟩) (c_Train_init : PySem.W.codeIn K cd_Train_init "Train.__init__" = true) (k_Train_init : PySem.W.keepIn K (.ref f_Train_init) = true)
    (a_Train_blocks : PySem.W.findIn K (.ref CT) "blocks" = some (some (.ref f_Train_blocks))) (i_Train_blocks : PySem.W.isFn K (.ref f_Train_blocks) = true)
    (l_Train_blocks : K.lookup f_Train_blocks = some ⟨oc_Train_blocks, od_Train_blocks, .func (PySem.W.fnOf "blocks" "Train.blocks" (defArgs s_Train_blocks) (defBody s_Train_blocks) (defScope s_Train_blocks) .none kV_Train_blocks dc_Train_blocks pm_Train_blocks an_Train_blocks cd_Train_blocks ct_Train_blocks), sl_Train_blocks⟩) (c_Train_blocks : PySem.W.codeIn K cd_Train_blocks "Train.blocks" = true) (k_Train_blocks : PySem.W.keepIn K (.ref f_Train_blocks) = true)
    (a_Train_step_of : PySem.W.findIn K (.ref CT) "step_of" = some (some (.ref f_Train_step_of))) (i_Train_step_of : PySem.W.isFn K (.ref f_Train_step_of) = true)
    (l_Train_step_of : K.lookup f_Train_step_of = some ⟨oc_Train_step_of, od_Train_step_of, .func (PySem.W.fnOf "step_of" "Train.step_of" (defArgs s_Train_step_of) (defBody s_Train_step_of) (defScope s_Train_step_of) .none kV_Train_step_of dc_Train_step_of pm_Train_step_of an_Train_step_of cd_Train_step_of ct_Train_step_of), sl_Train_step_of⟩) (c_Train_step_of : PySem.W.codeIn K cd_Train_step_of "Train.step_of" = true) (k_Train_step_of : PySem.W.keepIn K (.ref f_Train_step_of) = true)
    (g_RailError : PySem.W.nsIn K mainGlobals "RailError" = some (some (.ref A_RailError)))
    (g_NoBlock : PySem.W.nsIn K mainGlobals "NoBlock" = some (some (.ref CN)))
    (g_BadWay : PySem.W.nsIn K mainGlobals "BadWay" = some (some (.ref A_BadWay)))
    (g_BadLength : PySem.W.nsIn K mainGlobals "BadLength" = some (some (.ref A_BadLength)))
    (x_NoBlock : K.lookup CN = some (excClassObj nm_NoBlock q_NoBlock CN N_NoBlock bs_NoBlock (.ref A_RailError :: [.type "ValueError", .type "Exception", .type "BaseException", .type "object"]) true sn_NoBlock sub_NoBlock ab_NoBlock col_NoBlock dd_NoBlock m0_NoBlock m1_NoBlock m2_NoBlock m3_NoBlock m5_NoBlock "ValueError.__new__"))
    (sa_NoBlock : PySem.W.findIn K (.ref CN) "__setattr__" = some (some (.builtin "object.__setattr__"))) (ga_NoBlock : PySem.W.findIn K (.ref CN) "__getattribute__" = some (some (.builtin "BaseException.__getattribute__"))) (gg_NoBlock : PySem.W.findIn K (.ref CN) "__getattr__" = some none)
    (eC_NoBlock : PySem.W.subIn K (.ref CN) (.type "BaseException") = some true) (tC_NoBlock : PySem.W.typeIn K (.ref CN) = some (.type "type")) (kC_NoBlock : PySem.W.keepIn K (.ref CN) = true) (hC_NoBlock : PySem.W.hasDictIn K CN = true) (iC_NoBlock : PySem.W.isClsIn K CN = true) (sC_NoBlock : PySem.W.subIn K (.ref CN) (.ref CN) = some true)
    (ca_NoBlock : PySem.W.findIn K (.ref CN) "__class__" = some (some (.builtin "object.__class__"))) (cm_NoBlock : PySem.W.mroIn K CN (.type "object") = some true)
    (no_NoBlock_block : PySem.W.findIn K (.ref CN) "block" = some none)
    (a_NoBlock_init : PySem.W.findIn K (.ref CN) "__init__" = some (some (.ref f_NoBlock_init))) (t_NoBlock_init : PySem.W.typeIn K (.ref f_NoBlock_init) = some (.type "function"))
    (l_NoBlock_init : K.lookup f_NoBlock_init = some ⟨oc_NoBlock_init, od_NoBlock_init, .func (PySem.W.fnOf "__init__" "NoBlock.__init__" (defArgs s_NoBlock_init) (defBody s_NoBlock_init) (defScope s_NoBlock_init) .none kV_NoBlock_init dc_NoBlock_init pm_NoBlock_init an_NoBlock_init cd_NoBlock_init ct_NoBlock_init), sl_NoBlock_init⟩) (c_NoBlock_init : PySem.W.codeIn K cd_NoBlock_init "NoBlock.__init__" = true) (k_NoBlock_init : PySem.W.keepIn K (.ref f_NoBlock_init) = true)
    (k_NoBlock_RailError : PySem.W.kitOne K (.ref CN) (.ref A_RailError) = some true)
    (k_NoBlock_ValueError : PySem.W.kitOne K (.ref CN) (.type "ValueError") = some true)
    (k_NoBlock_BadWay : PySem.W.kitOne K (.ref CN) (.ref A_BadWay) = some false)
    (k_NoBlock_BadLength : PySem.W.kitOne K (.ref CN) (.ref A_BadLength) = some false)
    (x_BadWay : K.lookup A_BadWay = some (excClassObj nm_BadWay q_BadWay A_BadWay N_BadWay bs_BadWay (.ref A_RailError :: [.type "ValueError", .type "Exception", .type "BaseException", .type "object"]) true sn_BadWay sub_BadWay ab_BadWay col_BadWay dd_BadWay m0_BadWay m1_BadWay m2_BadWay m3_BadWay m5_BadWay "ValueError.__new__"))
    (sa_BadWay : PySem.W.findIn K (.ref A_BadWay) "__setattr__" = some (some (.builtin "object.__setattr__"))) (ga_BadWay : PySem.W.findIn K (.ref A_BadWay) "__getattribute__" = some (some (.builtin "BaseException.__getattribute__"))) (gg_BadWay : PySem.W.findIn K (.ref A_BadWay) "__getattr__" = some none)
    (eC_BadWay : PySem.W.subIn K (.ref A_BadWay) (.type "BaseException") = some true) (tC_BadWay : PySem.W.typeIn K (.ref A_BadWay) = some (.type "type")) (kC_BadWay : PySem.W.keepIn K (.ref A_BadWay) = true) (hC_BadWay : PySem.W.hasDictIn K A_BadWay = true) (iC_BadWay : PySem.W.isClsIn K A_BadWay = true) (sC_BadWay : PySem.W.subIn K (.ref A_BadWay) (.ref A_BadWay) = some true)
    (ca_BadWay : PySem.W.findIn K (.ref A_BadWay) "__class__" = some (some (.builtin "object.__class__"))) (cm_BadWay : PySem.W.mroIn K A_BadWay (.type "object") = some true)
    (no_BadWay_at : PySem.W.findIn K (.ref A_BadWay) "at" = some none)
    (a_BadWay_init : PySem.W.findIn K (.ref A_BadWay) "__init__" = some (some (.ref f_BadWay_init))) (t_BadWay_init : PySem.W.typeIn K (.ref f_BadWay_init) = some (.type "function"))
    (l_BadWay_init : K.lookup f_BadWay_init = some ⟨oc_BadWay_init, od_BadWay_init, .func (PySem.W.fnOf "__init__" "BadWay.__init__" (defArgs s_BadWay_init) (defBody s_BadWay_init) (defScope s_BadWay_init) .none kV_BadWay_init dc_BadWay_init pm_BadWay_init an_BadWay_init cd_BadWay_init ct_BadWay_init), sl_BadWay_init⟩) (c_BadWay_init : PySem.W.codeIn K cd_BadWay_init "BadWay.__init__" = true) (k_BadWay_init : PySem.W.keepIn K (.ref f_BadWay_init) = true)
    (k_BadWay_RailError : PySem.W.kitOne K (.ref A_BadWay) (.ref A_RailError) = some true)
    (k_BadWay_ValueError : PySem.W.kitOne K (.ref A_BadWay) (.type "ValueError") = some true)
    (k_BadWay_BadLength : PySem.W.kitOne K (.ref A_BadWay) (.ref A_BadLength) = some false)
    (k_BadWay_NoBlock : PySem.W.kitOne K (.ref A_BadWay) (.ref CN) = some false)
    (x_BadWay_NoBlock : PySem.W.subIn K (.ref A_BadWay) (.ref CN) = some false)
    (x_BadLength : K.lookup A_BadLength = some (excClassObj nm_BadLength q_BadLength A_BadLength N_BadLength bs_BadLength (.ref A_RailError :: [.type "ValueError", .type "Exception", .type "BaseException", .type "object"]) true sn_BadLength sub_BadLength ab_BadLength col_BadLength dd_BadLength m0_BadLength m1_BadLength m2_BadLength m3_BadLength m5_BadLength "ValueError.__new__"))
    (sa_BadLength : PySem.W.findIn K (.ref A_BadLength) "__setattr__" = some (some (.builtin "object.__setattr__"))) (ga_BadLength : PySem.W.findIn K (.ref A_BadLength) "__getattribute__" = some (some (.builtin "BaseException.__getattribute__"))) (gg_BadLength : PySem.W.findIn K (.ref A_BadLength) "__getattr__" = some none)
    (eC_BadLength : PySem.W.subIn K (.ref A_BadLength) (.type "BaseException") = some true) (tC_BadLength : PySem.W.typeIn K (.ref A_BadLength) = some (.type "type")) (kC_BadLength : PySem.W.keepIn K (.ref A_BadLength) = true) (hC_BadLength : PySem.W.hasDictIn K A_BadLength = true) (iC_BadLength : PySem.W.isClsIn K A_BadLength = true) (sC_BadLength : PySem.W.subIn K (.ref A_BadLength) (.ref A_BadLength) = some true)
    (ca_BadLength : PySem.W.findIn K (.ref A_BadLength) "__class__" = some (some (.builtin "object.__class__"))) (cm_BadLength : PySem.W.mroIn K A_BadLength (.type "object") = some true)
    (no_BadLength_length : PySem.W.findIn K (.ref A_BadLength) "length" = some none)
    (a_BadLength_init : PySem.W.findIn K (.ref A_BadLength) "__init__" = some (some (.ref f_BadLength_init))) (t_BadLength_init : PySem.W.typeIn K (.ref f_BadLength_init) = some (.type "function"))
    (l_BadLength_init : K.lookup f_BadLength_init = some ⟨oc_BadLength_init, od_BadLength_init, .func (PySem.W.fnOf "__init__" "BadLength.__init__" (defArgs s_BadLength_init) (defBody s_BadLength_init) (defScope s_BadLength_init) .none kV_BadLength_init dc_BadLength_init pm_BadLength_init an_BadLength_init cd_BadLength_init ct_BadLength_init), sl_BadLength_init⟩) (c_BadLength_init : PySem.W.codeIn K cd_BadLength_init "BadLength.__init__" = true) (k_BadLength_init : PySem.W.keepIn K (.ref f_BadLength_init) = true)
    (k_BadLength_RailError : PySem.W.kitOne K (.ref A_BadLength) (.ref A_RailError) = some true)
    (k_BadLength_ValueError : PySem.W.kitOne K (.ref A_BadLength) (.type "ValueError") = some true)
    (k_BadLength_NoBlock : PySem.W.kitOne K (.ref A_BadLength) (.ref CN) = some false)
    (x_BadLength_BadWay : PySem.W.subIn K (.ref A_BadLength) (.ref A_BadWay) = some false)
    (oc_n : PySem.W.specialIn K (.builtin "object.__class__") "__get__" = some (some (.builtin "getset_descriptor.__get__"))) (oc_t : PySem.W.takesIn K (.builtin "object.__class__") = some true)
    (pg_Train : PySem.W.plainGet K CT Str.empty = true) (hd_Train : PySem.W.hasDictIn K CT = true) (po_Train : PySem.W.plainOver K CT = true) (sa_Train : PySem.W.findIn K (.ref CT) "__setattr__" = some (some (.builtin "object.__setattr__"))) (mk_Train : PySem.W.makesIn K CT = true) (kc_Train : PySem.W.keepIn K (.ref CT) = true)
    (n_Train_way : PySem.W.findIn K (.ref CT) "_way" = some none)
    (n_Train_at_ : PySem.W.findIn K (.ref CT) "_step_at" = some none)
    (n_Train_length : PySem.W.findIn K (.ref CT) "length" = some none)
    (n_Train_steps : PySem.W.findIn K (.ref CT) "steps" = some none)
    (n_Train_last : PySem.W.findIn K (.ref CT) "last" = some none)
    (pg : PySem.W.plainGet K C Str.empty = true) (hd : PySem.W.hasDictIn K C = true) (po : PySem.W.plainOver K C = true) (sa : PySem.W.findIn K (.ref C) "__setattr__" = some (some (.builtin "object.__setattr__"))) (mk : PySem.W.makesIn K C = true) (kc : PySem.W.keepIn K (.ref C) = true)
    (n_size : PySem.W.findIn K (.ref C) "size" = some none)
    (n_lens : PySem.W.findIn K (.ref C) "_lengths" = some none)
    (n_marks : PySem.W.findIn K (.ref C) "_yard_marks" = some none)
    (n_east : PySem.W.findIn K (.ref C) "_east" = some none)
    (n_west : PySem.W.findIn K (.ref C) "_west" = some none)
    (dK_Train_init : PySem.W.nsIn K aD_Train_init "length" = some (some (.int 1 tk_Train_init)))
    (z_len : PySem.W.nsIn K mainGlobals "len" = some none)
    (z_abs : PySem.W.nsIn K mainGlobals "abs" = some none)
    (z_min : PySem.W.nsIn K mainGlobals "min" = some none)
    (z_range : PySem.W.nsIn K mainGlobals "range" = some none)
    (z_int : PySem.W.nsIn K mainGlobals "int" = some none)
    (z_str : PySem.W.nsIn K mainGlobals "str" = some none)
    (z_bool : PySem.W.nsIn K mainGlobals "bool" = some none)
    (z_list : PySem.W.nsIn K mainGlobals "list" = some none)
    (z_tuple : PySem.W.nsIn K mainGlobals "tuple" = some none)
    (z_sorted : PySem.W.nsIn K mainGlobals "sorted" = some none)
    (z_isinstance : PySem.W.nsIn K mainGlobals "isinstance" = some none)
    (z_max : PySem.W.nsIn K mainGlobals "max" = some none)
    (z_sum : PySem.W.nsIn K mainGlobals "sum" = some none)
    (z_reversed : PySem.W.nsIn K mainGlobals "reversed" = some none)
    (z_ValueError : PySem.W.nsIn K mainGlobals "ValueError" = some none) :
    ∃ fd : FuncData, (∀ (s : Shared) (v : Value), BindsTo s fd ⟨[v], []⟩ [("_law_script", v)]) ∧ ∀ base : Heap, K.In base → base.Ns mainGlobals mg → FnOk l.prog w K mg base CX0 12 fa fd ["_law_script"] (spLaw K) := by
  have e := hfa.symm.trans (PySem.W.mg_of X G a_law)
  cases e
  have T : Cl K C := ⟨⟨pg, hd, po, sa⟩, n_size, n_lens, n_marks, n_east, n_west⟩
  have B : Blt mg := ⟨PySem.W.mg_none_of X G z_len, PySem.W.mg_none_of X G z_abs, PySem.W.mg_none_of X G z_min, PySem.W.mg_none_of X G z_range, PySem.W.mg_none_of X G z_int, PySem.W.mg_none_of X G z_str, PySem.W.mg_none_of X G z_bool, PySem.W.mg_none_of X G z_list, PySem.W.mg_none_of X G z_tuple, PySem.W.mg_none_of X G z_sorted, PySem.W.mg_none_of X G z_isinstance⟩
  have F_check_block := fun_mk (st := s_check_block) l_check_block c_check_block k_check_block
  have F_check_blocks := fun_mk (st := s_check_blocks) l_check_blocks c_check_blocks k_check_blocks
  have F_heading := fun_mk (st := s_heading) l_heading c_heading k_heading
  have F_first_break := fun_mk (st := s_first_break) l_first_break c_first_break k_first_break
  have F_releases := fun_mk (st := s_releases) l_releases c_releases k_releases
  have F__release := fun_mk (st := s__release) l__release c__release k__release
  have F_cell := fun_mk (st := s_cell) l_cell c_cell k_cell
  have F_draw := fun_mk (st := s_draw) l_draw c_draw k_draw
  have F_same := fun_mk (st := s_same) l_same c_same k_same
  have F_track := fun_mk (st := s_track) l_track c_track k_track
  have F_way := fun_mk (st := s_way) l_way c_way k_way
  have F_lreleases := fun_mk (st := s_lreleases) l_lreleases c_lreleases k_lreleases
  have F_layout := fun_mk (st := s_layout) l_layout c_layout k_layout
  have F_line := fun_mk (st := s_line) l_line c_line k_line
  have F_way_error := fun_mk (st := s_way_error) l_way_error c_way_error k_way_error
  have F_spoilt_way := fun_mk (st := s_spoilt_way) l_spoilt_way c_spoilt_way k_spoilt_way
  have F_size := fun_mk (st := s_size) l_size c_size k_size
  have F_refused := fun_mk (st := s_refused) l_refused c_refused k_refused
  have F_told := fun_mk (st := s_told) l_told c_told k_told
  have F_due := fun_mk (st := s_due) l_due c_due k_due
  have F_asked := fun_mk (st := s_asked) l_asked c_asked k_asked
  have F_train_fits := fun_mk (st := s_train_fits) l_train_fits c_train_fits k_train_fits
  have F_world := fun_mk (st := s_world) l_world c_world k_world
  have F_second := fun_mk (st := s_second) l_second c_second k_second
  have F_refusals := fun_mk (st := s_refusals) l_refusals c_refusals k_refusals
  have F_law := fun_mk (st := s_law) l_law c_law k_law
  have F_Layout_init := fun_mk (st := s_Layout_init) l_Layout_init c_Layout_init k_Layout_init
  have F_Layoutadd_joint := fun_mk (st := s_Layoutadd_joint) l_Layoutadd_joint c_Layoutadd_joint k_Layoutadd_joint
  have F_Layout_contains := fun_mk (st := s_Layout_contains) l_Layout_contains c_Layout_contains k_Layout_contains
  have F_Layout_length_of := fun_mk (st := s_Layout_length_of) l_Layout_length_of c_Layout_length_of k_Layout_length_of
  have F_Layout_east_of := fun_mk (st := s_Layout_east_of) l_Layout_east_of c_Layout_east_of k_Layout_east_of
  have F_Layout_west_of := fun_mk (st := s_Layout_west_of) l_Layout_west_of c_Layout_west_of k_Layout_west_of
  have F_Layout_branches := fun_mk (st := s_Layout_branches) l_Layout_branches c_Layout_branches k_Layout_branches
  have F_Layout_joined := fun_mk (st := s_Layout_joined) l_Layout_joined c_Layout_joined k_Layout_joined
  have F_Train_init := fun_mk (st := s_Train_init) l_Train_init c_Train_init k_Train_init
  have F_Train_blocks := fun_mk (st := s_Train_blocks) l_Train_blocks c_Train_blocks k_Train_blocks
  have F_Train_step_of := fun_mk (st := s_Train_step_of) l_Train_step_of c_Train_step_of k_Train_step_of
  have F_NoBlock_init := fun_mk (st := s_NoBlock_init) l_NoBlock_init c_NoBlock_init k_NoBlock_init
  have F_BadWay_init := fun_mk (st := s_BadWay_init) l_BadWay_init c_BadWay_init k_BadWay_init
  have F_BadLength_init := fun_mk (st := s_BadLength_init) l_BadLength_init c_BadLength_init k_BadLength_init
  have b_check_block := F_check_block.binds (ps := ["layout", "block"]) fun _ _ _ _ _ _ us hl => match us, hl with | [_, _], _ => rfl
  have b_check_blocks := F_check_blocks.binds (ps := ["layout", "blocks"]) fun _ _ _ _ _ _ us hl => match us, hl with | [_, _], _ => rfl
  have b_heading := F_heading.binds (ps := ["layout", "way"]) fun _ _ _ _ _ _ us hl => match us, hl with | [_, _], _ => rfl
  have b_first_break := F_first_break.binds (ps := ["layout", "blocks", "side"]) fun _ _ _ _ _ _ us hl => match us, hl with | [_, _, _], _ => rfl
  have b_releases := F_releases.binds (ps := ["layout", "train"]) fun _ _ _ _ _ _ us hl => match us, hl with | [_, _], _ => rfl
  have b__release := F__release.binds (ps := ["layout", "train", "way", "step"]) fun _ _ _ _ _ _ us hl => match us, hl with | [_, _, _, _], _ => rfl
  have b_cell := F_cell.binds (ps := ["_law_script", "_law_k"]) fun _ _ _ _ _ _ us hl => match us, hl with | [_, _], _ => rfl
  have b_draw := F_draw.binds (ps := ["_law_cell_here", "_law_k", "_law_size_here"]) fun _ _ _ _ _ _ us hl => match us, hl with | [_, _, _], _ => rfl
  have b_same := F_same.binds (ps := ["_law_actual", "_law_wanted"]) fun _ _ _ _ _ _ us hl => match us, hl with | [_, _], _ => rfl
  have b_track := F_track.binds (ps := ["_law_cell_here", "_law_most"]) fun _ _ _ _ _ _ us hl => match us, hl with | [_, _], _ => rfl
  have b_way := F_way.binds (ps := ["_law_track_here", "_law_cell_here"]) fun _ _ _ _ _ _ us hl => match us, hl with | [_, _], _ => rfl
  have b_lreleases := F_lreleases.binds (ps := ["_law_lengths", "_law_way_here", "_law_size_here"]) fun _ _ _ _ _ _ us hl => match us, hl with | [_, _, _], _ => rfl
  have b_layout := F_layout.binds (ps := ["_law_track_here"]) fun _ _ _ _ _ _ us hl => match us, hl with | [_], _ => rfl
  have b_line := F_line.binds (ps := ["_law_cell_here"]) fun _ _ _ _ _ _ us hl => match us, hl with | [_], _ => rfl
  have b_way_error := F_way_error.binds (ps := ["_law_track_here", "_law_way_here"]) fun _ _ _ _ _ _ us hl => match us, hl with | [_, _], _ => rfl
  have b_spoilt_way := F_spoilt_way.binds (ps := ["_law_track_here", "_law_way_here", "_law_cell_here"]) fun _ _ _ _ _ _ us hl => match us, hl with | [_, _, _], _ => rfl
  have b_size := F_size.binds (ps := ["_law_track_here", "_law_way_here", "_law_cell_here", "_law_factor"]) fun _ _ _ _ _ _ us hl => match us, hl with | [_, _, _, _], _ => rfl
  have b_refused := F_refused.binds (ps := ["_law_way_here", "_law_size_here"]) fun _ _ _ _ _ _ us hl => match us, hl with | [_, _], _ => rfl
  have b_told := F_told.binds (ps := ["_law_layout_here", "_law_train"]) fun _ _ _ _ _ _ us hl => match us, hl with | [_, _], _ => rfl
  have b_due := F_due.binds (ps := ["_law_track_here", "_law_way_here", "_law_size_here"]) fun _ _ _ _ _ _ us hl => match us, hl with | [_, _, _], _ => rfl
  have b_asked := F_asked.binds (ps := ["_law_layout_here", "_law_track_here", "_law_train", "_law_way_here", "_law_size_here"]) fun _ _ _ _ _ _ us hl => match us, hl with | [_, _, _, _, _], _ => rfl
  have b_train_fits := F_train_fits.binds (ps := ["_law_track_here", "_law_train", "_law_way_here", "_law_size_here"]) fun _ _ _ _ _ _ us hl => match us, hl with | [_, _, _, _], _ => rfl
  have b_world := F_world.binds (ps := ["_law_script"]) fun _ _ _ _ _ _ us hl => match us, hl with | [_], _ => rfl
  have b_second := F_second.binds (ps := ["_law_script", "_law_track_here", "_law_factor"]) fun _ _ _ _ _ _ us hl => match us, hl with | [_, _, _], _ => rfl
  have b_refusals := F_refusals.binds (ps := ["_law_way_here", "_law_size_here", "_law_low"]) fun _ _ _ _ _ _ us hl => match us, hl with | [_, _, _], _ => rfl
  have b_Layoutadd_joint := F_Layoutadd_joint.binds (ps := ["self", "west", "east"]) fun _ _ _ _ _ _ us hl => match us, hl with | [_, _, _], _ => rfl
  have b_Layout_contains := F_Layout_contains.binds (ps := ["self", "block"]) fun _ _ _ _ _ _ us hl => match us, hl with | [_, _], _ => rfl
  have b_Layout_length_of := F_Layout_length_of.binds (ps := ["self", "block"]) fun _ _ _ _ _ _ us hl => match us, hl with | [_, _], _ => rfl
  have b_Layout_east_of := F_Layout_east_of.binds (ps := ["self", "block"]) fun _ _ _ _ _ _ us hl => match us, hl with | [_, _], _ => rfl
  have b_Layout_west_of := F_Layout_west_of.binds (ps := ["self", "block"]) fun _ _ _ _ _ _ us hl => match us, hl with | [_, _], _ => rfl
  have b_Layout_branches := F_Layout_branches.binds (ps := ["self", "block", "side"]) fun _ _ _ _ _ _ us hl => match us, hl with | [_, _, _], _ => rfl
  have b_Layout_joined := F_Layout_joined.binds (ps := ["self", "west", "east"]) fun _ _ _ _ _ _ us hl => match us, hl with | [_, _, _], _ => rfl
  have b_Train_blocks := F_Train_blocks.binds (ps := ["self"]) fun _ _ _ _ _ _ us hl => match us, hl with | [_], _ => rfl
  have b_Train_step_of := F_Train_step_of.binds (ps := ["self", "block"]) fun _ _ _ _ _ _ us hl => match us, hl with | [_, _], _ => rfl
  have b_NoBlock_init := F_NoBlock_init.binds (ps := ["self", "block"]) fun _ _ _ _ _ _ us hl => match us, hl with | [_, _], _ => rfl
  have b_BadWay_init := F_BadWay_init.binds (ps := ["self", "at"]) fun _ _ _ _ _ _ us hl => match us, hl with | [_, _], _ => rfl
  have b_BadLength_init := F_BadLength_init.binds (ps := ["self", "length"]) fun _ _ _ _ _ _ us hl => match us, hl with | [_, _], _ => rfl
  have bI : KBn K _ ["self", "lengths", "joints", "yards"] 3 ["yards"] ggI (fun vs zs => vs ++ zs) := ⟨fun s us ws _ l1 l2 => match us, ws, l1, l2 with | [_, _, _], [_], _, _ => .of_eq (fd := PySem.W.fnOf "__init__" "Layout.__init__" (defArgs s_Layout_init) (defBody s_Layout_init) (defScope s_Layout_init) .none kV_Layout_init dc_Layout_init pm_Layout_init an_Layout_init cd_Layout_init ct_Layout_init) rfl, fun r1 r2 => r1.append r2⟩
  refine ⟨PySem.W.fnOf "law" "law" (defArgs s_law) (defBody s_law) (defScope s_law) .none kV_law dc_law pm_law an_law cd_law ct_law, fun s v => .of_eq rfl, fun base _ _ => ?_⟩
  have X_NoBlock : XfC K CN := ⟨ga_NoBlock, gg_NoBlock, eC_NoBlock, hC_NoBlock⟩
  have O_NoBlock : OexC K CN := ⟨⟨_, _, _, _, _, _, _, _, _, _, _, _, _, _, _, x_NoBlock, rfl⟩, sa_NoBlock, eC_NoBlock, tC_NoBlock, kC_NoBlock⟩
  have E_NoBlock : Err l.prog w K mg base "NoBlock" CN f_NoBlock_init _ _ _ := ⟨O_NoBlock, X_NoBlock, a_NoBlock_init, t_NoBlock_init, ok_nb O_NoBlock no_NoBlock_block F_NoBlock_init, b_NoBlock_init, PySem.W.mg_of X G g_NoBlock⟩
  have V_NoBlock : ExcC K CN := ⟨ga_NoBlock, gg_NoBlock, eC_NoBlock, hC_NoBlock, ca_NoBlock, oc_n, oc_t, cm_NoBlock⟩
  have Z_NoBlock : ErrK K mg "NoBlock" CN := ⟨X_NoBlock, V_NoBlock, PySem.W.mg_of X G g_NoBlock, exm_sub eC_NoBlock iC_NoBlock tC_NoBlock sC_NoBlock⟩
  have X_BadWay : XfC K A_BadWay := ⟨ga_BadWay, gg_BadWay, eC_BadWay, hC_BadWay⟩
  have O_BadWay : OexC K A_BadWay := ⟨⟨_, _, _, _, _, _, _, _, _, _, _, _, _, _, _, x_BadWay, rfl⟩, sa_BadWay, eC_BadWay, tC_BadWay, kC_BadWay⟩
  have E_BadWay : Err l.prog w K mg base "BadWay" A_BadWay f_BadWay_init _ _ _ := ⟨O_BadWay, X_BadWay, a_BadWay_init, t_BadWay_init, ok_bw O_BadWay no_BadWay_at F_BadWay_init, b_BadWay_init, PySem.W.mg_of X G g_BadWay⟩
  have V_BadWay : ExcC K A_BadWay := ⟨ga_BadWay, gg_BadWay, eC_BadWay, hC_BadWay, ca_BadWay, oc_n, oc_t, cm_BadWay⟩
  have Z_BadWay : ErrK K mg "BadWay" A_BadWay := ⟨X_BadWay, V_BadWay, PySem.W.mg_of X G g_BadWay, exm_sub eC_BadWay iC_BadWay tC_BadWay sC_BadWay⟩
  have X_BadLength : XfC K A_BadLength := ⟨ga_BadLength, gg_BadLength, eC_BadLength, hC_BadLength⟩
  have O_BadLength : OexC K A_BadLength := ⟨⟨_, _, _, _, _, _, _, _, _, _, _, _, _, _, _, x_BadLength, rfl⟩, sa_BadLength, eC_BadLength, tC_BadLength, kC_BadLength⟩
  have E_BadLength : Err l.prog w K mg base "BadLength" A_BadLength f_BadLength_init _ _ _ := ⟨O_BadLength, X_BadLength, a_BadLength_init, t_BadLength_init, ok_bl O_BadLength no_BadLength_length F_BadLength_init, b_BadLength_init, PySem.W.mg_of X G g_BadLength⟩
  have V_BadLength : ExcC K A_BadLength := ⟨ga_BadLength, gg_BadLength, eC_BadLength, hC_BadLength, ca_BadLength, oc_n, oc_t, cm_BadLength⟩
  have Z_BadLength : ErrK K mg "BadLength" A_BadLength := ⟨X_BadLength, V_BadLength, PySem.W.mg_of X G g_BadLength, exm_sub eC_BadLength iC_BadLength tC_BadLength sC_BadLength⟩
  have C_Layout_contains : CalM l.prog w K mg base C "__contains__" _ _ _ := ⟨f_Layout_contains, _, ok_contains T F_Layout_contains, ⟨a_Layout_contains, i_Layout_contains, k_Layout_contains⟩, b_Layout_contains⟩
  have C_check_block : CalX l.prog w K mg base "check_block" _ _ _ := ⟨f_check_block, _, ok_check_block E_NoBlock F_check_block C_Layout_contains, PySem.W.mg_of X G a_check_block, k_check_block, b_check_block⟩
  have C_check_blocks : Cal l.prog w K mg base "check_blocks" _ _ _ := ⟨f_check_blocks, _, ok_check_blocks F_check_blocks C_check_block, PySem.W.mg_of X G a_check_blocks, k_check_blocks, b_check_blocks⟩
  have C_checksX : CalX l.prog w K mg base "check_blocks" _ _ _ := ⟨f_check_blocks, _, ok_checksX F_check_blocks C_check_block, PySem.W.mg_of X G a_check_blocks, k_check_blocks, b_check_blocks⟩
  have C_Layout_length_of : CalMX l.prog w K mg base C "length_of" _ _ _ := ⟨f_Layout_length_of, _, ok_length_of T F_Layout_length_of C_check_block, ⟨a_Layout_length_of, i_Layout_length_of, k_Layout_length_of⟩, b_Layout_length_of⟩
  have C_Layout_east_of : CalMX l.prog w K mg base C "east_of" _ _ _ := ⟨f_Layout_east_of, _, ok_east_of T B F_Layout_east_of C_check_block, ⟨a_Layout_east_of, i_Layout_east_of, k_Layout_east_of⟩, b_Layout_east_of⟩
  have C_Layout_west_of : CalMX l.prog w K mg base C "west_of" _ _ _ := ⟨f_Layout_west_of, _, ok_west_of T B F_Layout_west_of C_check_block, ⟨a_Layout_west_of, i_Layout_west_of, k_Layout_west_of⟩, b_Layout_west_of⟩
  have C_Layout_branches : CalMX l.prog w K mg base C "branches" _ _ _ := ⟨f_Layout_branches, _, ok_branches T C_Layout_east_of C_Layout_west_of F_Layout_branches, ⟨a_Layout_branches, i_Layout_branches, k_Layout_branches⟩, b_Layout_branches⟩
  have C_Layout_joined : CalMX l.prog w K mg base C "joined" _ _ _ := ⟨f_Layout_joined, _, ok_joined T F_Layout_joined C_check_block, ⟨a_Layout_joined, i_Layout_joined, k_Layout_joined⟩, b_Layout_joined⟩
  have C_Layoutadd_joint : CalM l.prog w K mg base C "_add_joint" _ _ _ := ⟨f_Layoutadd_joint, _, ok_add T B F_Layoutadd_joint C_check_block, ⟨a_Layoutadd_joint, i_Layoutadd_joint, k_Layoutadd_joint⟩, b_Layoutadd_joint⟩
  have G_init := ok_init (P := l.prog) (w := w) (base := base) T B F_Layout_init C_check_blocks C_Layoutadd_joint
  have C_first_break : Cal l.prog w K mg base "first_break" _ _ _ := ⟨f_first_break, _, ok_first T B F_first_break C_Layout_branches, PySem.W.mg_of X G a_first_break, k_first_break, b_first_break⟩
  have C_heading : CalX l.prog w K mg base "heading" _ _ _ := ⟨f_heading, _, ok_head T B E_BadWay F_heading C_checksX C_Layout_joined C_first_break, PySem.W.mg_of X G a_heading, k_heading, b_heading⟩
  have TT : TrCl K CT := ⟨⟨pg_Train, hd_Train, po_Train, sa_Train⟩, n_Train_way, n_Train_at_, n_Train_length, n_Train_steps, n_Train_last⟩
  have G_tinit := ok_tinit (P := l.prog) (w := w) (base := base) TT B E_BadWay E_BadLength F_Train_init
  have C_Train_blocks : CalM l.prog w K mg base CT "blocks" _ _ _ := ⟨f_Train_blocks, _, ok_tblocks TT B F_Train_blocks, ⟨a_Train_blocks, i_Train_blocks, k_Train_blocks⟩, b_Train_blocks⟩
  have C_Train_step_of : CalM l.prog w K mg base CT "step_of" _ _ _ := ⟨f_Train_step_of, _, ok_stepOf TT F_Train_step_of, ⟨a_Train_step_of, i_Train_step_of, k_Train_step_of⟩, b_Train_step_of⟩
  have C__release : Cal l.prog w K mg base "_release" _ _ _ := ⟨f__release, _, ok_rel1 T TT B F__release C_Layout_length_of, PySem.W.mg_of X G a__release, k__release, b__release⟩
  have C_releases : CalX l.prog w K mg base "releases" _ _ _ := ⟨f_releases, _, ok_rels T TT B F_releases C_Train_blocks C_heading C__release, PySem.W.mg_of X G a_releases, k_releases, b_releases⟩
  have C_cell : Cal l.prog w K mg base "_law_cell" _ _ _ := ⟨f_cell, _, ok_cell B F_cell, PySem.W.mg_of X G a_cell, k_cell, b_cell⟩
  have C_draw : Cal l.prog w K mg base "_law_draw" _ _ _ := ⟨f_draw, _, ok_draw B F_draw, PySem.W.mg_of X G a_draw, k_draw, b_draw⟩
  have C_same0 : Cal l.prog w K mg base "_law_same" _ _ _ := ⟨f_same, _, ok_same0 B F_same, PySem.W.mg_of X G a_same, k_same, b_same⟩
  have C_same1 : Cal l.prog w K mg base "_law_same" _ _ _ := ⟨f_same, _, ok_sameS B F_same C_same0, PySem.W.mg_of X G a_same, k_same, b_same⟩
  have C_same2 : Cal l.prog w K mg base "_law_same" _ _ _ := ⟨f_same, _, ok_sameS B F_same C_same1, PySem.W.mg_of X G a_same, k_same, b_same⟩
  have C_same3 : Cal l.prog w K mg base "_law_same" _ _ _ := ⟨f_same, _, ok_sameS B F_same C_same2, PySem.W.mg_of X G a_same, k_same, b_same⟩
  have C_track : Cal l.prog w K mg base "_law_track" _ _ _ := ⟨f_track, _, ok_track B F_track C_draw, PySem.W.mg_of X G a_track, k_track, b_track⟩
  have C_line : Cal l.prog w K mg base "_law_line" _ _ _ := ⟨f_line, _, ok_line B F_line C_draw, PySem.W.mg_of X G a_line, k_line, b_line⟩
  have C_way : Cal l.prog w K mg base "_law_way" _ _ _ := ⟨f_way, _, ok_way B (PySem.W.mg_none_of X G z_reversed) F_way C_draw, PySem.W.mg_of X G a_way, k_way, b_way⟩
  have C_lreleases : Cal l.prog w K mg base "_law_releases" _ _ _ := ⟨f_lreleases, _, ok_lr B F_lreleases, PySem.W.mg_of X G a_lreleases, k_lreleases, b_lreleases⟩
  have C_way_error : Cal l.prog w K mg base "_law_way_error" _ _ _ := ⟨f_way_error, _, ok_we B F_way_error, PySem.W.mg_of X G a_way_error, k_way_error, b_way_error⟩
  have C_due : Cal l.prog w K mg base "_law_due" _ _ _ := ⟨f_due, _, ok_due B F_due C_way_error C_lreleases, PySem.W.mg_of X G a_due, k_due, b_due⟩
  have C_spoilt_way : Cal l.prog w K mg base "_law_spoilt_way" _ _ _ := ⟨f_spoilt_way, _, ok_spoil B F_spoilt_way C_draw, PySem.W.mg_of X G a_spoilt_way, k_spoilt_way, b_spoilt_way⟩
  have C_size : Cal l.prog w K mg base "_law_size" _ _ _ := ⟨f_size, _, ok_size B (PySem.W.mg_none_of X G z_sum) (PySem.W.mg_none_of X G z_max) F_size C_draw, PySem.W.mg_of X G a_size, k_size, b_size⟩
  have bT : KBn K _ ["self", "way", "length"] 2 ["length"] ggI (fun vs zs => vs ++ zs) := ⟨fun s us ws _ l1 l2 => match us, ws, l1, l2 with | [_, _], [_], _, _ => .of_eq (fd := PySem.W.fnOf "__init__" "Train.__init__" (defArgs s_Train_init) (defBody s_Train_init) (defScope s_Train_init) .none (.ref aD_Train_init) dc_Train_init pm_Train_init an_Train_init cd_Train_init ct_Train_init) rfl, fun r1 r2 => r1.append r2⟩
  have CI : ∃ fI fdI, Mk K CT fI ∧ FnOk l.prog w K mg base (L2.CX l.prog w) 3 fI fdI ["self", "way", "length"] (spTInit K CT A_BadWay A_BadLength) ∧ KBn K fdI ["self", "way", "length"] 2 ["length"] ggI (fun vs zs => vs ++ zs) ∧ mg "Train" = some (.ref CT) := ⟨f_Train_init, _, ⟨mk_Train, a_Train_init, i_Train_init, kc_Train⟩, G_tinit, bT, PySem.W.mg_of X G aC_Train⟩
  have xLW : PySem.W.exmOne K (.ref A_BadLength) (.ref A_BadWay) = some false := exm_sub eC_BadWay iC_BadWay tC_BadWay x_BadLength_BadWay
  have xWN : PySem.W.exmOne K (.ref A_BadWay) (.ref CN) = some false := exm_sub eC_NoBlock iC_NoBlock tC_NoBlock x_BadWay_NoBlock
  have C_refused : Cal l.prog w K mg base "_law_refused" _ _ _ := ⟨f_refused, _, ok_refused B (PySem.W.mg_none_of X G z_ValueError) (PySem.W.mg_of X G g_RailError) (PySem.W.mg_of X G g_NoBlock) Z_BadWay Z_BadLength no_BadWay_at no_BadLength_length k_BadWay_RailError k_BadWay_ValueError k_BadWay_BadLength k_BadWay_NoBlock k_BadLength_RailError k_BadLength_ValueError k_BadLength_NoBlock xLW F_refused CI, PySem.W.mg_of X G a_refused, k_refused, b_refused⟩
  have C_told : Cal l.prog w K mg base "_law_told" _ _ _ := ⟨f_told, _, ok_told T (PySem.W.mg_none_of X G z_ValueError) B (PySem.W.mg_of X G g_RailError) (PySem.W.mg_of X G g_BadLength) Z_NoBlock Z_BadWay no_NoBlock_block no_BadWay_at k_BadWay_RailError k_BadWay_ValueError k_BadWay_BadLength k_NoBlock_RailError k_NoBlock_ValueError k_NoBlock_BadWay k_NoBlock_BadLength xWN F_told C_releases, PySem.W.mg_of X G a_told, k_told, b_told⟩
  have C_asked : Cal l.prog w K mg base "_law_asked" _ _ _ := ⟨f_asked, _, ok_asked B F_asked C_due C_told C_same3, PySem.W.mg_of X G a_asked, k_asked, b_asked⟩
  have C_train_fits : Cal l.prog w K mg base "_law_train_fits" _ _ _ := ⟨f_train_fits, _, ok_tfits TT B F_train_fits C_Train_blocks C_Train_step_of C_same3, PySem.W.mg_of X G a_train_fits, k_train_fits, b_train_fits⟩
  have C_layout : Cal l.prog w K mg base "_law_layout" _ _ _ := ⟨f_layout, _, ok_layout B F_layout ⟨f_Layout_init, _, ⟨mk, a_Layout_init, i_Layout_init, kc⟩, G_init, bI, PySem.W.mg_of X G aC⟩, PySem.W.mg_of X G a_layout, k_layout, b_layout⟩
  have C_refusals : Cal l.prog w K mg base "_law_refusals" _ _ _ := ⟨f_refusals, _, ok_refu F_refusals C_refused C_same3, PySem.W.mg_of X G a_refusals, k_refusals, b_refusals⟩
  have C_second : Cal l.prog w K mg base "_law_second" _ _ _ := ⟨f_second, _, ok_second B F_second C_cell C_draw C_track, PySem.W.mg_of X G a_second, k_second, b_second⟩
  have C_world : Cal l.prog w K mg base "_law_world" _ _ _ := ⟨f_world, _, ok_world B F_world C_cell C_draw C_track C_line C_way C_spoilt_way C_size, PySem.W.mg_of X G a_world, k_world, b_world⟩
  exact ok_law (show Vals [V.int 1] [Value.int 1 tk_Train_init] from .cons ⟨_, rfl⟩ .nil) TT B F_law C_cell C_draw C_world C_refusals C_same3 ⟨f_Train_init, _, ⟨mk_Train, a_Train_init, i_Train_init, kc_Train⟩, G_tinit, bT, PySem.W.mg_of X G aC_Train, binds_tinit0 dK_Train_init⟩ C_train_fits C_Train_blocks C_second C_layout C_asked
theorem walk {l : PySem.W.OpenLaw} {q : Program} {loose : List Str} {XP : (Str → Option Value) → Heap → Prop} {YP : World → Heap → Prop} {d : DefRec} {K : Params → PySem.W.Frag} (hn : l.most = some 63) (hdf : d.params.defaults = [])
    (hY : ∀ (w : World) (h : Heap), YP w h → (K w.params).In h)
    (F : ∀ (w : World) (mg : Str → Option Value) (fa : Addr) (h : Heap), (K w.params).In h → h.Ns mainGlobals mg → mg d.name = some (.ref fa) →
      ∃ fd : FuncData, (∀ (s : Shared) (u : Value), BindsTo s fd ⟨[u], []⟩ [("_law_script", u)]) ∧ ∀ base : Heap, (K w.params).In base → base.Ns mainGlobals mg → FnOk l.prog w (K w.params) mg base CX0 12 fa fd ["_law_script"] (spLaw (K w.params))) :
    PySem.W.WalkO q loose XP YP l.row.toRowW d [] (fun f vs => PySem.call f vs) :=
  L2.walk_of (n := 63) (k := 12) (x := "_law_script") (CX := fun _ => CX0) (sp := fun w => spLaw (K w.params)) hn (by decide) hdf ⟨rfl, by decide, by decide⟩ hY F (fun _ _ a ns hl _ hS => ⟨a, ns, rfl, hS, hl, fun _ => rfl⟩) fun _ _ _ _ _ z => z
end Kx

set_option Elab.async false
open PySem PySem.W PyProof.Rows in
set_option maxRecDepth 100000 in
set_option maxHeartbeats 0 in
theorem PySem.Challenge.cw_railhouse_k20_releases_of_a_train_holds : PySem.Challenge.rw_railhouse_k20_releases_of_a_train.Holds := by
  w_on; o_law; k_head; (case hw => w_witness2)
  k_fill
  refine Kx.walk (l := PySem.Challenge.rw_railhouse_k20_releases_of_a_train) rfl rfl (fun w h Y => PySem.W.kIn_of Y) ?F
  case F =>
    intro w mg fa h KX G hmg
    refine' Kx.all_mk KX G hmg ?aC ?a_check_block ?l_check_block ?c_check_block ?k_check_block ?a_check_blocks ?l_check_blocks ?c_check_blocks ?k_check_blocks ?a_heading ?l_heading ?c_heading ?k_heading ?a_first_break ?l_first_break ?c_first_break ?k_first_break ?a_releases ?l_releases ?c_releases ?k_releases ?a__release ?l__release ?c__release ?k__release ?a_cell ?l_cell ?c_cell ?k_cell ?a_draw ?l_draw ?c_draw ?k_draw ?a_same ?l_same ?c_same ?k_same ?a_track ?l_track ?c_track ?k_track ?a_way ?l_way ?c_way ?k_way ?a_lreleases ?l_lreleases ?c_lreleases ?k_lreleases ?a_layout ?l_layout ?c_layout ?k_layout ?a_line ?l_line ?c_line ?k_line ?a_way_error ?l_way_error ?c_way_error ?k_way_error ?a_spoilt_way ?l_spoilt_way ?c_spoilt_way ?k_spoilt_way ?a_size ?l_size ?c_size ?k_size ?a_refused ?l_refused ?c_refused ?k_refused ?a_told ?l_told ?c_told ?k_told ?a_due ?l_due ?c_due ?k_due ?a_asked ?l_asked ?c_asked ?k_asked ?a_train_fits ?l_train_fits ?c_train_fits ?k_train_fits ?a_world ?l_world ?c_world ?k_world ?a_second ?l_second ?c_second ?k_second ?a_refusals ?l_refusals ?c_refusals ?k_refusals ?a_law ?l_law ?c_law ?k_law ?a_Layout_init ?i_Layout_init ?l_Layout_init ?c_Layout_init ?k_Layout_init ?a_Layoutadd_joint ?i_Layoutadd_joint ?l_Layoutadd_joint ?c_Layoutadd_joint ?k_Layoutadd_joint ?a_Layout_contains ?i_Layout_contains ?l_Layout_contains ?c_Layout_contains ?k_Layout_contains ?a_Layout_length_of ?i_Layout_length_of ?l_Layout_length_of ?c_Layout_length_of ?k_Layout_length_of ?a_Layout_east_of ?i_Layout_east_of ?l_Layout_east_of ?c_Layout_east_of ?k_Layout_east_of ?a_Layout_west_of ?i_Layout_west_of ?l_Layout_west_of ?c_Layout_west_of ?k_Layout_west_of ?a_Layout_branches ?i_Layout_branches ?l_Layout_branches ?c_Layout_branches ?k_Layout_branches ?a_Layout_joined ?i_Layout_joined ?l_Layout_joined ?c_Layout_joined ?k_Layout_joined ?aC_Train ?a_Train_init ?i_Train_init ?l_Train_init ?c_Train_init ?k_Train_init ?a_Train_blocks ?i_Train_blocks ?l_Train_blocks ?c_Train_blocks ?k_Train_blocks ?a_Train_step_of ?i_Train_step_of ?l_Train_step_of ?c_Train_step_of ?k_Train_step_of ?g_RailError ?g_NoBlock ?g_BadWay ?g_BadLength ?x_NoBlock ?sa_NoBlock ?ga_NoBlock ?gg_NoBlock ?eC_NoBlock ?tC_NoBlock ?kC_NoBlock ?hC_NoBlock ?iC_NoBlock ?sC_NoBlock ?ca_NoBlock ?cm_NoBlock ?no_NoBlock_block ?a_NoBlock_init ?t_NoBlock_init ?l_NoBlock_init ?c_NoBlock_init ?k_NoBlock_init ?k_NoBlock_RailError ?k_NoBlock_ValueError ?k_NoBlock_BadWay ?k_NoBlock_BadLength ?x_BadWay ?sa_BadWay ?ga_BadWay ?gg_BadWay ?eC_BadWay ?tC_BadWay ?kC_BadWay ?hC_BadWay ?iC_BadWay ?sC_BadWay ?ca_BadWay ?cm_BadWay ?no_BadWay_at ?a_BadWay_init ?t_BadWay_init ?l_BadWay_init ?c_BadWay_init ?k_BadWay_init ?k_BadWay_RailError ?k_BadWay_ValueError ?k_BadWay_BadLength ?k_BadWay_NoBlock ?x_BadWay_NoBlock ?x_BadLength ?sa_BadLength ?ga_BadLength ?gg_BadLength ?eC_BadLength ?tC_BadLength ?kC_BadLength ?hC_BadLength ?iC_BadLength ?sC_BadLength ?ca_BadLength ?cm_BadLength ?no_BadLength_length ?a_BadLength_init ?t_BadLength_init ?l_BadLength_init ?c_BadLength_init ?k_BadLength_init ?k_BadLength_RailError ?k_BadLength_ValueError ?k_BadLength_NoBlock ?x_BadLength_BadWay ?oc_n ?oc_t ?pg_Train ?hd_Train ?po_Train ?sa_Train ?mk_Train ?kc_Train ?n_Train_way ?n_Train_at_ ?n_Train_length ?n_Train_steps ?n_Train_last ?pg ?hd ?po ?sa ?mk ?kc ?n_size ?n_lens ?n_marks ?n_east ?n_west ?dK_Train_init ?z_len ?z_abs ?z_min ?z_range ?z_int ?z_str ?z_bool ?z_list ?z_tuple ?z_sorted ?z_isinstance ?z_max ?z_sum ?z_reversed ?z_ValueError
    (case aC => k_is)
    (case a_check_block => k_is)
    (case l_check_block => k_is)
    (case c_check_block => k_is)
    (case k_check_block => k_is)
    (case a_check_blocks => k_is)
    (case l_check_blocks => k_is)
    (case c_check_blocks => k_is)
    (case k_check_blocks => k_is)
    (case a_heading => k_is)
    (case l_heading => k_is)
    (case c_heading => k_is)
    (case k_heading => k_is)
    (case a_first_break => k_is)
    (case l_first_break => k_is)
    (case c_first_break => k_is)
    (case k_first_break => k_is)
    (case a_releases => k_is)
    (case l_releases => k_is)
    (case c_releases => k_is)
    (case k_releases => k_is)
    (case a__release => k_is)
    (case l__release => k_is)
    (case c__release => k_is)
    (case k__release => k_is)
    (case a_cell => k_is)
    (case l_cell => k_is)
    (case c_cell => k_is)
    (case k_cell => k_is)
    (case a_draw => k_is)
    (case l_draw => k_is)
    (case c_draw => k_is)
    (case k_draw => k_is)
    (case a_same => k_is)
    (case l_same => k_is)
    (case c_same => k_is)
    (case k_same => k_is)
    (case a_track => k_is)
    (case l_track => k_is)
    (case c_track => k_is)
    (case k_track => k_is)
    (case a_way => k_is)
    (case l_way => k_is)
    (case c_way => k_is)
    (case k_way => k_is)
    (case a_lreleases => k_is)
    (case l_lreleases => k_is)
    (case c_lreleases => k_is)
    (case k_lreleases => k_is)
    (case a_layout => k_is)
    (case l_layout => k_is)
    (case c_layout => k_is)
    (case k_layout => k_is)
    (case a_line => k_is)
    (case l_line => k_is)
    (case c_line => k_is)
    (case k_line => k_is)
    (case a_way_error => k_is)
    (case l_way_error => k_is)
    (case c_way_error => k_is)
    (case k_way_error => k_is)
    (case a_spoilt_way => k_is)
    (case l_spoilt_way => k_is)
    (case c_spoilt_way => k_is)
    (case k_spoilt_way => k_is)
    (case a_size => k_is)
    (case l_size => k_is)
    (case c_size => k_is)
    (case k_size => k_is)
    (case a_refused => k_is)
    (case l_refused => k_is)
    (case c_refused => k_is)
    (case k_refused => k_is)
    (case a_told => k_is)
    (case l_told => k_is)
    (case c_told => k_is)
    (case k_told => k_is)
    (case a_due => k_is)
    (case l_due => k_is)
    (case c_due => k_is)
    (case k_due => k_is)
    (case a_asked => k_is)
    (case l_asked => k_is)
    (case c_asked => k_is)
    (case k_asked => k_is)
    (case a_train_fits => k_is)
    (case l_train_fits => k_is)
    (case c_train_fits => k_is)
    (case k_train_fits => k_is)
    (case a_world => k_is)
    (case l_world => k_is)
    (case c_world => k_is)
    (case k_world => k_is)
    (case a_second => k_is)
    (case l_second => k_is)
    (case c_second => k_is)
    (case k_second => k_is)
    (case a_refusals => k_is)
    (case l_refusals => k_is)
    (case c_refusals => k_is)
    (case k_refusals => k_is)
    (case a_law => k_is)
    (case l_law => k_is)
    (case c_law => k_is)
    (case k_law => k_is)
    (case a_Layout_init => k_is)
    (case i_Layout_init => k_is)
    (case l_Layout_init => k_is)
    (case c_Layout_init => k_is)
    (case k_Layout_init => k_is)
    (case a_Layoutadd_joint => k_is)
    (case i_Layoutadd_joint => k_is)
    (case l_Layoutadd_joint => k_is)
    (case c_Layoutadd_joint => k_is)
    (case k_Layoutadd_joint => k_is)
    (case a_Layout_contains => k_is)
    (case i_Layout_contains => k_is)
    (case l_Layout_contains => k_is)
    (case c_Layout_contains => k_is)
    (case k_Layout_contains => k_is)
    (case a_Layout_length_of => k_is)
    (case i_Layout_length_of => k_is)
    (case l_Layout_length_of => k_is)
    (case c_Layout_length_of => k_is)
    (case k_Layout_length_of => k_is)
    (case a_Layout_east_of => k_is)
    (case i_Layout_east_of => k_is)
    (case l_Layout_east_of => k_is)
    (case c_Layout_east_of => k_is)
    (case k_Layout_east_of => k_is)
    (case a_Layout_west_of => k_is)
    (case i_Layout_west_of => k_is)
    (case l_Layout_west_of => k_is)
    (case c_Layout_west_of => k_is)
    (case k_Layout_west_of => k_is)
    (case a_Layout_branches => k_is)
    (case i_Layout_branches => k_is)
    (case l_Layout_branches => k_is)
    (case c_Layout_branches => k_is)
    (case k_Layout_branches => k_is)
    (case a_Layout_joined => k_is)
    (case i_Layout_joined => k_is)
    (case l_Layout_joined => k_is)
    (case c_Layout_joined => k_is)
    (case k_Layout_joined => k_is)
    (case aC_Train => k_is)
    (case a_Train_init => k_is)
    (case i_Train_init => k_is)
    (case l_Train_init => k_is)
    (case c_Train_init => k_is)
    (case k_Train_init => k_is)
    (case a_Train_blocks => k_is)
    (case i_Train_blocks => k_is)
    (case l_Train_blocks => k_is)
    (case c_Train_blocks => k_is)
    (case k_Train_blocks => k_is)
    (case a_Train_step_of => k_is)
    (case i_Train_step_of => k_is)
    (case l_Train_step_of => k_is)
    (case c_Train_step_of => k_is)
    (case k_Train_step_of => k_is)
    (case g_RailError => k_is)
    (case g_NoBlock => k_is)
    (case g_BadWay => k_is)
    (case g_BadLength => k_is)
    (case x_NoBlock => k_is)
    (case sa_NoBlock => k_is)
    (case ga_NoBlock => k_is)
    (case gg_NoBlock => k_is)
    (case eC_NoBlock => k_is)
    (case tC_NoBlock => k_is)
    (case kC_NoBlock => k_is)
    (case hC_NoBlock => k_is)
    (case iC_NoBlock => k_is)
    (case sC_NoBlock => first | rfl | k_is)
    (case ca_NoBlock => k_is)
    (case cm_NoBlock => k_is)
    (case no_NoBlock_block => k_is)
    (case a_NoBlock_init => k_is)
    (case t_NoBlock_init => k_is)
    (case l_NoBlock_init => k_is)
    (case c_NoBlock_init => k_is)
    (case k_NoBlock_init => k_is)
    (case k_NoBlock_RailError => kit_is)
    (case k_NoBlock_ValueError => kit_is)
    (case k_NoBlock_BadWay => kit_is)
    (case k_NoBlock_BadLength => kit_is)
    (case x_BadWay => k_is)
    (case sa_BadWay => k_is)
    (case ga_BadWay => k_is)
    (case gg_BadWay => k_is)
    (case eC_BadWay => k_is)
    (case tC_BadWay => k_is)
    (case kC_BadWay => k_is)
    (case hC_BadWay => k_is)
    (case iC_BadWay => k_is)
    (case sC_BadWay => first | rfl | k_is)
    (case ca_BadWay => k_is)
    (case cm_BadWay => k_is)
    (case no_BadWay_at => k_is)
    (case a_BadWay_init => k_is)
    (case t_BadWay_init => k_is)
    (case l_BadWay_init => k_is)
    (case c_BadWay_init => k_is)
    (case k_BadWay_init => k_is)
    (case k_BadWay_RailError => kit_is)
    (case k_BadWay_ValueError => kit_is)
    (case k_BadWay_BadLength => kit_is)
    (case k_BadWay_NoBlock => kit_is)
    (case x_BadWay_NoBlock => k_is)
    (case x_BadLength => k_is)
    (case sa_BadLength => k_is)
    (case ga_BadLength => k_is)
    (case gg_BadLength => k_is)
    (case eC_BadLength => k_is)
    (case tC_BadLength => k_is)
    (case kC_BadLength => k_is)
    (case hC_BadLength => k_is)
    (case iC_BadLength => k_is)
    (case sC_BadLength => first | rfl | k_is)
    (case ca_BadLength => k_is)
    (case cm_BadLength => k_is)
    (case no_BadLength_length => k_is)
    (case a_BadLength_init => k_is)
    (case t_BadLength_init => k_is)
    (case l_BadLength_init => k_is)
    (case c_BadLength_init => k_is)
    (case k_BadLength_init => k_is)
    (case k_BadLength_RailError => kit_is)
    (case k_BadLength_ValueError => kit_is)
    (case k_BadLength_NoBlock => kit_is)
    (case x_BadLength_BadWay => k_is)
    (case oc_n => k_is)
    (case oc_t => k_is)
    (case pg_Train => k_is)
    (case hd_Train => k_is)
    (case po_Train => k_is)
    (case sa_Train => k_is)
    (case mk_Train => k_is)
    (case kc_Train => k_is)
    (case n_Train_way => k_is)
    (case n_Train_at_ => k_is)
    (case n_Train_length => k_is)
    (case n_Train_steps => k_is)
    (case n_Train_last => k_is)
    (case pg => k_is)
    (case hd => k_is)
    (case po => k_is)
    (case sa => k_is)
    (case mk => k_is)
    (case kc => k_is)
    (case n_size => k_is)
    (case n_lens => k_is)
    (case n_marks => k_is)
    (case n_east => k_is)
    (case n_west => k_is)
    (case dK_Train_init => k_is)
    (case z_len => k_is)
    (case z_abs => k_is)
    (case z_min => k_is)
    (case z_range => k_is)
    (case z_int => k_is)
    (case z_str => k_is)
    (case z_bool => k_is)
    (case z_list => k_is)
    (case z_tuple => k_is)
    (case z_sorted => k_is)
    (case z_isinstance => k_is)
    (case z_max => k_is)
    (case z_sum => k_is)
    (case z_reversed => k_is)
    (case z_ValueError => k_is)

#print axioms PySem.Challenge.cw_railhouse_k20_releases_of_a_train_holds
