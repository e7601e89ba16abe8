import PyProof.Rows.All
import Wide.All
import OpenK.AllK
import Wide.FinOn
import HandS.ForMost
import HandS.Evl
import HandS.Deep
import HandS.Defaults
import HandS.MakeKwOnly
import HandS.IsInst
import HandS.Style
import HandS.SortRule
import HandS.SortInts
import HandS.Wide
import HandS.Rev
import KE.KSortTupAny
import HandS.ExcInit
import HandS.ExcField
import HandS.TryMany
import HandS.WordsExc
import HandS.ExcOwn
import HandS.CallSlots
import HandS.ExcIs
import KE.KExcIs
import HandS.Conv
import HandS.More
import HandS.Zip
import HandS.SetFor
import HandS.OwnEq
import HandS.Walk
import HandS.SetKeys
import KE.SortData
import HandS.TupLe
import KE.RegKIsAll
import PySem.Challenge.RW_railhouse_k65_whole_fewest_sets
set_option Elab.async false
set_option linter.all false
set_option maxRecDepth 100000
set_option maxHeartbeats 4000000
/-! A layer of our own: G is what is known of the heap H. -/
namespace Lw
open PySem L2
open Evl (Ex)

/-! ### what is known grows -/
def Gr (G G' H H' : Hp) : Prop := Ex G G' ∧ Ex G' H' ∧ Ex H H' ∧ ∀ a, H a ≠ none → G a = none → G' a = none
theorem exTrans {H H1 H2 : Hp} (a : Ex H H1) (b : Ex H1 H2) : Ex H H2 := Ex.trans a b
theorem Gr.same {G H H' : Hp} (e : Ex G H) (e2 : Ex H H') : Gr G G H H' := ⟨Ex.refl G, e.trans e2, e2, fun _ _ h => h⟩
theorem Gr.refl {G H : Hp} (e : Ex G H) : Gr G G H H := .same e (Ex.refl H)
theorem Gr.ok {G G' H H' : Hp} (a : Gr G G' H H') : Ex G' H' := a.2.1
theorem Gr.up {G G' H H' : Hp} (a : Gr G G' H H') : Ex G G' := a.1
theorem Gr.hp {G G' H H' : Hp} (a : Gr G G' H H') : Ex H H' := a.2.2.1
theorem ne_none_of {o : Option HO} {x : HO} (h : o = some x) : o ≠ none := by rw [h]; exact fun z => nomatch z
theorem exNe {H H' : Hp} (e : Ex H H') {a : Addr} (h : H a ≠ none) : H' a ≠ none := by
  cases q : H a with
  | none => exact absurd q h
  | some o => exact ne_none_of (e a o q)
theorem Gr.trans {G G1 G2 H H1 H2 : Hp} (a : Gr G G1 H H1) (b : Gr G1 G2 H1 H2) : Gr G G2 H H2 :=
  ⟨a.1.trans b.1, b.2.1, a.2.2.1.trans b.2.2.1, fun x h g => b.2.2.2 x (exNe a.2.2.1 h) (a.2.2.2 x h g)⟩
theorem Gr.then {G G1 H H1 H2 : Hp} (a : Gr G G1 H H1) (b : Ex H1 H2) : Gr G G1 H H2 := a.trans (.same a.ok b)
theorem none_back {G H : Hp} (e : Ex G H) {p : Addr} (h : H p = none) : G p = none := Evl.fresh_back e h
theorem Gr.new {G H : Hp} {p : Addr} {o : HO} (e : Ex G H) (hp : H p = none) : Gr G (upd G p o) H (upd H p o) := by
  refine ⟨Ex.new (none_back e hp), fun a u q => ?_, Ex.new hp, fun a h g => ?_⟩
  · by_cases ap : a = p
    · subst ap
      rw [upd_same] at q ⊢
      exact q
    · rw [upd_ne ap] at q ⊢
      exact e a u q
  · have ap : a ≠ p := fun z => h (by rw [z]; exact hp)
    rw [upd_ne ap]
    exact g
/-- the knowledge of two readings, one behind the other -/
theorem Gr.join {G G1 G2 H H1 H2 : Hp} (a : Gr G G1 H H1) (b : Gr G G2 H1 H2) : ∃ G3, Ex G1 G3 ∧ Ex G2 G3 ∧ Gr G G3 H H2 := by
  refine ⟨fun x => match G1 x with | some o => some o | none => G2 x, fun x o q => ?_, fun x o q => ?_, ⟨fun x o q => ?_, fun x o q => ?_, a.2.2.1.trans b.2.2.1, fun x h g => ?_⟩⟩
  · show (match G1 x with | some o => some o | none => G2 x) = some o
    rw [q]
  · show (match G1 x with | some o => some o | none => G2 x) = some o
    cases e : G1 x with
    | none => exact q
    | some o' =>
      have h1 := b.2.2.1 x o' (a.2.1 x o' e)
      rw [b.2.1 x o q] at h1
      exact h1.symm
  · show (match G1 x with | some o => some o | none => G2 x) = some o
    rw [a.1 x o q]
  · have q' : (match G1 x with | some o => some o | none => G2 x) = some o := q
    cases e : G1 x with
    | none =>
      rw [e] at q'
      exact b.2.1 x o q'
    | some o' =>
      rw [e] at q'
      cases q'
      exact b.2.2.1 x o (a.2.1 x o e)
  · show (match G1 x with | some o => some o | none => G2 x) = none
    rw [a.2.2.2 x h g]
    exact b.2.2.2 x (exNe a.2.2.1 h) g
/-- an object that is new since H0 may change -/
theorem Gr.mut {G0 G H0 H : Hp} {p : Addr} {o : HO} (e0 : Ex G0 H0) (a : Gr G0 G H0 H) (hp : H0 p = none) : Gr G0 (upd G p o) H0 (upd H p o) := by
  refine ⟨fun b u q => ?_, fun b u q => ?_, fun b u q => ?_, fun b h g => ?_⟩
  · rw [upd_ne (ne_of_none q (none_back e0 hp))]
    exact a.1 b u q
  · by_cases ap : b = p
    · subst ap
      rw [upd_same] at q ⊢
      exact q
    · rw [upd_ne ap] at q ⊢
      exact a.2.1 b u q
  · rw [upd_ne (ne_of_none q hp)]
    exact a.2.2.1 b u q
  · have ap : b ≠ p := fun z => h (by rw [z]; exact hp)
    rw [upd_ne ap]
    exact a.2.2.2 b h g
theorem upd_self' {H : Hp} {p : Addr} {o : HO} (h : H p = some o) : upd H p o = H := by
  funext b
  by_cases e : b = p
  · rw [e, upd_same, h]
  · rw [upd_ne e]
/-- .. and may be known -/
theorem Gr.know {G0 G H0 H : Hp} {p : Addr} {o : HO} (e0 : Ex G0 H0) (a : Gr G0 G H0 H) (hp : H0 p = none) (h : H p = some o) : Gr G0 (upd G p o) H0 H := by
  have q := Gr.mut (o := o) e0 a hp
  rw [upd_self' h] at q
  exact q
theorem ex_know {G H : Hp} {p : Addr} {o : HO} (e : Ex G H) (h : H p = some o) : Ex (upd G p o) H := fun b u q => by
  by_cases ap : b = p
  · subst ap
    rw [upd_same] at q
    cases q
    exact h
  · rw [upd_ne ap] at q
    exact e b u q
theorem ex_off {G H : Hp} {p : Addr} {o : HO} (e : Ex G H) (h : G p = none) : Ex G (upd H p o) := fun b u q => by
  rw [upd_ne (ne_of_none q h)]
  exact e b u q
theorem ex_in {G : Hp} {p : Addr} {o : HO} (h : G p = none) : Ex G (upd G p o) := Ex.new h

/-! ### data -/
section
variable {K : PySem.W.Frag}
mutual
theorem Dp.ex {G G' : Hp} (e : Ex G G') : ∀ (d : PyData) (v : V), Dp K G v d → Dp K G' v d
  | .none, _, h => by cases h; exact .non
  | .bool b, _, h => by cases h; exact .bl b
  | .int i, _, h => by cases h; exact .int i
  | .str x, _, h => by cases h; exact .str x
  | .list ds, _, h => by
    cases h with
    | lst hs ha => exact .lst (Evl.ex_l e hs) (DpAll.ex e ds _ ha)
  | .tuple ds, _, h => by
    cases h with
    | tup hs ha => exact .tup (Evl.ex_t e hs) (DpAll.ex e ds _ ha)
  | .dict _, _, h => by cases h
theorem DpAll.ex {G G' : Hp} (e : Ex G G') : ∀ (ds : List PyData) (vs : List V), DpAll K G vs ds → DpAll K G' vs ds
  | [], _, h => by cases h; exact .nil
  | d :: ds, _, h => by
    cases h with
    | cons h1 h2 => exact .cons (Dp.ex e d _ h1) (DpAll.ex e ds _ h2)
end
theorem dpx {G G' : Hp} {v : V} {d : PyData} (h : Dp K G v d) (e : Ex G G') : Dp K G' v d := Dp.ex e d v h
theorem dpax {G G' : Hp} {vs : List V} {ds : List PyData} (h : DpAll K G vs ds) (e : Ex G G') : DpAll K G' vs ds := DpAll.ex e ds vs h
theorem dpa_len {G : Hp} : ∀ {vs : List V} {ds : List PyData}, DpAll K G vs ds → vs.length = ds.length
  | _, _, .nil => rfl
  | _, _, .cons _ h => congrArg Nat.succ (dpa_len h)
theorem dpa_snoc {G : Hp} : ∀ {vs : List V} {ds : List PyData} {v : V} {d : PyData}, DpAll K G vs ds → Dp K G v d → DpAll K G (vs ++ [v]) (ds ++ [d])
  | _, _, _, _, .nil, h => .cons h .nil
  | _, _, _, _, .cons a r, h => .cons a (dpa_snoc r h)
theorem dpa_get {G : Hp} : ∀ {vs : List V} {ds : List PyData} {i : Nat} {v : V}, DpAll K G vs ds → vs[i]? = some v → ∃ d, ds[i]? = some d ∧ Dp K G v d
  | _, _, i, v, .nil, h => by simp at h
  | _, _, 0, v, .cons a r, h => ⟨_, rfl, by cases h; exact a⟩
  | _, _, i + 1, v, .cons a r, h => dpa_get (i := i) r h
theorem dpa_get' {G : Hp} : ∀ {vs : List V} {ds : List PyData} {i : Nat} {d : PyData}, DpAll K G vs ds → ds[i]? = some d → ∃ v, vs[i]? = some v ∧ Dp K G v d
  | _, _, i, d, .nil, h => by simp at h
  | _, _, 0, d, .cons a r, h => ⟨_, rfl, by cases h; exact a⟩
  | _, _, i + 1, d, .cons a r, h => dpa_get' (i := i) r h
theorem dpa_ints {G : Hp} : ∀ (zs : List Int), DpAll K G (zs.map V.int) (zs.map PyData.int)
  | [] => .nil
  | z :: zs => .cons (.int z) (dpa_ints zs)
theorem dpa_bls {G : Hp} : ∀ (zs : List Bool), DpAll K G (zs.map V.bl) (zs.map PyData.bool)
  | [] => .nil
  | z :: zs => .cons (.bl z) (dpa_bls zs)
theorem dpa_ints_eq {G : Hp} : ∀ {zs : List Int} {vs : List V}, DpAll K G vs (zs.map PyData.int) → vs = zs.map V.int
  | [], _, .nil => rfl
  | z :: zs, _, .cons h r => by
    cases h
    rw [dpa_ints_eq r]
    rfl
theorem dpa_bls_eq {G : Hp} : ∀ {zs : List Bool} {vs : List V}, DpAll K G vs (zs.map PyData.bool) → vs = zs.map V.bl
  | [], _, .nil => rfl
  | z :: zs, _, .cons h r => by
    cases h
    rw [dpa_bls_eq r]
    rfl
theorem dp_lst {G : Hp} {v : V} {ds : List PyData} (h : Dp K G v (.list ds)) : ∃ a xs, v = .ref a ∧ SqL K G a xs ∧ DpAll K G xs ds := by
  cases h with
  | lst hs ha => exact ⟨_, _, rfl, hs, ha⟩
theorem dp_tup {G : Hp} {v : V} {ds : List PyData} (h : Dp K G v (.tuple ds)) : ∃ a xs, v = .ref a ∧ SqT K G a xs ∧ DpAll K G xs ds := by
  cases h with
  | tup hs ha => exact ⟨_, _, rfl, hs, ha⟩
theorem dp_mkL {G : Hp} {p : Addr} {xs : List V} {ds : List PyData} (h : G p = some (.lst xs)) (ha : DpAll K G xs ds) : Dp K G (.ref p) (.list ds) := .lst (Evl.sq_of h) ha
theorem dp_mkT {G : Hp} {p : Addr} {xs : List V} {ds : List PyData} (h : G p = some (.tup xs)) (ha : DpAll K G xs ds) : Dp K G (.ref p) (.tuple ds) := .tup (Evl.st_of h) ha
end

/-! ### readings of expressions -/
abbrev VP := V → Hp → Prop
def EF (te : TE) (σ : L2.St) (G : Hp) (P : VP) : Prop := ∀ H, Ex G H → ∀ Q : VK, (∀ v G' H', Gr G G' H H' → P v G' → Q v H') → te σ H Q
def ET (t : TT) (σ : L2.St) (G : Hp) (p : Bool → Prop) : Prop := ∀ H, Ex G H → ∀ Q : Bool → Hp → Prop, (∀ b H', Ex H H' → p b → Q b H') → t σ H Q
def EA (ta : TA) (σ : L2.St) (G : Hp) (P : List V → Hp → Prop) : Prop := ∀ H, Ex G H → ∀ Q : List V → Hp → Prop, (∀ vs G' H', Gr G G' H H' → P vs G' → Q vs H') → ta σ H Q
def RO (r : R2) (x y : V) (G : Hp) (P : VP) : Prop := ∀ H, Ex G H → ∀ Q : VK, (∀ v G' H', Gr G G' H H' → P v G' → Q v H') → r x y H Q
def RA (r : List V → Hp → VK → Prop) (vs : List V) (G : Hp) (P : VP) : Prop := ∀ H, Ex G H → ∀ Q : VK, (∀ v G' H', Gr G G' H H' → P v G' → Q v H') → r vs H Q
/-- a promise kept: from the knowledge G -/
def SA (sp : Sp) (vs : List V) (G : Hp) (P : VP) : Prop := ∀ H, Ex G H → ∀ (Q : VK) (E : XK), (∀ v G' H', Gr G G' H H' → P v G' → Q v H') → sp vs H Q E
def IV (p : Int → Prop) : VP := fun v _ => ∃ z, v = .int z ∧ p z
def BV (p : Bool → Prop) : VP := fun v _ => ∃ z, v = .bl z ∧ p z
def DV (K : PySem.W.Frag) (d : PyData) : VP := fun v G => Dp K G v d
def XV (x : V) : VP := fun v _ => v = x
def Mo (P : VP) : Prop := ∀ v G G', Ex G G' → P v G → P v G'
theorem mo_IV {p} : Mo (IV p) := fun _ _ _ _ h => h
theorem mo_BV {p} : Mo (BV p) := fun _ _ _ _ h => h
theorem mo_XV {p} : Mo (XV p) := fun _ _ _ _ h => h
theorem mo_DV {K d} : Mo (DV K d) := fun _ _ _ e h => dpx h e
section
variable {K : PySem.W.Frag} {σ : L2.St} {G G' H H' : Hp} {ta tb te tx : TE} {t u : TT} {x y z v : V} {r : R2} {P Pa Pb : VP}
theorem EF.imp {P' : VP} (h : EF te σ G P) (k : ∀ v G', Ex G G' → P v G' → P' v G') : EF te σ G P' := fun H e Q q => h H e Q fun v G' H' g p => q v G' H' g (k v G' g.up p)
theorem ef_var {i : Nat} (h : σ[i]? = some (some v)) (p : P v G) : EF (tVar i) σ G P := fun H e _ q => ⟨v, h, q v G H (.refl e) p⟩
theorem ef_c (p : P v G) : EF (tC v) σ G P := fun H e _ q => q v G H (.refl e) p
theorem ei_c {i : Int} {p : Int → Prop} (h : p i) : EF (tC (.int i)) σ G (IV p) := ef_c ⟨i, rfl, h⟩
theorem ei_var {i : Nat} {z : Int} {p : Int → Prop} (h : σ[i]? = some (some (.int z))) (hp : p z) : EF (tVar i) σ G (IV p) := ef_var h ⟨z, rfl, hp⟩
theorem ef_op (mA : Mo Pa) (mB : Mo Pb) (ha : EF ta σ G Pa) (hb : EF tb σ G Pb) (hr : ∀ x y G', Ex G G' → Pa x G' → Pb y G' → RO r x y G' P) : EF (tOp r ta tb) σ G P := fun H e Q q =>
  ha H e _ fun x G1 H1 g1 p1 => hb H1 (g1.up.trans g1.ok) _ fun y G2 H2 g2 p2 => by
    obtain ⟨G3, e1, e2, g3⟩ := g1.join g2
    exact hr x y G3 g3.up (mA x _ _ e1 p1) (mB y _ _ e2 p2) H2 g3.ok Q fun v G4 H4 g4 p4 => q v G4 H4 (g3.trans g4) p4
theorem ro_I0 {f : Int → Int → V} {i j : Int} (p : P (f i j) G) : RO (rI0 f) (.int i) (.int j) G P := fun H e _ q => ⟨i, j, rfl, rfl, q _ G H (.refl e) p⟩
theorem ro_I {C : Int → Int → Prop} {f : Int → Int → V} {i j : Int} (hc : C i j) (p : P (f i j) G) : RO (rI C f) (.int i) (.int j) G P := fun H e _ q => ⟨i, j, rfl, rfl, hc, q _ G H (.refl e) p⟩
/-- two ints -/
theorem ei_op0 {f : Int → Int → V} {p q : Int → Prop} (ha : EF ta σ G (IV p)) (hb : EF tb σ G (IV q)) (h : ∀ a b G', p a → q b → P (f a b) G') : EF (tOp (rI0 f) ta tb) σ G P :=
  ef_op mo_IV mo_IV ha hb fun x y G' _ hx hy => by
    obtain ⟨a, rfl, pa⟩ := hx
    obtain ⟨b, rfl, pb⟩ := hy
    exact ro_I0 (h a b G' pa pb)
theorem ei_opC {C : Int → Int → Prop} {f : Int → Int → V} {p q : Int → Prop} (ha : EF ta σ G (IV p)) (hb : EF tb σ G (IV q)) (hc : ∀ a b, p a → q b → C a b) (h : ∀ a b G', p a → q b → P (f a b) G') : EF (tOp (rI C f) ta tb) σ G P :=
  ef_op mo_IV mo_IV ha hb fun x y G' _ hx hy => by
    obtain ⟨a, rfl, pa⟩ := hx
    obtain ⟨b, rfl, pb⟩ := hy
    exact ro_I (hc a b pa pb) (h a b G' pa pb)
theorem ei_add {p q s : Int → Prop} (ha : EF ta σ G (IV p)) (hb : EF tb σ G (IV q)) (h : ∀ a b, p a → q b → s (a + b)) : EF (tOp (rI0 fun i j => .int (i + j)) ta tb) σ G (IV s) := ei_op0 ha hb fun a b _ pa pb => ⟨_, rfl, h a b pa pb⟩
theorem ei_sub {p q s : Int → Prop} (ha : EF ta σ G (IV p)) (hb : EF tb σ G (IV q)) (h : ∀ a b, p a → q b → s (a - b)) : EF (tOp (rI0 fun i j => .int (i - j)) ta tb) σ G (IV s) := ei_op0 ha hb fun a b _ pa pb => ⟨_, rfl, h a b pa pb⟩
/-! tests -/
theorem et_test {p : Bool → Prop} (h : EF te σ G (BV p)) : ET (tTest te) σ G p := fun H e _ q => h H e _ fun v G' H' g hv => by
  obtain ⟨b, rfl, pb⟩ := hv
  exact ⟨b, rfl, q b H' g.hp pb⟩
theorem et_B {p : Bool → Prop} (h : EF te σ G (BV p)) : ET (tB te) σ G p := fun H e _ q => h H e _ fun v G' H' g hv => by
  obtain ⟨b, rfl, pb⟩ := hv
  exact ⟨b, rfl, q b H' g.hp pb⟩
theorem et_not {p : Bool → Prop} (h : ET t σ G fun b => p (!b)) : ET (tNot t) σ G p := fun H e _ q => h H e _ fun b H' e' pb => q (!b) H' e' pb
theorem et_and {p q s : Bool → Prop} (h1 : ET t σ G p) (h2 : p true → ET u σ G q) (ht : p true → ∀ b, q b → s b) (hf : p false → s false) : ET (tAnd t u) σ G s := fun H e Q k => h1 H e _ fun b H1 e1 pb => by
  cases b with
  | true =>
    show u σ H1 Q
    exact h2 pb H1 (e.trans e1) Q fun b2 H2 e2 p2 => k b2 H2 (e1.trans e2) (ht pb b2 p2)
  | false => exact k false H1 e1 (hf pb)
theorem et_or {p q s : Bool → Prop} (h1 : ET t σ G p) (h2 : p false → ET u σ G q) (ht : p true → s true) (hf : p false → ∀ b, q b → s b) : ET (tOr t u) σ G s := fun H e Q k => h1 H e _ fun b H1 e1 pb => by
  cases b with
  | true => exact k true H1 e1 (ht pb)
  | false =>
    show u σ H1 Q
    exact h2 pb H1 (e.trans e1) Q fun b2 H2 e2 p2 => k b2 H2 (e1.trans e2) (hf pb b2 p2)
theorem ET.imp {p q : Bool → Prop} (h : ET t σ G p) (k : ∀ b, p b → q b) : ET t σ G q := fun H e Q c => h H e Q fun b H' e' pb => c b H' e' (k b pb)
theorem eb_not {p : Bool → Prop} (h : EF ta σ G (BV fun b => p (!b))) : EF (tNotV ta) σ G (BV p) := fun H e _ q => h H e _ fun v G' H' g hv => by
  obtain ⟨b, rfl, pb⟩ := hv
  exact ⟨b, rfl, q _ G' H' g ⟨!b, rfl, pb⟩⟩
theorem eb_and {p q s : Bool → Prop} (h1 : EF ta σ G (BV p)) (h2 : p true → EF tb σ G (BV q)) (ht : p true → ∀ b, q b → s b) (hf : p false → s false) : EF (tAndV ta tb) σ G (BV s) := fun H e Q k => h1 H e _ fun v G1 H1 g1 hv => by
  obtain ⟨b, rfl, pb⟩ := hv
  refine ⟨b, rfl, ?_⟩
  cases b with
  | true =>
    show tb σ H1 Q
    exact h2 pb H1 (g1.up.trans g1.ok) Q fun v2 G2 H2 g2 p2 => by
      obtain ⟨b2, rfl, pb2⟩ := p2
      exact k _ G2 H2 (⟨g2.up, g2.ok, g1.hp.trans g2.hp, fun a h g => g2.2.2.2 a (exNe g1.hp h) g⟩) ⟨b2, rfl, ht pb b2 pb2⟩
  | false =>
    show Q (.bl false) H1
    exact k _ G1 H1 g1 ⟨false, rfl, hf pb⟩
theorem ef_if {p : Bool → Prop} (h : ET t σ G p) (h1 : p true → EF ta σ G P) (h2 : p false → EF tb σ G P) : EF (tIf t ta tb) σ G P := fun H e Q k => h H e _ fun b H1 e1 pb => by
  cases b with
  | true =>
    show ta σ H1 Q
    exact h1 pb H1 (e.trans e1) Q fun v G2 H2 g2 p2 => k v G2 H2 (⟨g2.up, g2.ok, e1.trans g2.hp, fun a h g => g2.2.2.2 a (exNe e1 h) g⟩) p2
  | false =>
    show tb σ H1 Q
    exact h2 pb H1 (e.trans e1) Q fun v G2 H2 g2 p2 => k v G2 H2 (⟨g2.up, g2.ok, e1.trans g2.hp, fun a h g => g2.2.2.2 a (exNe e1 h) g⟩) p2
/-! arguments, displays, calls -/
theorem ea_nil : EA tNil σ G fun vs _ => vs = [] := fun H e _ q => q [] G H (.refl e) rfl
theorem ea_cons {tr : TA} {R S : List V → Hp → Prop} (mA : Mo Pa) (mR : ∀ vs G G', Ex G G' → R vs G → R vs G') (ha : EF ta σ G Pa) (hr : EA tr σ G R) (h : ∀ x xs G', Ex G G' → Pa x G' → R xs G' → S (x :: xs) G') : EA (tCons ta tr) σ G S := fun H e Q q =>
  ha H e _ fun x G1 H1 g1 p1 => hr H1 (g1.up.trans g1.ok) _ fun xs G2 H2 g2 p2 => by
    obtain ⟨G3, e1, e2, g3⟩ := g1.join g2
    exact q _ G3 H2 g3 (h x xs G3 g3.up (mA x _ _ e1 p1) (mR xs _ _ e2 p2))
theorem ea_one (ha : EF ta σ G P) : EA (tCons ta tNil) σ G fun vs G' => ∃ x, vs = [x] ∧ P x G' := fun H e Q q => ha H e _ fun x G1 H1 g1 p1 => q _ G1 H1 g1 ⟨x, rfl, p1⟩
theorem mo_two {Pa Pb : VP} (mA : Mo Pa) (mB : Mo Pb) : ∀ (vs : List V) (G G' : Hp), Ex G G' → (∃ x y, vs = [x, y] ∧ Pa x G ∧ Pb y G) → ∃ x y, vs = [x, y] ∧ Pa x G' ∧ Pb y G' := fun vs G G' e ⟨x, y, h, a, b⟩ => ⟨x, y, h, mA _ _ _ e a, mB _ _ _ e b⟩
theorem ea_two (mA : Mo Pa) (mB : Mo Pb) (ha : EF ta σ G Pa) (hb : EF tb σ G Pb) : EA (tCons ta (tCons tb tNil)) σ G fun vs G' => ∃ x y, vs = [x, y] ∧ Pa x G' ∧ Pb y G' :=
  ea_cons mA (fun vs G G' e ⟨y, h, b⟩ => ⟨y, h, mB _ _ _ e b⟩) ha (ea_one hb) fun x xs G' _ hx ⟨y, e, hy⟩ => ⟨x, y, by rw [e], hx, hy⟩
theorem ea_three {Pc : VP} {tc : TE} (mA : Mo Pa) (mB : Mo Pb) (mC : Mo Pc) (ha : EF ta σ G Pa) (hb : EF tb σ G Pb) (hc : EF tc σ G Pc) : EA (tCons ta (tCons tb (tCons tc tNil))) σ G fun vs G' => ∃ x y z, vs = [x, y, z] ∧ Pa x G' ∧ Pb y G' ∧ Pc z G' :=
  ea_cons mA (mo_two mB mC) ha (ea_two mB mC hb hc) fun x xs G' _ hx ⟨y, z, e, hy, hz⟩ => ⟨x, y, z, by rw [e], hx, hy, hz⟩
theorem ea_four {Pc Pd : VP} {tc td : TE} (mA : Mo Pa) (mB : Mo Pb) (mC : Mo Pc) (mD : Mo Pd) (ha : EF ta σ G Pa) (hb : EF tb σ G Pb) (hc : EF tc σ G Pc) (hd : EF td σ G Pd) :
    EA (tCons ta (tCons tb (tCons tc (tCons td tNil)))) σ G fun vs G' => ∃ x y z w, vs = [x, y, z, w] ∧ Pa x G' ∧ Pb y G' ∧ Pc z G' ∧ Pd w G' :=
  ea_cons mA (fun vs G G' e ⟨x, y, z, h, a, b, c⟩ => ⟨x, y, z, h, mB _ _ _ e a, mC _ _ _ e b, mD _ _ _ e c⟩) ha (ea_three mB mC mD hb hc hd) fun x xs G' _ hx ⟨y, z, w, e, hy, hz, hw⟩ => ⟨x, y, z, w, by rw [e], hx, hy, hz, hw⟩
/-- a new tuple, a new list -/
theorem ef_tup {ta : TA} {R : List V → Hp → Prop} (h : EA ta σ G R) (hl : ∀ vs G', R vs G' → vs.length ≤ 1000) (hP : ∀ p vs G', Ex G G' → G p = none → G' p = none → R vs G' → P (.ref p) (upd G' p (.tup vs))) : EF (tTup ta) σ G P := fun H e Q q =>
  h H e _ fun vs G1 H1 g1 p1 => ⟨Nat.le_trans (hl vs G1 p1) (by decide), fun p hp => q _ _ _ (g1.trans (.new g1.ok hp)) (hP p vs G1 g1.up (none_back (g1.up.trans g1.ok) hp) (none_back g1.ok hp) p1)⟩
theorem ef_lst {ta : TA} {R : List V → Hp → Prop} (h : EA ta σ G R) (hl : ∀ vs G', R vs G' → vs.length ≤ 1000) (hP : ∀ p vs G', Ex G G' → G p = none → G' p = none → R vs G' → P (.ref p) (upd G' p (.lst vs))) : EF (tLst ta) σ G P := fun H e Q q =>
  h H e _ fun vs G1 H1 g1 p1 => ⟨Nat.le_trans (hl vs G1 p1) (by decide), fun p hp => q _ _ _ (g1.trans (.new g1.ok hp)) (hP p vs G1 g1.up (none_back (g1.up.trans g1.ok) hp) (none_back g1.ok hp) p1)⟩
theorem ef_cb {r : List V → Hp → VK → Prop} {ta : TA} {R : List V → Hp → Prop} (h : EA ta σ G R) (hr : ∀ vs G', Ex G G' → R vs G' → RA r vs G' P) : EF (tCB r ta) σ G P := fun H e Q q =>
  h H e _ fun vs G1 H1 g1 p1 => hr vs G1 g1.up p1 H1 g1.ok Q fun v G2 H2 g2 p2 => q v G2 H2 (g1.trans g2) p2
theorem ef_call {sp : Sp} {dvs : List V} {E : XK} {ta : TA} {R : List V → Hp → Prop} (h : EA ta σ G R) (hr : ∀ vs G', Ex G G' → R vs G' → SA sp (vs ++ dvs) G' P) : EF (tCall sp dvs E ta) σ G P := fun H e Q q =>
  h H e _ fun vs G1 H1 g1 p1 => hr vs G1 g1.up p1 H1 g1.ok Q E fun v G2 H2 g2 p2 => q v G2 H2 (g1.trans g2) p2
/-- o.m(..), o known -/
theorem ef_meth {C : Addr} {m : Str} {sp : Sp} {dvs : List V} {E : XK} {ta : TA} {to : TE} {R : List V → Hp → Prop} {a : Addr} (ho : EF to σ G (XV (.ref a))) (hI : ∃ dx fs, G a = some (.ins C dx fs) ∧ fs.lookup m = none) (h : EA ta σ G R)
    (hr : ∀ vs G', Ex G G' → R vs G' → SA sp (.ref a :: (vs ++ dvs)) G' P) : EF (tMeth C m sp dvs E to ta) σ G P := fun H e Q q =>
  ho H e _ fun x G1 H1 g1 p1 => by
    obtain ⟨dx, fs, h1, h2⟩ := hI
    cases (show x = .ref a from p1)
    refine ⟨a, dx, fs, rfl, g1.hp _ _ (e _ _ h1), h2, h H1 (g1.up.trans g1.ok) _ fun vs G2 H2 g2 p2 => ?_⟩
    exact hr vs G2 g2.up p2 H2 g2.ok Q E fun v G3 H3 g3 p3 => q v G3 H3 (Gr.trans ⟨g2.up, g2.ok, g1.hp.trans g2.hp, fun a h g => g2.2.2.2 a (exNe g1.hp h) g⟩ g3) p3
/-- o.f -/
theorem ef_fld {C dx : Addr} {fs : List (Str × V)} {f : Str} {a : Addr} (ho : EF ta σ G (XV (.ref a))) (hI : G a = some (.ins C dx fs)) (hc : Cls K C) (hn : NoAttr K C f) (hl : fs.lookup f = some v) (hp : P v G) : EF (tFld K ta f) σ G P := fun H e Q q =>
  ho H e _ fun x G1 H1 g1 p1 => ⟨a, C, dx, fs, v, p1, g1.hp _ _ (e _ _ hI), hc, hn, hl, q v G H1 (.same e g1.hp) hp⟩
/-! data: items, membership, equality, len -/
theorem ixN_nat {n j : Nat} (hj : j < n) : ixN n (j : Int) = some j := Evl.ixN_nat hj
theorem atI_of {α : Type} {xs : List α} {j : Nat} {v : α} {i : Int} (e : i = (j : Int)) (h : xs[j]? = some v) : atI xs i = some v := by
  rw [e]
  unfold atI
  rw [Evl.ixN_nat (List.getElem?_eq_some_iff.mp h).1]
  exact h
theorem ed_ixL {ds : List PyData} {q : Int → Prop} (ha : EF ta σ G (DV K (.list ds))) (hb : EF tb σ G (IV q)) (h : ∀ i, q i → ∃ (j : Nat) (d : PyData), i = (j : Int) ∧ ds[j]? = some d ∧ ∀ v G', Dp K G' v d → P v G') : EF (tOp (rIxL K) ta tb) σ G P :=
  ef_op mo_DV mo_IV ha hb fun x y G' _ hx hy => by
    obtain ⟨i, rfl, qi⟩ := hy
    obtain ⟨a, xs, rfl, hs, hall⟩ := dp_lst hx
    obtain ⟨j, d, ej, hd, hP⟩ := h i qi
    obtain ⟨v, hv, dv⟩ := dpa_get' hall hd
    exact fun H e Q k => ⟨a, xs, i, v, rfl, rfl, Evl.ex_l e hs, atI_of ej hv, k v G' H (.refl e) (hP v G' dv)⟩
theorem ed_ixT {ds : List PyData} {q : Int → Prop} (ha : EF ta σ G (DV K (.tuple ds))) (hb : EF tb σ G (IV q)) (h : ∀ i, q i → ∃ (j : Nat) (d : PyData), i = (j : Int) ∧ ds[j]? = some d ∧ ∀ v G', Dp K G' v d → P v G') : EF (tOp (rIxT K) ta tb) σ G P :=
  ef_op mo_DV mo_IV ha hb fun x y G' _ hx hy => by
    obtain ⟨i, rfl, qi⟩ := hy
    obtain ⟨a, xs, rfl, hs, hall⟩ := dp_tup hx
    obtain ⟨j, d, ej, hd, hP⟩ := h i qi
    obtain ⟨v, hv, dv⟩ := dpa_get' hall hd
    exact fun H e Q k => ⟨a, xs, i, v, rfl, rfl, Evl.ex_t e hs, atI_of ej hv, k v G' H (.refl e) (hP v G' dv)⟩
theorem ed_inD {d : PyData} {ds : List PyData} (ha : EF ta σ G (DV K d)) (hb : EF tb σ G (DV K (.list ds))) (sd : SeqAt.shaped d = true) (sl : SeqAt.shaped (.list ds) = true) : EF (tOp (rInD K) ta tb) σ G (BV (· = ds.any fun z => PyData.eqv z d)) :=
  ef_op mo_DV mo_DV ha hb fun x y G' _ hx hy => fun H e Q k => ⟨d, ds, dpx hx e, dpx hy e, sd, sl, k _ G' H (.refl e) ⟨_, rfl, rfl⟩⟩
theorem ed_niD {d : PyData} {ds : List PyData} (ha : EF ta σ G (DV K d)) (hb : EF tb σ G (DV K (.list ds))) (sd : SeqAt.shaped d = true) (sl : SeqAt.shaped (.list ds) = true) : EF (tOp (rNotInD K) ta tb) σ G (BV (· = !ds.any fun z => PyData.eqv z d)) :=
  ef_op mo_DV mo_DV ha hb fun x y G' _ hx hy => fun H e Q k => ⟨d, ds, dpx hx e, dpx hy e, sd, sl, k _ G' H (.refl e) ⟨_, rfl, rfl⟩⟩
theorem ei_eq {p q : Int → Prop} {s : Bool → Prop} (ha : EF ta σ G (IV p)) (hb : EF tb σ G (IV q)) (h : ∀ a b, p a → q b → s (decide (a = b))) : EF (tOp rEq ta tb) σ G (BV s) :=
  ef_op mo_IV mo_IV ha hb fun x y G' _ hx hy => by
    obtain ⟨a, rfl, pa⟩ := hx
    obtain ⟨b, rfl, pb⟩ := hy
    refine fun H e Q k => ⟨rfl, k _ G' H (.refl e) ⟨_, rfl, ?_⟩⟩
    have e2 : decide (V.int a = V.int b) = decide (a = b) := by
      by_cases c : a = b
      · rw [c]; simp
      · rw [decide_eq_false c, decide_eq_false fun z => c (V.int.inj z)]
    rw [e2]
    exact h a b pa pb
theorem ei_ne {p q : Int → Prop} {s : Bool → Prop} (ha : EF ta σ G (IV p)) (hb : EF tb σ G (IV q)) (h : ∀ a b, p a → q b → s (!decide (a = b))) : EF (tOp rNe ta tb) σ G (BV s) :=
  ef_op mo_IV mo_IV ha hb fun x y G' _ hx hy => by
    obtain ⟨a, rfl, pa⟩ := hx
    obtain ⟨b, rfl, pb⟩ := hy
    refine fun H e Q k => ⟨rfl, k _ G' H (.refl e) ⟨_, rfl, ?_⟩⟩
    have e2 : decide (V.int a = V.int b) = decide (a = b) := by
      by_cases c : a = b
      · rw [c]; simp
      · rw [decide_eq_false c, decide_eq_false fun z => c (V.int.inj z)]
    rw [e2]
    exact h a b pa pb
theorem ed_lenL {ds : List PyData} (ha : EF ta σ G (DV K (.list ds))) : EF (tCB (Evl.rLenS K) (tCons ta tNil)) σ G (IV (· = (ds.length : Int))) := fun H e Q q => ha H e _ fun x G1 H1 g1 hx => by
  obtain ⟨a, xs, rfl, hs, hall⟩ := dp_lst hx
  refine ⟨a, xs, rfl, .inl (Evl.ex_l g1.ok hs), q _ G1 H1 g1 ⟨_, rfl, ?_⟩⟩
  rw [dpa_len hall]
theorem ed_list {ds : List PyData} (ha : EF ta σ G (DV K (.list ds))) : EF (tCB (Evl.rListS K) (tCons ta tNil)) σ G (fun v G' => ∃ p xs, v = .ref p ∧ G p = none ∧ G' p = some (.lst xs) ∧ DpAll K G' xs ds) := fun H e Q q => ha H e _ fun x G1 H1 g1 hx => by
  obtain ⟨a, xs, rfl, hs, hall⟩ := dp_lst hx
  refine ⟨a, xs, rfl, .inl (Evl.ex_l g1.ok hs), fun l hl => ?_⟩
  exact q _ _ _ (g1.trans (.new g1.ok hl)) ⟨l, xs, rfl, none_back (g1.up.trans g1.ok) hl, upd_same, dpax hall (ex_in (none_back g1.ok hl))⟩
end
end Lw

set_option Elab.async false
set_option linter.all false
set_option maxRecDepth 100000
set_option maxHeartbeats 4000000
/-! sorted of triples (int, text, int) whose first ints differ -/
namespace Lw
open PySem L2
open Evl (Ex)
open PyProof.Rows
section
variable {prog : Program} {w : World} {A : Around} {E : Value → Shared → Prop} {s : Shared}
def IsTr (h : Heap) (v : Value) (x : Int) : Prop := ∃ a o t y u z n m, v = .ref a ∧ h.get? a = some o ∧ o.cls = .type "tuple" ∧ o.data = .seq #[.int x t, .str y u, .int z n] m
theorem IsTr.keeps {h h' : Heap} {v : Value} {x : Int} (p : IsTr h v x) (k : ∀ b o, h.get? b = some o → o.cls = .type "tuple" → h'.get? b = some o) : IsTr h' v x := by
  obtain ⟨a, o, t, y, u, z, n, m, e, ho, hc, hd⟩ := p
  exact ⟨a, o, t, y, u, z, n, m, e, k a o ho hc, hc, hd⟩
theorem tr_firsts {h : Heap} {k : Value → Int} : ∀ {vs : List Value}, (∀ v ∈ vs, IsTr h v (k v)) → ∃ fs : List Value, PySem.W.KatTups h vs fs ∧ fs.length = vs.length ∧ ∀ f ∈ fs, ∃ x t, f = Value.int x t
  | [], _ => ⟨[], PySem.W.KatTups.nil, rfl, fun _ hm => by simp at hm⟩
  | v :: vs, hp => by
    obtain ⟨fs, h1, h2, h3⟩ := tr_firsts (k := k) (vs := vs) fun v' hm => hp v' (List.mem_cons_of_mem _ hm)
    have hv := hp v (List.mem_cons_self ..)
    generalize k v = x at hv
    obtain ⟨a, o, t, y, u, z, n, m, e, ho, hc, hd⟩ := hv
    subst e
    refine ⟨.int x t :: fs, PySem.W.KatTups.cons ho hc hd rfl h1, by rw [List.length_cons, List.length_cons, h2], fun f hm => ?_⟩
    rcases List.mem_cons.mp hm with rfl | hm
    · exact ⟨x, t, rfl⟩
    · exact h3 f hm
abbrev ltK (k : Value → Int) (v u : Value) : Bool := decide (k v < k u)
theorem ltK_swo (k : Value → Int) : SrtO.Swo (ltK k) := by
  refine ⟨fun x y h => ?_, fun x y z h1 h2 => ?_⟩
  · have a := of_decide_eq_true h
    exact decide_eq_false (by omega)
  · have a := of_decide_eq_false h1
    have b := of_decide_eq_false h2
    exact decide_eq_false (by omega)
theorem tr_cmp {vs : List Value} {k : Value → Int} (hp : ∀ v ∈ vs, IsTr s.heap v (k v)) (hi : ∀ v ∈ vs, ∀ u ∈ vs, k v = k u → v = u) : SrtO.Cmp prog w A s (tuples' true) (fun p => p.1 ∈ vs) (SrtO.lt2 (ltK k)) := by
  intro p q hm hm'
  have h1 := hp _ hm
  have h2 := hp _ hm'
  have hin := hi _ hm _ hm'
  show wpAny (model prog w) A (keyLt' (tuples' true) p.1 q.1) (fun r s' => s' = s ∧ r = decide (k p.1 < k q.1)) (fun _ _ => False) s
  by_cases hk : k p.1 = k q.1
  · have e0 := hin hk
    rw [e0] at h1 ⊢
    generalize k q.1 = x at h1 ⊢
    obtain ⟨a, o, t, y, u, z, n, m, e, ho, hc, hd⟩ := h1
    rw [e]
    refine PySem.W.kat_lt ho hd ho hd ?_
    show PySem.W.KatLex prog w A true (decide (3 < 3)) _ [(.int x t, .int x t), (.str y u, .str y u), (.int z n, .int z n)] 0 s
    refine PySem.W.kat_cons (SeqAt.EqAt.int_int x t x t prog w _ _ ?_)
    refine PySem.W.kat_go (fun _ => ?_) (fun e1 => absurd e1 (by simp))
    refine PySem.W.kat_yes (PySem.W.kat_cons (SeqAt.EqAt.str_str y u y u prog w _ _ ?_))
    refine PySem.W.kat_go (fun _ => ?_) (fun e1 => absurd e1 (by simp))
    refine PySem.W.kat_yes (PySem.W.kat_cons (SeqAt.EqAt.int_int z n z n prog w _ _ ?_))
    refine PySem.W.kat_go (fun _ => ?_) (fun e1 => absurd e1 (by simp))
    exact PySem.W.kat_yes (PySem.W.kat_nil ⟨rfl, (decide_eq_false (Int.lt_irrefl x)).symm⟩)
  · generalize k p.1 = x at h1 hk ⊢
    generalize k q.1 = x' at h2 hk ⊢
    obtain ⟨a, o, t, y, u, z, n, m, e, ho, hc, hd⟩ := h1
    obtain ⟨a', o', t', y', u', z', n', m', e', ho', hc', hd'⟩ := h2
    rw [e, e']
    refine PySem.W.kat_lt ho hd ho' hd' ?_
    show PySem.W.KatLex prog w A true (decide (3 < 3)) _ [(.int x t, .int x' t'), (.str y u, .str y' u'), (.int z n, .int z' n')] 0 s
    refine PySem.W.kat_cons (SeqAt.EqAt.int_int x t x' t' prog w _ _ ?_)
    refine PySem.W.kat_go (fun e1 => absurd (by simpa using e1) hk) (fun _ => ?_)
    exact PySem.W.kat_no (PyProof.Rows.oneLt_int ⟨rfl, rfl⟩)
theorem tr_sortable {a : Addr} {vs : List Value} {k : Value → Int} (h0 : 0 < vs.length) (hp : ∀ v ∈ vs, IsTr s.heap v (k v)) (hi : ∀ v ∈ vs, ∀ u ∈ vs, k v = k u → v = u) (ha : ∀ o, s.heap.get? a = some o → o.cls ≠ .type "tuple") : SrtO.SortableO prog w A s a vs (ltK k) := by
  intro h' keep
  have hp' : ∀ v ∈ vs, IsTr h' v (k v) := fun v hm => (hp v hm).keeps fun b o e c => keep b o (fun z => by subst z; exact ha o e c) e
  obtain ⟨fs, h1, h2, h3⟩ := tr_firsts hp'
  refine ⟨tuples' true, fun Q E hq => ?_, tr_cmp hp' hi⟩
  refine PySem.W.kat_kind (T := .type "int") h1 (by omega) (fun f hm => ?_) (by rfl) ?_
  · obtain ⟨x, t, rfl⟩ := h3 f hm
    exact PySem.W.Looks.now
  · have e : (Value.type "int" != Value.type "tuple") = true := by first | decide +kernel | rfl | decide
    rw [e]
    exact hq
theorem sorted_tr {l : Addr} {vs : List Value} {k : Value → Int} {Q : Value → Shared → Prop} (hl : s.heap.IsList l vs.toArray) (hz : vs.length ≤ sizeLine) (hp : ∀ v ∈ vs, IsTr s.heap v (k v)) (hi : ∀ v ∈ vs, ∀ u ∈ vs, k v = k u → v = u)
    (h : ∀ (h' : Heap) (d : Addr) (out : List Value), SrtO.Srtd (ltK k) out → SrtO.Stb (ltK k) out vs → (∀ b o, s.heap.get? b = some o → h'.get? b = some o) → s.heap.objs.size ≤ d → (∃ n, h'.get? d = some (seqObj "list" out.toArray n)) → Q (.ref d) { s with heap := h' }) :
    wpAny (model prog w) A (call (.builtin "sorted") [.ref l]) Q E s := by
  refine SrtO.sorted_ord (ltK_swo k) hl hz (fun h2 h₁ a ha kk => ?_) fun out hs hb => ?_
  · refine tr_sortable (s := { s with heap := h₁ }) (by omega) (fun v hm => (hp v hm).keeps fun b o e _ => (kk b o e).2) hi fun o e => ?_
    have e' : some o = some (seqObj "list" vs.toArray 0) := e.symm.trans ha
    cases e'
    intro c
    exact absurd (Value.type.inj c) (by decide)
  · exact h _ _ out hs hb (fun b o e => sortedAll_old e) (Nat.le_succ _) (sortedAll_at s.heap vs out.toArray)
end
/-- sorted(xs), xs triples with different first ints: the list by these -/
def rSortTr (K : PySem.W.Frag) : List V → Hp → VK → Prop := fun vs H Q => ∃ (a : Addr) (xs : List V) (k : V → Int), vs = [V.ref a] ∧ SqL K H a xs ∧ (∀ x ∈ xs, ∃ t y z, x = V.ref t ∧ H t = some (.tup [.int (k x), .str y, .int z])) ∧ (∀ x ∈ xs, ∀ y ∈ xs, k x = k y → x = y) ∧
  ∀ ys p, ys.Pairwise (fun x y => ¬ k y < k x) → ys.Perm xs → H p = none → Q (.ref p) (upd H p (.lst ys))
section
variable {X : Cx}
theorem cr_sortTr : CallR X (.builtin "sorted") (rSortTr X.K) := by
  intro pins s σ H vs us Q I r h
  obtain ⟨a, xs, k, rfl, hs, hx, hi, q⟩ := h
  obtain ⟨its, rv, hl, hz⟩ := I.list hs
  obtain ⟨u, rfl, ru⟩ := vals1 r
  obtain rfl : u = Value.ref a := ru
  obtain ⟨e1, e2⟩ := refs_back rv fun x m => by
    obtain ⟨t, _, _, e, _⟩ := hx x m
    exact ⟨t, e⟩
  refine sorted_tr (k := fun u => k (backV u)) hl.isList (by rw [← rv.length]; exact hz) (fun v hv => ?_) (fun v hv u hu e => ?_) fun h' d out h1 h2 kp hd hn => ?_
  · obtain ⟨t, rfl⟩ := e2 v hv
    have hm : V.ref t ∈ xs := by rw [e1]; exact List.mem_map.mpr ⟨_, hv, rfl⟩
    obtain ⟨t', y, z, e, ht⟩ := hx _ hm
    cases e
    obtain ⟨_, its2, r2, o, ho, hc, n, hd⟩ := I.hok _ _ ht
    obtain ⟨u1, us2, rfl, ri, r3⟩ : ∃ u1 us2, its2 = u1 :: us2 ∧ RelV (.int (k (.ref t))) u1 ∧ Vals [.str y, .int z] us2 := by
      cases r2 with
      | cons p q => exact ⟨_, _, rfl, p, q⟩
    obtain ⟨u2, u3, rfl, rj, rz⟩ := vals2 r3
    obtain ⟨t1, rfl⟩ := ri
    obtain ⟨t2, rfl⟩ := rj
    obtain ⟨t3, rfl⟩ := rz
    exact ⟨t, o, t1, y, t2, z, t3, n, rfl, ho, hc, hd⟩
  · obtain ⟨t, rfl⟩ := e2 v hv
    obtain ⟨t', rfl⟩ := e2 u hu
    have hm : V.ref t ∈ xs := by rw [e1]; exact List.mem_map.mpr ⟨_, hv, rfl⟩
    have hm' : V.ref t' ∈ xs := by rw [e1]; exact List.mem_map.mpr ⟨_, hu, rfl⟩
    have z := hi _ hm _ hm' e
    cases z
    rfl
  · have h3 : ∀ u ∈ out, ∃ a, u = Value.ref a := fun u hu => e2 u (h2.perm.mem_iff.mp hu)
    obtain ⟨n, hn⟩ := hn
    have hb : (out.map backV).Perm xs := by
      rw [e1]
      exact h2.perm.map backV
    refine ⟨.ref d, upd H d (.lst (out.map backV)), I.laid (t' := s.toks) kp hd ⟨?_, out, n, vals_back h3, hn⟩, rfl, q _ d ?_ hb (I.hok.fresh hd)⟩
    · rw [hb.length_eq]
      exact hz
    · refine List.pairwise_map.mpr (List.Pairwise.imp (fun {a b} hab => ?_) h1)
      have := of_decide_eq_false hab
      exact this
end
end Lw

set_option Elab.async false
set_option linter.all false
set_option maxRecDepth 100000
set_option maxHeartbeats 4000000
/-! statements, loops, comprehensions -/
namespace Lw
open PySem L2
open Evl (Ex)
section
variable {K : PySem.W.Frag} {σ : L2.St} {G G' H H' : Hp} {ta tb te tx : TE} {t u : TT} {x y z v : V} {r : R2} {P Pa Pb : VP} {D : Ends} {tu tw : TS} {g : TG}
theorem st_asg {i : Nat} (hG : Ex G H) (h : EF te σ G P) (k : ∀ v G' H', Gr G G' H H' → P v G' → D.nx (σ.set i (some v)) H') : tAsg te (gName i) D σ H := h H hG _ k
theorem st_ret (hG : Ex G H) (h : EF te σ G P) (k : ∀ v G' H', Gr G G' H H' → P v G' → D.rt v H') : tRet te D σ H := h H hG _ k
theorem st_drop (hG : Ex G H) (h : EF te σ G P) (k : ∀ v G' H', Gr G G' H H' → P v G' → D.nx σ H') : tDrop te D σ H := h H hG _ k
theorem st_if {p : Bool → Prop} (hG : Ex G H) (h : ET t σ G p) (h1 : p true → ∀ H', Ex H H' → tu D σ H') (h2 : p false → ∀ H', Ex H H' → tw D σ H') : tIfS t tu tw D σ H := h H hG _ fun b H' e pb => by
  cases b with
  | true =>
    show tu D σ H'
    exact h1 pb H' e
  | false =>
    show tw D σ H'
    exact h2 pb H' e
/-- an if that is never gone -/
theorem st_if0 (hG : Ex G H) (h : ET t σ G (· = false)) (h2 : ∀ H', Ex H H' → tw D σ H') : tIfS t tu tw D σ H := st_if hG h (fun z => nomatch z) fun _ => h2
/-- l.append(e): l a list that H alone tells -/
theorem st_app {l : Addr} {xs : List V} (hG : Ex G H) (hl : H l = some (.lst xs)) (ho : EF ta σ G (XV (.ref l))) (h : EF te σ G P) (hz : xs.length < 1000) (k : ∀ v G' H', Gr G G' H H' → P v G' → D.nx σ (upd H' l (.lst (xs ++ [v])))) :
    tDrop (tBM K "list" rAppend ta (tCons te tNil)) D σ H := ho H hG _ fun v1 G1 H1 g1 p1 => by
  cases (show v1 = .ref l from p1)
  refine ⟨.inl ⟨rfl, xs, Evl.sq_of (g1.hp _ _ hl)⟩, h H1 (hG.trans g1.hp) _ fun v2 G2 H2 g2 p2 => ?_⟩
  refine ⟨l, xs, v2, rfl, rfl, g2.hp _ _ (g1.hp _ _ hl), Nat.lt_of_lt_of_le hz (by decide), ?_⟩
  exact k v2 G2 H2 ⟨g2.up, g2.ok, g1.hp.trans g2.hp, fun a h g => g2.2.2.2 a (exNe g1.hp h) g⟩ p2
theorem st_forR1 {j : Nat} {n : Int} {ta : TA} (hG : Ex G H) (h : EA ta σ G fun vs _ => vs = [.int n]) (hn : n ≤ 100000) (hn0 : -100000 ≤ n) (W : Nat → L2.St → Hp → Prop) (h0 : ∀ H', Ex H H' → W 0 σ H')
    (hs : ∀ (i : Nat) σ' H', (i : Int) < n → W i σ' H' → tu { D with nx := W (i + 1), ct := W (i + 1), bk := D.nx } (σ'.set j (some (.int (i : Int)))) H') (hd : ∀ σ' H', W n.toNat σ' H' → D.nx σ' H') : tFor (iRng1 ta) (gName j) tu D σ H :=
  h H hG _ fun vs G1 H1 g1 e => ⟨n, e, by omega, by omega, for_range (lo := 0) (n := n.toNat) W (h0 H1 g1.hp) (fun i σ' H' hi p => by
    have e0 : (0 : Int) + (i : Int) = (i : Int) := Int.zero_add _
    show tu { D with nx := W (i + 1), ct := W (i + 1), bk := D.nx } (σ'.set j (some (.int ((0 : Int) + (i : Int))))) H'
    rw [e0]
    exact hs i σ' H' (by omega) p) hd⟩
theorem st_forR2 {j : Nat} {lo n : Int} {ta : TA} (hG : Ex G H) (h : EA ta σ G fun vs _ => vs = [.int lo, .int n]) (hn : 0 ≤ lo ∧ lo ≤ 100000 ∧ -100000 ≤ n ∧ n ≤ 100000) (W : Nat → L2.St → Hp → Prop) (h0 : ∀ H', Ex H H' → W 0 σ H')
    (hs : ∀ (i : Nat) σ' H', lo + (i : Int) < n → W i σ' H' → tu { D with nx := W (i + 1), ct := W (i + 1), bk := D.nx } (σ'.set j (some (.int (lo + (i : Int))))) H') (hd : ∀ σ' H', W (n - lo).toNat σ' H' → D.nx σ' H') : tFor (iRng2 ta) (gName j) tu D σ H :=
  h H hG _ fun vs G1 H1 g1 e => ⟨lo, n, e, ⟨by omega, by omega, by omega, by omega⟩, for_range (lo := lo) (n := (n - lo).toNat) W (h0 H1 g1.hp) (fun i σ' H' hi p => hs i σ' H' (by omega) p) hd⟩
/-- over a list that stays -/
theorem st_forL {xs : List V} {tl : TE} (hG : Ex G H) (h : EF tl σ G fun v G' => ∃ a, v = .ref a ∧ SqL K G' a xs) (W : Nat → L2.St → Hp → Prop) (h0 : ∀ G' H', Gr G G' H H' → W 0 σ H')
    (hl : ∀ G' H1 a, Gr G G' H H1 → SqL K G' a xs → ∀ i σ' H', i ≤ xs.length → W i σ' H' → SqL K H' a xs)
    (hs : ∀ i x σ' H', xs[i]? = some x → W i σ' H' → g x σ' H' fun σ2 H2 => tu { D with nx := W (i + 1), ct := W (i + 1), bk := D.nx } σ2 H2) (hd : ∀ σ' H', W xs.length σ' H' → D.nx σ' H') : tFor (iList K tl) g tu D σ H :=
  h H hG _ fun v G1 H1 g1 ⟨a, e, hx⟩ => ⟨a, e, ⟨xs, Evl.ex_l g1.ok hx⟩, for_list W (h0 G1 H1 g1) (hl G1 H1 a g1 hx) hs hd⟩

/-! ### comprehensions -/
/-- one turn: none, or a value -/
def EC (t : TT) (te : TE) (σ : L2.St) (G : Hp) (N : Hp → Prop) (Y : VP) : Prop := ∀ H, Ex G H → ∀ R : Option V → Hp → Prop, (∀ H', Ex H H' → N G → R none H') → (∀ y G' H', Gr G G' H H' → Y y G' → R (some y) H') →
  t σ H fun b H3 => if b = true then te σ H3 fun y H4 => R (some y) H4 else R none H3
theorem ec_all {N : Hp → Prop} {Y : VP} (h : EF te σ G Y) : EC tYes te σ G N Y := fun H e R _ k => by
  show if true = true then te σ H fun y H4 => R (some y) H4 else R none H
  rw [if_pos rfl]
  exact h H e _ k
theorem ec_if {p : Bool → Prop} {N : Hp → Prop} {Y : VP} (ht : ET t σ G p) (h : p true → EF te σ G Y) (hn : p false → N G) : EC t te σ G N Y := fun H e R k0 k => ht H e _ fun b H1 e1 pb => by
  cases b with
  | true =>
    rw [if_pos rfl]
    exact h pb H1 (e.trans e1) _ fun y G2 H2 g2 p2 => k y G2 H2 ⟨g2.up, g2.ok, e1.trans g2.hp, fun a h g => g2.2.2.2 a (exNe e1 h) g⟩ p2
  | false =>
    rw [if_neg Bool.false_ne_true]
    exact k0 H1 e1 (hn pb)
/-- the state between two turns: D the list that is made -/
def CW (G H1 : Hp) (D : Addr) (I : Nat → List V → Hp → Prop) (i : Nat) (H' : Hp) : Prop := ∃ G' xs, Ex G G' ∧ Ex G' H' ∧ G' D = none ∧ H' D = some (.lst xs) ∧ xs.length ≤ i ∧ I i xs G' ∧ Ex H1 H' ∧ ∀ a, H1 a ≠ none → G a = none → G' a = none
theorem cw_start {G H1 : Hp} {D : Addr} {I : Nat → List V → Hp → Prop} (e : Ex G H1) (hD : H1 D = none) (h0 : I 0 [] G) : CW G H1 D I 0 (upd H1 D (.lst [])) :=
  ⟨G, [], Ex.refl G, ex_off e (none_back e hD), none_back e hD, upd_same, Nat.le_refl _, h0, Ex.new hD, fun _ _ h => h⟩
theorem cw_turn {G H1 : Hp} {D : Addr} {I : Nat → List V → Hp → Prop} {i : Nat} {H' : Hp} {t : TT} {te : TE} {σ2 : L2.St} (hD : H1 D = none) (p : CW G H1 D I i H') (hi : i < 50000)
    (h : ∀ xs G', Ex G G' → I i xs G' → EC t te σ2 G' (fun G' => I (i + 1) xs G') fun y G' => I (i + 1) (xs ++ [y]) G') :
    t σ2 H' fun b H3 => if b = true then te σ2 H3 fun y H4 => ∃ acc, H4 D = some (.lst acc) ∧ acc.length < sizeLine ∧ CW G H1 D I (i + 1) (upd H4 D (.lst (acc ++ [y]))) else CW G H1 D I (i + 1) H3 := by
  obtain ⟨G', xs, e1, e2, gD, hd, hl, hI, e3, hc⟩ := p
  refine h xs G' e1 hI H' e2 (fun o H4 => match o with | some y => ∃ acc, H4 D = some (.lst acc) ∧ acc.length < sizeLine ∧ CW G H1 D I (i + 1) (upd H4 D (.lst (acc ++ [y]))) | none => CW G H1 D I (i + 1) H4) (fun H4 e4 hN => ?_) (fun y G2 H4 g4 hy => ?_)
  · exact ⟨G', xs, e1, e2.trans e4, gD, e4 _ _ hd, Nat.le_succ_of_le hl, hN, e3.trans e4, hc⟩
  · have g2D : G2 D = none := g4.2.2.2 D (ne_none_of hd) gD
    refine ⟨xs, g4.hp _ _ hd, Nat.lt_of_le_of_lt hl (Nat.lt_of_lt_of_le hi (by decide)), G2, xs ++ [y], e1.trans g4.up, ex_off g4.ok g2D, g2D, upd_same, by rw [List.length_append, List.length_singleton]; omega, hy, ?_, fun a h g => g4.2.2.2 a (exNe e3 h) (hc a h g)⟩
    exact ex_off (e3.trans g4.hp) hD
theorem cw_end {G H1 : Hp} {D : Addr} {I : Nat → List V → Hp → Prop} {i : Nat} {H' : Hp} {P : VP} {Q : VK} (hD : H1 D = none) (e : Ex G H1) (p : CW G H1 D I i H') (hP : ∀ p xs G', G p = none → G' p = none → Ex G G' → xs.length ≤ i → I i xs G' → P (.ref p) (upd G' p (.lst xs)))
    (q : ∀ v G' H', Gr G G' H1 H' → P v G' → Q v H') : Q (.ref D) H' := by
  obtain ⟨G', xs, e1, e2, gD, hd, hl, hI, e3, hc⟩ := p
  refine q _ (upd G' D (.lst xs)) H' ⟨e1.trans (ex_in gD), ex_know e2 hd, e3, fun a h g => ?_⟩ (hP D xs G' (none_back e hD) gD e1 hl hI)
  rw [upd_ne (fun z => h (by rw [z]; exact hD))]
  exact hc a h g
theorem ef_lcR1 {ta : TA} {j : Nat} {vs : List Nat} {n : Int} (I : Nat → List V → Hp → Prop) (h : EA ta σ G fun us _ => us = [.int n]) (hn : 0 ≤ n ∧ n ≤ 40000) (hw : ∀ x, wipe ((wipe σ vs).set j (some x)) vs = wipe σ vs) (h0 : ∀ G', Ex G G' → I 0 [] G')
    (hs : ∀ (i : Nat) xs G', Ex G G' → (i : Int) < n → I i xs G' → EC t te ((wipe σ vs).set j (some (.int (i : Int)))) G' (fun G' => I (i + 1) xs G') fun y G' => I (i + 1) (xs ++ [y]) G')
    (hP : ∀ p xs G', G p = none → G' p = none → Ex G G' → xs.length ≤ n.toNat → I n.toNat xs G' → P (.ref p) (upd G' p (.lst xs))) : EF (tLc (iRng1 ta) (gName j) t te vs) σ G P := fun H0 e Q q => h H0 e _ fun us G1 H1 g1 ev => ⟨n, ev, by omega, by omega, fun Dl hD =>
  lc_range (lo := 0) (n := n.toNat) (CW G1 H1 Dl I) (cw_start g1.ok hD (h0 G1 g1.up)) (fun i H' hi p => by
    have e0 : (0 : Int) + (i : Int) = (i : Int) := Int.zero_add _
    show wipe ((wipe σ vs).set j (some (.int ((0 : Int) + (i : Int))))) vs = wipe σ vs ∧ t ((wipe σ vs).set j (some (.int ((0 : Int) + (i : Int))))) H' fun b H3 => if b = true then te ((wipe σ vs).set j (some (.int ((0 : Int) + (i : Int))))) H3 fun y H4 => ∃ acc, H4 Dl = some (.lst acc) ∧ acc.length < sizeLine ∧ CW G1 H1 Dl I (i + 1) (upd H4 Dl (.lst (acc ++ [y]))) else CW G1 H1 Dl I (i + 1) H3
    rw [e0]
    exact ⟨hw _, cw_turn hD p (by omega) fun xs G' e' hI => hs i xs G' (g1.up.trans e') (by omega) hI⟩) (fun H' p => cw_end (P := P) hD g1.ok p (fun p xs G' g g' e' hl hI => hP p xs G' (none_back g1.up g) g' (g1.up.trans e') hl hI) fun v G' H' g' p' => q v G' H' (g1.trans g') p')⟩
theorem ef_lcL {xs : List V} {tl : TE} {j : Nat} {vs : List Nat} (I : Nat → List V → Hp → Prop) (h : EF tl σ G fun v G' => ∃ a, v = .ref a ∧ SqL K G' a xs) (hz : xs.length ≤ 40000) (hw : ∀ x, wipe ((wipe σ vs).set j (some x)) vs = wipe σ vs) (h0 : ∀ G', Ex G G' → I 0 [] G')
    (hs : ∀ (i : Nat) x acc G', Ex G G' → xs[i]? = some x → I i acc G' → EC t te ((wipe σ vs).set j (some x)) G' (fun G' => I (i + 1) acc G') fun y G' => I (i + 1) (acc ++ [y]) G')
    (hP : ∀ p acc G', G p = none → G' p = none → Ex G G' → acc.length ≤ xs.length → I xs.length acc G' → P (.ref p) (upd G' p (.lst acc))) : EF (tLc (iList K tl) (gName j) t te vs) σ G P := fun H0 e Q q => h H0 e _ fun v G1 H1 g1 ⟨a, ev, hx⟩ => ⟨a, ev, ⟨xs, Evl.ex_l g1.ok hx⟩, fun Dl hD =>
  lc_list (xs := xs) (CW G1 H1 Dl I) (cw_start g1.ok hD (h0 G1 g1.up)) (fun i H' _ p => by
    obtain ⟨G', _, e1, e2, _⟩ := p
    exact Evl.ex_l (e1.trans e2) hx) (fun i x H' hi p => ⟨hw x, cw_turn hD p (by have := (List.getElem?_eq_some_iff.mp hi).1; omega) fun acc G' e' hI => hs i x acc G' (g1.up.trans e') hi hI⟩)
    (fun H' p => cw_end (P := P) hD g1.ok p (fun p xs G' g g' e' hl hI => hP p xs G' (none_back g1.up g) g' (g1.up.trans e') hl hI) fun v G' H' g' p' => q v G' H' (g1.trans g') p')⟩
theorem tyes_go {σ : L2.St} {H : Hp} {Q : Bool → Hp → Prop} (h : Q true H) : tYes σ H Q := h
/-- the same without its turns -/
def CX2 (G H1 : Hp) (D : Addr) (J : List V → Hp → Prop) (H' : Hp) : Prop := ∃ G' xs, Ex G G' ∧ Ex G' H' ∧ G' D = none ∧ H' D = some (.lst xs) ∧ J xs G' ∧ Ex H1 H' ∧ ∀ a, H1 a ≠ none → G a = none → G' a = none
/-- two for's: a range, and a list that the turn knows; no tests -/
theorem ef_lc2 {ta : TA} {tl : TE} {j j1 : Nat} {vs vs1 : List Nat} {n : Int} (ys : Nat → List V) (I : Nat → Nat → List V → Hp → Prop) (h : EA ta σ G fun us _ => us = [.int n]) (hn : 0 ≤ n ∧ n ≤ 1000) (hy : ∀ i, (ys i).length ≤ 1000)
    (hw : ∀ x, wipe ((wipe σ vs).set j (some x)) vs = wipe σ vs) (hw1 : ∀ x y, wipe ((wipe ((wipe σ vs).set j (some x)) vs1).set j1 (some y)) vs1 = wipe ((wipe σ vs).set j (some x)) vs1) (h0 : ∀ G', Ex G G' → I 0 0 [] G')
    (hx : ∀ (i : Nat) xs G', (i : Int) < n → I i (ys i).length xs G' → I (i + 1) 0 xs G')
    (hl : ∀ (i : Nat) G', Ex G G' → (i : Int) < n → EF tl ((wipe σ vs).set j (some (.int (i : Int)))) G' fun v G'' => ∃ a, v = .ref a ∧ SqL K G'' a (ys i))
    (hm : ∀ i k xs G' G'', Ex G' G'' → I i k xs G' → I i k xs G'')
    (hs : ∀ (i k : Nat) y xs G', Ex G G' → (i : Int) < n → (ys i)[k]? = some y → I i k xs G' → EF te ((wipe ((wipe σ vs).set j (some (.int (i : Int)))) vs1).set j1 (some y)) G' fun y G' => I i (k + 1) (xs ++ [y]) G')
    (hc : ∀ i k xs G', I i k xs G' → xs.length ≤ 1000000)
    (hP : ∀ p xs G', G p = none → G' p = none → Ex G G' → I n.toNat 0 xs G' → P (.ref p) (upd G' p (.lst xs))) : EF (tLc2 (iRng1 ta) (gName j) tYes (iList K tl) (gName j1) tYes te vs vs1) σ G P := fun H0 e Q q => h H0 e _ fun us G1 H1 g1 ev => by
  refine ⟨n, ev, by omega, by omega, fun Dl hD => ?_⟩
  refine ⟨fun i m H' => m = n.toNat - i ∧ i ≤ n.toNat ∧ CX2 G1 H1 Dl (I i 0) H', ⟨n.toNat, by simp, Nat.zero_le _, ?_⟩, ?_⟩
  · exact ⟨G1, [], Ex.refl _, ex_off g1.ok (none_back g1.ok hD), none_back g1.ok hD, upd_same, h0 G1 g1.up, Ex.new hD, fun _ _ h => h⟩
  · rintro i m H' ⟨rfl, hi, p⟩
    by_cases hlt : i < n.toNat
    · refine .inr ⟨hlt, fun H'' => CX2 G1 H1 Dl (I (i + 1) 0) H'', fun H'' p' => ⟨n.toNat - (i + 1), by omega, rfl, hlt, p'⟩, fun x H'' yy => ?_⟩
      obtain ⟨ey, yy⟩ := yy
      subst ey yy
      have e0 : (0 : Int) + (i : Int) = (i : Int) := Int.zero_add _
      rw [e0]
      refine ⟨hw _, ?_⟩
      refine tyes_go (iteT ?_)
      obtain ⟨G', xs, e1, e2, gD, hd, hI, e3, hcc⟩ := p
      refine hl i G' (g1.up.trans e1) (by omega) _ e2 _ fun v G2 H2 g2 ⟨a, ea, hsl⟩ => ?_
      refine ⟨a, ea, ⟨ys i, Evl.ex_l g2.ok hsl⟩, ?_⟩
      refine ⟨fun k m H' => m = (ys i).length - k ∧ k ≤ (ys i).length ∧ CX2 G1 H1 Dl (fun xs G3 => Ex G2 G3 ∧ I i k xs G3) H', ⟨(ys i).length, by simp, Nat.zero_le _, ?_⟩, ?_⟩
      · exact ⟨G2, xs, e1.trans g2.up, g2.ok, g2.2.2.2 Dl (ne_none_of hd) gD, g2.hp _ _ hd, ⟨Ex.refl _, hm _ _ _ _ _ g2.up hI⟩, e3.trans g2.hp, fun b hb gb => g2.2.2.2 b (exNe e3 hb) (hcc b hb gb)⟩
      · rintro k m H3 ⟨rfl, hk, p3⟩
        obtain ⟨G4, xs4, f1, f2, fD, fd, ⟨fe, fI⟩, f3, fc⟩ := p3
        have hsl3 := Evl.ex_l (fe.trans f2) hsl
        by_cases hkl : k < (ys i).length
        · refine .inr ⟨⟨ys i, (ys i)[k], hsl3, by simp [hkl]⟩, fun H'' => CX2 G1 H1 Dl (fun xs G3 => Ex G2 G3 ∧ I i (k + 1) xs G3) H'', fun H'' p' => ⟨(ys i).length - (k + 1), by omega, rfl, hkl, p'⟩, fun y H'' yy => ?_⟩
          obtain ⟨ey, yy⟩ := yy
          subst ey
          have hyk := yy (ys i) hsl3
          refine ⟨hw1 _ _, ?_⟩
          refine tyes_go (iteT ?_)
          refine hs i k y xs4 G4 (g1.up.trans f1) (by omega) hyk fI _ f2 _ fun v5 G5 H5 g5 p5 => ?_
          have g5D : G5 Dl = none := g5.2.2.2 Dl (ne_none_of fd) fD
          exact ⟨xs4, g5.hp _ _ fd, Nat.lt_of_le_of_lt (hc _ _ _ _ fI) (by decide), ⟨G5, xs4 ++ [v5], f1.trans g5.up, ex_off g5.ok g5D, g5D, upd_same, ⟨fe.trans g5.up, p5⟩, ex_off (f3.trans g5.hp) hD, fun b hb gb => g5.2.2.2 b (exNe f3 hb) (fc b hb gb)⟩⟩
        · have ek : k = (ys i).length := by omega
          subst ek
          exact .inl ⟨⟨ys i, hsl3, Nat.le_refl _⟩, G4, xs4, f1, f2, fD, fd, hx _ _ _ (by omega) fI, f3, fc⟩
    · have ei : i = n.toNat := by omega
      subst ei
      refine .inl ⟨Nat.le_refl _, ?_⟩
      obtain ⟨G', xs, e1, e2, gD, hd, hI, e3, hcc⟩ := p
      refine q _ (upd G' Dl (.lst xs)) H' (g1.trans ⟨e1.trans (ex_in gD), ex_know e2 hd, e3, fun a h g => ?_⟩) (hP Dl xs G' (none_back (g1.up.trans g1.ok) hD) gD (g1.up.trans e1) hI)
      rw [upd_ne (fun z => h (by rw [z]; exact hD))]
      exact hcc a h g
end
end Lw

set_option Elab.async false
set_option linter.all false
set_option maxRecDepth 100000
set_option maxHeartbeats 4000000
/-! x in o by an own __contains__; is None, is True of anything; own field stores -/
namespace Lw
open PySem L2
open Evl (Ex)
section
variable {X : Cx} {CX : CXT} {k : Nat} {f C : Addr} {fd : FuncData} {ps : List Str} {sp : Sp} {E : XK}
def rInOwn (neg : Bool) (C : Addr) (sp : Sp) (E : XK) : R2 := fun x y H Q => ∃ a dx fs, y = .ref a ∧ H a = some (.ins C dx fs) ∧ sp [.ref a, x] H (fun v H2 => ∃ b, v = .bl b ∧ Q (.bl (if neg then !b else b)) H2) E
theorem contains_own {pins : List (Addr × Obj)} {σ : L2.St} {H : Hp} {s : Shared} {a : Addr} {dx : Addr} {fs : List (Str × V)} {x : V} {v : Value} {Q' : Bool → Hp → Prop} (hm : Meth X.K C "__contains__" f) (F : FnOk X.prog X.w X.K X.mg X.base CX k f fd ps sp) (hr : Room k X.A) (hb : Binds X.K fd ps []) (hx : Passes CX X E)
    (I : Inv X pins σ H s) (rx : RelV x v) (ea : H a = some (.ins C dx fs)) (h : sp [.ref a, x] H (fun v H2 => ∃ b, v = .bl b ∧ Q' b H2) E) :
    wpAny (model X.prog X.w) X.A (contains (.ref a) v) (fun b s' => ∃ H', Inv X pins σ H' s' ∧ Q' b H') X.xe s := by
  obtain ⟨mA, O, _⟩ := ins_get I.hok ea
  obtain ⟨od, J, _⟩ := O.look
  unfold contains
  refine wpAny_holding (wpAny_bind (wpAny_bind (J.type.here ((PySem.W.looks_findIn I.kIn hm.at_).here ?_))))
  rw [if_neg (by simp)]
  refine wpAny_bind (PySem.W.unlessNone_K I.kIn J hm.at_ hm.fn ?_)
  refine wpAny_mono (run_fn (us := [.ref a, v]) (vs := [.ref a, x]) (ds := []) (dvs := []) F hr hb .nil hx I (.cons rfl (.cons rx .nil)) h) (fun r s' hq => ?_) fun _ _ z => z
  obtain ⟨y, H', I', ry, b, rfl, q⟩ := hq
  cases (show r = Value.bool b from ry)
  exact wpAny_pure ⟨H', I', q⟩
theorem op_notInOwn (hm : Meth X.K C "__contains__" f) (F : FnOk X.prog X.w X.K X.mg X.base CX k f fd ps sp) (hr : Room k X.A) (hb : Binds X.K fd ps []) (hx : Passes CX X E) : OpR X (compareOp .NotIn) (rInOwn true C sp E) := by
  intro pins s σ H x y v u Q I rx ry h
  obtain ⟨a, dx, fs, rfl, ea, h⟩ := h
  cases (show u = Value.ref a from ry)
  refine wpAny_bind (wpAny_mono (contains_own (Q' := fun b H2 => Q (.bl (!b)) H2) hm F hr hb hx I rx ea h) (fun b s' hq => ?_) fun _ _ z => z)
  obtain ⟨H', I', q⟩ := hq
  exact wpAny_pure ⟨.bl (!b), H', I', rfl, q⟩
theorem op_inOwn (hm : Meth X.K C "__contains__" f) (F : FnOk X.prog X.w X.K X.mg X.base CX k f fd ps sp) (hr : Room k X.A) (hb : Binds X.K fd ps []) (hx : Passes CX X E) : OpR X (compareOp .In) (rInOwn false C sp E) := by
  intro pins s σ H x y v u Q I rx ry h
  obtain ⟨a, dx, fs, rfl, ea, h⟩ := h
  cases (show u = Value.ref a from ry)
  refine wpAny_bind (wpAny_mono (contains_own (Q' := fun b H2 => Q (.bl b) H2) hm F hr hb hx I rx ea h) (fun b s' hq => ?_) fun _ _ z => z)
  obtain ⟨H', I', q⟩ := hq
  exact wpAny_pure ⟨.bl b, H', I', rfl, q⟩
/-- x is True, False: x anything but an object of which one may not know -/
def rIsC (c : Bool) : R2 := fun x y H Q => y = .bl c ∧ Q (.bl (decide (x = .bl c))) H
theorem op_isC {c : Bool} : OpR X (compareOp .Is) (rIsC c) := by
  intro pins s σ H x y v u Q I rx ry h
  obtain ⟨rfl, q⟩ := h
  cases (show u = Value.bool c from ry)
  have no : (∀ b, x ≠ .bl b) → plainIs v (.bool c) = true → v ≠ .bool c → wpAny (model X.prog X.w) X.A (compareOp .Is v (.bool c)) (EP X pins σ Q) X.xe s := fun hx hp hn =>
    wpAny_is_other hp hn ⟨.bl false, H, I, rfl, by rw [decide_eq_false (hx c)] at q; exact q⟩
  cases x with
  | bl b =>
    cases (show v = Value.bool b from rx)
    by_cases e : b = c
    · subst e
      exact wpAny_is_self rfl ⟨.bl true, H, I, rfl, by simpa using q⟩
    · exact wpAny_is_other rfl (fun z => e (Value.bool.inj z)) ⟨.bl false, H, I, rfl, by simpa [e] using q⟩
  | non => cases rx; exact no (fun _ z => nomatch z) rfl (fun z => nomatch z)
  | int i => obtain ⟨t, rfl⟩ := rx; exact no (fun _ z => nomatch z) rfl (fun z => nomatch z)
  | str i => obtain ⟨t, rfl⟩ := rx; exact no (fun _ z => nomatch z) rfl (fun z => nomatch z)
  | byt i => obtain ⟨t, rfl⟩ := rx; exact no (fun _ z => nomatch z) rfl (fun z => nomatch z)
  | flt i => obtain ⟨t, rfl⟩ := rx; exact no (fun _ z => nomatch z) rfl (fun z => nomatch z)
  | ref i => cases rx; exact no (fun _ z => nomatch z) rfl (fun z => nomatch z)
  | ty i => cases rx; exact no (fun _ z => nomatch z) rfl (fun z => nomatch z)
end
end Lw

set_option Elab.async false
set_option linter.all false
set_option maxRecDepth 100000
set_option maxHeartbeats 4000000
/-! the mathematics: tracks, joints, demands as data -/
namespace Lw
open PySem L2
open Evl (Ex)

/-! ### data -/
abbrev dI (l : List Int) : PyData := .list (l.map PyData.int)
def dP (p : Int × Int) : PyData := .tuple [.int p.1, .int p.2]
abbrev dPs (l : List (Int × Int)) : PyData := .list (l.map dP)
def dTr (a : Int) (s : Str) (b : Int) : PyData := .tuple [.int a, .str s, .int b]
theorem eqv_int (a b : Int) : PyData.eqv (.int a) (.int b) = decide (a = b) := by
  simp only [PyData.eqv]
  by_cases h : a = b
  · simp [h]
  · simp [h]
theorem eqv_pair (p q : Int × Int) : PyData.eqv (dP p) (dP q) = decide (p = q) := by
  obtain ⟨a, b⟩ := p
  obtain ⟨c, d⟩ := q
  simp only [dP, PyData.eqv, PyData.eqvAll]
  by_cases h1 : a = c
  · by_cases h2 : b = d
    · simp [h1, h2]
    · simp [h1, h2]
  · simp [h1]
theorem any_int (l : List Int) (b : Int) : ((l.map PyData.int).any fun z => PyData.eqv z (.int b)) = decide (b ∈ l) := by
  induction l with
  | nil => rfl
  | cons a l ih =>
    rw [List.map_cons, List.any_cons, ih, eqv_int]
    by_cases h : b = a
    · simp [h]
    · have : ¬ a = b := fun z => h z.symm
      simp [h, this]
theorem any_pair (l : List (Int × Int)) (b : Int × Int) : ((l.map dP).any fun z => PyData.eqv z (dP b)) = decide (b ∈ l) := by
  induction l with
  | nil => rfl
  | cons a l ih =>
    rw [List.map_cons, List.any_cons, ih, eqv_pair]
    by_cases h : b = a
    · simp [h]
    · have : ¬ a = b := fun z => h z.symm
      simp [h, this]
theorem shaped_of {d : PyData} (h1 : d.canLay0 = true) (h2 : d.depth ≤ 64) : SeqAt.shaped d = true := by
  show (d.canLay0 && decide (d.depth ≤ 64)) = true
  rw [h1, decide_eq_true h2]
  rfl
theorem sh_int (a : Int) : SeqAt.shaped (.int a) = true := shaped_of (by simp [PyData.canLay0]) (by simp [PyData.depth])
theorem lay_ints : ∀ l : List Int, PyData.canLayAll0 (l.map PyData.int) = true
  | [] => by simp [PyData.canLayAll0]
  | z :: zs => by simp [PyData.canLayAll0, PyData.canLay0, lay_ints zs]
theorem dep_ints : ∀ l : List Int, PyData.depthAll (l.map PyData.int) ≤ 1
  | [] => by simp [PyData.depthAll]
  | z :: zs => by
    have h := dep_ints zs
    simp only [List.map_cons, PyData.depthAll, PyData.depth]
    omega
theorem sh_ints (l : List Int) : SeqAt.shaped (dI l) = true := shaped_of (by simp only [dI, PyData.canLay0]; exact lay_ints l) (by have := dep_ints l; simp only [dI, PyData.depth]; omega)
theorem dep_pair (p : Int × Int) : (dP p).depth ≤ 2 := by simp [dP, PyData.depth, PyData.depthAll]
theorem lay_pair (p : Int × Int) : (dP p).canLay0 = true := by simp [dP, PyData.canLay0, PyData.canLayAll0]
theorem sh_pair (p : Int × Int) : SeqAt.shaped (dP p) = true := shaped_of (lay_pair p) (by have := dep_pair p; omega)
theorem lay_pairs : ∀ l : List (Int × Int), PyData.canLayAll0 (l.map dP) = true
  | [] => by simp [PyData.canLayAll0]
  | z :: zs => by simp [PyData.canLayAll0, lay_pair, lay_pairs zs]
theorem dep_pairs : ∀ l : List (Int × Int), PyData.depthAll (l.map dP) ≤ 2
  | [] => by simp [PyData.depthAll]
  | z :: zs => by
    have h := dep_pairs zs
    have h2 := dep_pair z
    simp only [List.map_cons, PyData.depthAll]
    omega
theorem sh_pairs (l : List (Int × Int)) : SeqAt.shaped (dPs l) = true := shaped_of (by simp only [dPs, PyData.canLay0]; exact lay_pairs l) (by have := dep_pairs l; simp only [dPs, PyData.depth]; omega)

/-! ### joints -/
def eo (js : List (Int × Int)) (b : Int) : List Int := (js.filter fun p => decide (p.1 = b)).map (·.2)
def wo (js : List (Int × Int)) (b : Int) : List Int := (js.filter fun p => decide (p.2 = b)).map (·.1)
theorem eo_snoc_same (js : List (Int × Int)) (w e : Int) : eo (js ++ [(w, e)]) w = eo js w ++ [e] := by simp [eo, List.filter_append]
theorem eo_snoc_ne (js : List (Int × Int)) {w e b : Int} (h : w ≠ b) : eo (js ++ [(w, e)]) b = eo js b := by simp [eo, List.filter_append, h]
theorem wo_snoc_same (js : List (Int × Int)) (w e : Int) : wo (js ++ [(w, e)]) e = wo js e ++ [w] := by simp [wo, List.filter_append]
theorem wo_snoc_ne (js : List (Int × Int)) {w e b : Int} (h : e ≠ b) : wo (js ++ [(w, e)]) b = wo js b := by simp [wo, List.filter_append, h]
theorem eo_len_le (js : List (Int × Int)) (b : Int) : (eo js b).length ≤ js.length := by
  unfold eo
  rw [List.length_map]
  exact List.length_filter_le _ _
theorem wo_len_le (js : List (Int × Int)) (b : Int) : (wo js b).length ≤ js.length := by
  unfold wo
  rw [List.length_map]
  exact List.length_filter_le _ _
theorem mem_eo {js : List (Int × Int)} {w e : Int} : e ∈ eo js w ↔ (w, e) ∈ js := by
  unfold eo
  rw [List.mem_map]
  constructor
  · rintro ⟨⟨a, b⟩, h, rfl⟩
    obtain ⟨h1, h2⟩ := List.mem_filter.mp h
    have h2 := of_decide_eq_true h2
    subst h2
    exact h1
  · intro h
    exact ⟨(w, e), List.mem_filter.mpr ⟨h, decide_eq_true rfl⟩, rfl⟩
/-- what a new joint must be -/
structure JNew (n : Int) (parks : List Int) (js : List (Int × Int)) (w e : Int) : Prop where
  lo : 0 ≤ w
  lt : w < e
  hi : e < n
  new : (w, e) ∉ js
  ew : w ∉ parks → (eo js w).length ≠ 2
  we : e ∉ parks → (wo js e).length ≠ 2
inductive JOk (n : Int) (parks : List Int) : List (Int × Int) → Prop
  | nil : JOk n parks []
  | snoc {js : List (Int × Int)} {w e : Int} : JOk n parks js → JNew n parks js w e → JOk n parks (js ++ [(w, e)])
theorem JOk.at {n : Int} {parks : List Int} {js : List (Int × Int)} (h : JOk n parks js) : ∀ {i : Nat} {p : Int × Int}, js[i]? = some p → JNew n parks (js.take i) p.1 p.2 := by
  induction h with
  | nil => intro i p h; simp at h
  | snoc hj hn ih =>
    rename_i js w e
    intro i p hp
    by_cases hi : i < js.length
    · rw [List.getElem?_append_left hi] at hp
      rw [List.take_append_of_le_length (Nat.le_of_lt hi)]
      exact ih hp
    · have hl := (List.getElem?_eq_some_iff.mp hp).1
      rw [List.length_append, List.length_singleton] at hl
      have ei : i = js.length := by omega
      subst ei
      rw [List.getElem?_append_right (Nat.le_refl _)] at hp
      simp at hp
      subst hp
      rw [List.take_append_of_le_length (Nat.le_refl _), List.take_length]
      exact hn
theorem JOk.mem {n : Int} {parks : List Int} {js : List (Int × Int)} (h : JOk n parks js) {p : Int × Int} (m : p ∈ js) : 0 ≤ p.1 ∧ p.1 < p.2 ∧ p.2 < n := by
  obtain ⟨i, hi, e⟩ := List.getElem_of_mem m
  have q := h.at (i := i) (p := p) (by rw [List.getElem?_eq_getElem hi, e])
  exact ⟨q.lo, q.lt, q.hi⟩
theorem JOk.yards {n : Int} {parks parks2 : List Int} {js : List (Int × Int)} (h : JOk n parks js) (hs : ∀ p ∈ parks, p ∈ parks2) : JOk n parks2 js := by
  induction h with
  | nil => exact .nil
  | snoc hj hn ih => exact .snoc ih ⟨hn.lo, hn.lt, hn.hi, hn.new, fun z => hn.ew fun y => z (hs _ y), fun z => hn.we fun y => z (hs _ y)⟩
structure Trk where
  lens : List Int
  joints : List (Int × Int)
  parks : List Int
structure TrkOk (t : Trk) : Prop where
  pos : 1 ≤ t.lens.length
  few : t.lens.length ≤ 200
  one : ∀ l ∈ t.lens, 1 ≤ l
  fewP : t.parks.length ≤ 200
  inP : ∀ b ∈ t.parks, 0 ≤ b ∧ b < (t.lens.length : Int)
  fewJ : t.joints.length ≤ 900
  js : JOk (t.lens.length : Int) t.parks t.joints
def dT (t : Trk) : PyData := .tuple [dI t.lens, dPs t.joints, dI t.parks]

/-! ### demands -/
def eastS : Str := "east"
def westS : Str := "west"
def wantD (parks : List Int) (js : List (Int × Int)) (w e : Int) : List PyData :=
  (if w ∉ parks ∧ (eo js w).length = 2 then [dTr w eastS e] else []) ++ (if e ∉ parks ∧ (wo js e).length = 2 then [dTr e westS w] else [])
/-- data whose sameness is asked: depth at most n -/
def Okd : Nat → PyData → Prop
  | _, .int _ => True
  | _, .str _ => True
  | n + 1, .list ds => ds.length ≤ 1000 ∧ ∀ d ∈ ds, Okd n d
  | n + 1, .tuple ds => ds.length ≤ 1000 ∧ ∀ d ∈ ds, Okd n d
  | _, _ => False
theorem ok_tr (a b : Int) (s : Str) : Okd 1 (dTr a s b) := by
  unfold dTr Okd
  refine ⟨by simp, fun d h => ?_⟩
  simp at h
  rcases h with rfl | rfl | rfl <;> simp [Okd]
theorem ok_pair (p : Int × Int) : Okd 1 (dP p) := by
  unfold dP Okd
  refine ⟨by simp, fun d h => ?_⟩
  simp at h
  rcases h with rfl | rfl <;> simp [Okd]
theorem ok_want (parks : List Int) (js : List (Int × Int)) (w e : Int) : Okd 2 (.list (wantD parks js w e)) := by
  unfold Okd
  refine ⟨?_, fun d h => ?_⟩
  · unfold wantD
    rw [List.length_append]
    split <;> split <;> simp
  · unfold wantD at h
    rcases List.mem_append.mp h with h | h
    · split at h
      · simp at h; subst h; exact ok_tr _ _ _
      · simp at h
    · split at h
      · simp at h; subst h; exact ok_tr _ _ _
      · simp at h
theorem ok_pairs (l : List (Int × Int)) (h : l.length ≤ 1000) : Okd 2 (dPs l) := by
  unfold Okd
  refine ⟨by rw [List.length_map]; exact h, fun d m => ?_⟩
  obtain ⟨p, _, rfl⟩ := List.mem_map.mp m
  exact ok_pair p

/-! ### sorted joints -/
def lexLe (p q : Int × Int) : Prop := p.1 < q.1 ∨ (p.1 = q.1 ∧ p.2 ≤ q.2)
theorem sort_uniq : ∀ {l m : List (Int × Int)}, l.Perm m → l.Pairwise lexLe → m.Pairwise lexLe → l = m
  | [], m, h, _, _ => (List.Perm.nil_eq h)
  | x :: l, [], h, _, _ => absurd h.length_eq (by simp)
  | x :: l, y :: m, h, hl, hm => by
    have e : x = y := by
      have h1 : x = y ∨ lexLe y x := by
        rcases List.mem_cons.mp (h.mem_iff.mp (List.mem_cons_self (a := x) (l := l))) with e | hx
        · exact .inl e
        · exact .inr ((List.pairwise_cons.mp hm).1 x hx)
      have h2 : y = x ∨ lexLe x y := by
        rcases List.mem_cons.mp (h.mem_iff.mpr (List.mem_cons_self (a := y) (l := m))) with e | hx
        · exact .inl e
        · exact .inr ((List.pairwise_cons.mp hl).1 y hx)
      rcases h1 with e | h1
      · exact e
      · rcases h2 with e | h2
        · exact e.symm
        · obtain ⟨a, b⟩ := x
          obtain ⟨c, d⟩ := y
          unfold lexLe at h1 h2
          simp only at h1 h2
          have : a = c := by omega
          have : b = d := by omega
          simp [*]
    subst e
    rw [sort_uniq h.cons_inv (List.pairwise_cons.mp hl).2 (List.pairwise_cons.mp hm).2]
/-- the joints by their western blocks -/
def fan (ess : List (List Int)) (n : Nat) : List (Int × Int) := (List.range n).flatMap fun b => ((ess.getD b []).map fun e => ((b : Int), e))
theorem fan_zero (ess : List (List Int)) : fan ess 0 = [] := rfl
theorem fan_succ (ess : List (List Int)) (n : Nat) : fan ess (n + 1) = fan ess n ++ (ess.getD n []).map fun e => ((n : Int), e) := by
  unfold fan
  rw [List.range_succ, List.flatMap_append]
  simp
structure Srt (f : Int → List Int) (n : Nat) (ess : List (List Int)) : Prop where
  len : ess.length = n
  at_ : ∀ (b : Nat) x, ess[b]? = some x → x.Perm (f (b : Int)) ∧ x.Pairwise (· ≤ ·)
theorem Srt.get {f : Int → List Int} {n : Nat} {ess : List (List Int)} (h : Srt f n ess) {b : Nat} (hb : b < n) : ∃ x, ess[b]? = some x ∧ ess.getD b [] = x ∧ x.Perm (f (b : Int)) ∧ x.Pairwise (· ≤ ·) := by
  have hb' : b < ess.length := by rw [h.len]; exact hb
  have e : ess[b]? = some ess[b] := List.getElem?_eq_getElem hb'
  refine ⟨ess[b], e, ?_, h.at_ b _ e⟩
  rw [List.getD_eq_getElem?_getD, e]
  rfl
theorem fan_sorted {f : Int → List Int} {ess : List (List Int)} {N : Nat} (h : Srt f N ess) : ∀ n, n ≤ N → (fan ess n).Pairwise lexLe ∧ ∀ p ∈ fan ess n, p.1 < (n : Int)
  | 0, _ => ⟨.nil, fun p hp => absurd hp (by simp [fan_zero])⟩
  | n + 1, hn => by
    obtain ⟨h1, h2⟩ := fan_sorted h n (by omega)
    obtain ⟨x, _, ex, _, hs⟩ := h.get (b := n) (by omega)
    rw [fan_succ, ex]
    refine ⟨List.pairwise_append.mpr ⟨h1, ?_, fun p hp q hq => ?_⟩, fun p hp => ?_⟩
    · exact List.pairwise_map.mpr (List.Pairwise.imp (fun {a b} hab => .inr ⟨rfl, hab⟩) hs)
    · obtain ⟨e, _, rfl⟩ := List.mem_map.mp hq
      exact .inl (h2 p hp)
    · rcases List.mem_append.mp hp with hp | hp
      · have := h2 p hp
        omega
      · obtain ⟨e, _, rfl⟩ := List.mem_map.mp hp
        show ((n : Nat) : Int) < ((n + 1 : Nat) : Int)
        omega
theorem fan_perm {js : List (Int × Int)} {ess : List (List Int)} {N : Nat} (h : Srt (eo js) N ess) : ∀ n, n ≤ N → (fan ess n).Perm (js.filter fun p => decide (0 ≤ p.1 ∧ p.1 < (n : Int)))
  | 0, _ => by
    have e : (js.filter fun p => decide (0 ≤ p.1 ∧ p.1 < ((0 : Nat) : Int))) = [] := List.filter_eq_nil_iff.mpr fun p _ q => by
      have := of_decide_eq_true q
      omega
    rw [e, fan_zero]
  | n + 1, hn => by
    obtain ⟨x, _, ex, hp, _⟩ := h.get (b := n) (by omega)
    rw [fan_succ, ex]
    have h1 := fan_perm h n (by omega)
    have h2 : (x.map fun e => ((n : Int), e)).Perm (js.filter fun p => decide (p.1 = (n : Int))) := by
      have e : ((js.filter fun p => decide (p.1 = (n : Int))).map (·.2)).map (fun e => ((n : Int), e)) = js.filter fun p => decide (p.1 = (n : Int)) := by
        rw [List.map_map]
        conv => rhs; rw [← List.map_id (js.filter fun p => decide (p.1 = (n : Int)))]
        refine List.map_congr_left fun p hp => ?_
        have := of_decide_eq_true (List.mem_filter.mp hp).2
        obtain ⟨a, b⟩ := p
        simp only at this
        subst this
        rfl
      have q := hp.map (fun e => ((n : Int), e))
      unfold eo at q
      rw [e] at q
      exact q
    refine (h1.append h2).trans ?_
    have h3 := List.filter_append_perm (fun p : Int × Int => decide (p.1 < (n : Int))) (js.filter fun p => decide (0 ≤ p.1 ∧ p.1 < ((n + 1 : Nat) : Int)))
    refine List.Perm.trans ?_ h3
    rw [List.filter_filter, List.filter_filter]
    have a1 : (js.filter fun p => decide (0 ≤ p.1 ∧ p.1 < (n : Int))) = js.filter fun p => decide (p.1 < (n : Int)) && decide (0 ≤ p.1 ∧ p.1 < ((n + 1 : Nat) : Int)) := by
      refine List.filter_congr fun p _ => ?_
      rw [Bool.eq_iff_iff]
      simp only [Bool.and_eq_true, decide_eq_true_eq]
      omega
    have a2 : (js.filter fun p => decide (p.1 = (n : Int))) = js.filter fun p => (!decide (p.1 < (n : Int))) && decide (0 ≤ p.1 ∧ p.1 < ((n + 1 : Nat) : Int)) := by
      refine List.filter_congr fun p _ => ?_
      rw [Bool.eq_iff_iff]
      simp only [Bool.and_eq_true, Bool.not_eq_true', decide_eq_true_eq, decide_eq_false_iff_not]
      omega
    rw [a1, a2]
theorem fan_all {n : Nat} {parks : List Int} {js : List (Int × Int)} {ess : List (List Int)} (h : Srt (eo js) n ess) (hj : JOk (n : Int) parks js) : (fan ess n).Perm js := by
  have e : (js.filter fun p => decide (0 ≤ p.1 ∧ p.1 < (n : Int))) = js := List.filter_eq_self.mpr fun p hp => by
    have := hj.mem hp
    exact decide_eq_true (by omega)
  have q := fan_perm h n (Nat.le_refl _)
  rw [e] at q
  exact q
end Lw

set_option Elab.async false
set_option linter.all false
set_option maxRecDepth 100000
set_option maxHeartbeats 4000000
/-! the promises -/
namespace Lw
open PySem L2
open Evl (Ex)
def Ret (G H : Hp) (P : VP) (Q : VK) : Prop := ∀ v G' H', Gr G G' H H' → P v G' → Q v H'
section
variable {K : PySem.W.Frag} {C : Addr}
/-! ### the law's helpers -/
def spCell (K : PySem.W.Frag) : Sp := fun vs H Q _ => ∃ (G : Hp) (l : Addr) (ns : List Int) (k : Int), Ex G H ∧ vs = [.ref l, .int k] ∧ SqL K G l (ns.map V.int) ∧ ns.length ≤ 63 ∧ 0 ≤ k ∧ k < 1000 ∧ Ret G H (IV fun _ => True) Q
theorem sa_cell {G : Hp} {l : Addr} {ns : List Int} {k : Int} (h : SqL K G l (ns.map V.int)) (hn : ns.length ≤ 63) (h0 : 0 ≤ k) (h1 : k < 1000) : SA (spCell K) [.ref l, .int k] G (IV fun _ => True) :=
  fun H e Q _ q => ⟨G, l, ns, k, e, rfl, h, hn, h0, h1, q⟩
def spDraw : Sp := fun vs H Q _ => ∃ (G : Hp) (c : Int) (k : Int) (n : Int), Ex G H ∧ vs = [.int c, .int k, .int n] ∧ 0 ≤ k ∧ k ≤ 2000 ∧ 1 ≤ n ∧ n ≤ 2000 ∧ Ret G H (IV fun z => 0 ≤ z ∧ z < n) Q
theorem sa_draw {G : Hp} {c k n : Int} (h0 : 0 ≤ k) (h1 : k ≤ 2000) (h2 : 1 ≤ n) (h3 : n ≤ 2000) : SA spDraw [.int c, .int k, .int n] G (IV fun z => 0 ≤ z ∧ z < n) :=
  fun H e Q _ q => ⟨G, c, k, n, e, rfl, h0, h1, h2, h3, q⟩
def spSame (K : PySem.W.Frag) (n : Nat) : Sp := fun vs H Q _ => ∃ (G : Hp) (x : V) (y : V) (d : PyData), Ex G H ∧ vs = [x, y] ∧ Dp K G x d ∧ Dp K G y d ∧ Okd n d ∧ Ret G H (XV (.bl true)) Q
theorem sa_same {G : Hp} {x y : V} {d : PyData} {n : Nat} (hx : Dp K G x d) (hy : Dp K G y d) (ho : Okd n d) : SA (spSame K n) [x, y] G (XV (.bl true)) := fun H e Q _ q => ⟨G, x, y, d, e, rfl, hx, hy, ho, q⟩
def TV (K : PySem.W.Frag) (m : Int) : VP := fun v G => ∃ t, TrkOk t ∧ (t.lens.length : Int) ≤ m ∧ Dp K G v (dT t)
def spTrack (K : PySem.W.Frag) : Sp := fun vs H Q _ => ∃ (G : Hp) (c : Int) (m : Int), Ex G H ∧ vs = [.int c, .int m] ∧ 2 ≤ m ∧ m ≤ 60 ∧ Ret G H (TV K m) Q
theorem sa_track {G : Hp} {c m : Int} (h1 : 2 ≤ m) (h2 : m ≤ 60) : SA (spTrack K) [.int c, .int m] G (TV K m) := fun H e Q _ q => ⟨G, c, m, e, rfl, h1, h2, q⟩
theorem mo_TV {m} : Mo (TV K m) := fun _ _ _ e ⟨t, h, l, d⟩ => ⟨t, h, l, dpx d e⟩
def spAnyT (K : PySem.W.Frag) : Sp := fun vs H Q _ => ∃ (G : Hp) (l : Addr) (ns : List Int) (m : Int), Ex G H ∧ vs = [.ref l, .int m] ∧ SqL K G l (ns.map V.int) ∧ ns.length ≤ 63 ∧ 2 ≤ m ∧ m ≤ 20 ∧ Ret G H (TV K (3 * m)) Q
def spWanted (K : PySem.W.Frag) : Sp := fun vs H Q _ => ∃ (G : Hp) (x : V) (t : Trk) (w : Int) (e : Int), Ex G H ∧ vs = [x, .int w, .int e] ∧ Dp K G x (dT t) ∧ t.joints.length ≤ 900 ∧ Ret G H (DV K (.list (wantD t.parks t.joints w e))) Q

/-! ### the layout -/
/-- the fields of a whole layout -/
structure FLd (fs : List (Str × V)) (n : Int) (l y e w : Addr) : Prop where
  size : fs.lookup ("size" : Str) = some (.int n)
  lens : fs.lookup ("_lengths" : Str) = some (.ref l)
  marks : fs.lookup ("_yard_marks" : Str) = some (.ref y)
  east : fs.lookup ("_east" : Str) = some (.ref e)
  west : fs.lookup ("_west" : Str) = some (.ref w)
  no : ∀ m : Str, m ≠ "size" → m ≠ "_lengths" → m ≠ "_yard_marks" → m ≠ "_east" → m ≠ "_west" → fs.lookup m = none
  few : fs.length ≤ 20
def marksOf (n : Nat) (parks : List Int) : List Bool := (List.range n).map fun b => decide (((b : Nat) : Int) ∈ parks)
theorem marks_at {n : Nat} {parks : List Int} {b : Nat} (h : b < n) : (marksOf n parks)[b]? = some (decide ((b : Int) ∈ parks)) := by
  unfold marksOf
  rw [List.getElem?_map, List.getElem?_range h]
  rfl
/-- a layout stands at p -/
def LayAt (K : PySem.W.Frag) (C : Addr) (G : Hp) (p : Addr) (n : Nat) (parks : List Int) (js : List (Int × Int)) : Prop := ∃ dx fs l y e w ess wss, G p = some (.ins C dx fs) ∧ FLd fs (n : Int) l y e w ∧
  Dp K G (.ref y) (.list ((marksOf n parks).map PyData.bool)) ∧ Dp K G (.ref e) (.list (ess.map dI)) ∧ Dp K G (.ref w) (.list (wss.map dI)) ∧ Srt (eo js) n ess ∧ Srt (wo js) n wss
theorem LayAt.ex {G G' : Hp} {p : Addr} {n : Nat} {parks : List Int} {js : List (Int × Int)} (h : LayAt K C G p n parks js) (e : Ex G G') : LayAt K C G' p n parks js := by
  obtain ⟨dx, fs, l, y, ea, w, ess, wss, h1, h2, h3, h4, h5, h6, h7⟩ := h
  exact ⟨dx, fs, l, y, ea, w, ess, wss, e _ _ h1, h2, dpx h3 e, dpx h4 e, dpx h5 e, h6, h7⟩
/-- an instance whose size is told -/
def SizeAt (C : Addr) (G : Hp) (p : Addr) (n : Int) : Prop := ∃ dx fs, G p = some (.ins C dx fs) ∧ fs.lookup ("size" : Str) = some (.int n)
theorem LayAt.size {G : Hp} {p : Addr} {n : Nat} {parks : List Int} {js : List (Int × Int)} (h : LayAt K C G p n parks js) : SizeAt C G p (n : Int) := by
  obtain ⟨dx, fs, l, y, ea, w, ess, wss, h1, h2, _⟩ := h
  exact ⟨dx, fs, h1, h2.size⟩
theorem LayAt.meth {G : Hp} {p : Addr} {n : Nat} {parks : List Int} {js : List (Int × Int)} (h : LayAt K C G p n parks js) {m : Str} (h1 : m ≠ "size" ∧ m ≠ "_lengths" ∧ m ≠ "_yard_marks" ∧ m ≠ "_east" ∧ m ≠ "_west") : ∃ dx fs, G p = some (.ins C dx fs) ∧ fs.lookup m = none := by
  obtain ⟨dx, fs, l, y, ea, w, ess, wss, h2, h3, _⟩ := h
  exact ⟨dx, fs, h2, h3.no m h1.1 h1.2.1 h1.2.2.1 h1.2.2.2.1 h1.2.2.2.2⟩
theorem SizeAt.ex {G G' : Hp} {p : Addr} {n : Int} (h : SizeAt C G p n) (e : Ex G G') : SizeAt C G' p n := by
  obtain ⟨dx, fs, h1, h2⟩ := h
  exact ⟨dx, fs, e _ _ h1, h2⟩
def spContains (C : Addr) : Sp := fun vs H Q _ => ∃ (G : Hp) (p : Addr) (n : Int) (b : Int), Ex G H ∧ vs = [.ref p, .int b] ∧ SizeAt C G p n ∧ Ret G H (XV (.bl (decide (0 ≤ b ∧ b < n)))) Q
def spCheck (C : Addr) : Sp := fun vs H Q _ => ∃ (G : Hp) (p : Addr) (n : Int) (b : Int), Ex G H ∧ vs = [.ref p, .int b] ∧ SizeAt C G p n ∧ 0 ≤ b ∧ b < n ∧ Ret G H (XV .non) Q
theorem sa_check {G : Hp} {p : Addr} {n b : Int} (h : SizeAt C G p n) (h0 : 0 ≤ b) (h1 : b < n) : SA (spCheck C) [.ref p, .int b] G (XV .non) := fun H e Q _ q => ⟨G, p, n, b, e, rfl, h, h0, h1, q⟩
def spChecks (K : PySem.W.Frag) (C : Addr) : Sp := fun vs H Q _ => ∃ (G : Hp) (p : Addr) (n : Int) (a : Addr) (bs : List Int), Ex G H ∧ vs = [.ref p, .ref a] ∧ SizeAt C G p n ∧ SqL K G a (bs.map V.int) ∧ (∀ b ∈ bs, 0 ≤ b ∧ b < n) ∧ Ret G H (XV .non) Q
theorem sa_checks {G : Hp} {p a : Addr} {n : Int} {bs : List Int} (h : SizeAt C G p n) (ha : SqL K G a (bs.map V.int)) (hb : ∀ b ∈ bs, 0 ≤ b ∧ b < n) : SA (spChecks K C) [.ref p, .ref a] G (XV .non) := fun H e Q _ q => ⟨G, p, n, a, bs, e, rfl, h, ha, hb, q⟩
/-- what the questions of a whole layout give -/
def spAsk (K : PySem.W.Frag) (C : Addr) (P : Nat → List Int → List (Int × Int) → Int → VP) : Sp := fun vs H Q _ => ∃ (G : Hp) (p : Addr) (n : Nat) (parks : List Int) (js : List (Int × Int)) (b : Int), Ex G H ∧ vs = [.ref p, .int b] ∧ LayAt K C G p n parks js ∧ 0 ≤ b ∧ b < (n : Int) ∧ Ret G H (P n parks js b) Q
theorem sa_ask {P : Nat → List Int → List (Int × Int) → Int → VP} {G : Hp} {p : Addr} {n : Nat} {parks : List Int} {js : List (Int × Int)} {b : Int} (h : LayAt K C G p n parks js) (h0 : 0 ≤ b) (h1 : b < (n : Int)) : SA (spAsk K C P) [.ref p, .int b] G (P n parks js b) :=
  fun H e Q _ q => ⟨G, p, n, parks, js, b, e, rfl, h, h0, h1, q⟩
def pYard : Nat → List Int → List (Int × Int) → Int → VP := fun _ parks _ b => XV (.bl (decide (b ∈ parks)))
/-- a new list of so many ints as the end has joints -/
def NL (K : PySem.W.Frag) (k : Nat) : VP := fun v G => ∃ l : List Int, l.length = k ∧ Dp K G v (dI l)
def pEast (K : PySem.W.Frag) : Nat → List Int → List (Int × Int) → Int → VP := fun _ _ js b => NL K (eo js b).length
def pWest (K : PySem.W.Frag) : Nat → List Int → List (Int × Int) → Int → VP := fun _ _ js b => NL K (wo js b).length
def spAskS (K : PySem.W.Frag) (C : Addr) (P : List Int → List (Int × Int) → Int → Bool → VP) : Sp := fun vs H Q _ => ∃ (G : Hp) (p : Addr) (n : Nat) (parks : List Int) (js : List (Int × Int)) (b : Int) (c : Bool), Ex G H ∧ vs = [.ref p, .int b, .str (if c = true then eastS else westS)] ∧ LayAt K C G p n parks js ∧ 0 ≤ b ∧ b < (n : Int) ∧ Ret G H (P parks js b c) Q
theorem sa_askS {P : List Int → List (Int × Int) → Int → Bool → VP} {G : Hp} {p : Addr} {n : Nat} {parks : List Int} {js : List (Int × Int)} {b : Int} (c : Bool) (h : LayAt K C G p n parks js) (h0 : 0 ≤ b) (h1 : b < (n : Int)) : SA (spAskS K C P) [.ref p, .int b, .str (if c = true then eastS else westS)] G (P parks js b c) :=
  fun H e Q _ q => ⟨G, p, n, parks, js, b, c, e, rfl, h, h0, h1, q⟩
def endN (js : List (Int × Int)) (b : Int) (c : Bool) : Nat := if c = true then (eo js b).length else (wo js b).length
def pBranch (K : PySem.W.Frag) : List Int → List (Int × Int) → Int → Bool → VP := fun _ js b c => NL K (endN js b c)
def isPt (parks : List Int) (js : List (Int × Int)) (b : Int) (c : Bool) : Bool := !decide (b ∈ parks) && decide (endN js b c = 2)
def pPoint : List Int → List (Int × Int) → Int → Bool → VP := fun parks js b c => XV (.bl (isPt parks js b c))
def spOpp : Sp := fun vs H Q _ => ∃ (G : Hp) (c : Bool), Ex G H ∧ vs = [.str (if c = true then eastS else westS)] ∧ Ret G H (XV (.str (if c = true then westS else eastS))) Q
theorem sa_opp {G : Hp} (c : Bool) : SA spOpp [.str (if c = true then eastS else westS)] G (XV (.str (if c = true then westS else eastS))) := fun H e Q _ q => ⟨G, c, e, rfl, q⟩
/-- a new list of data -/
def FL (K : PySem.W.Frag) (H0 : Hp) (ds : List PyData) : VP := fun v G => ∃ q xs, v = .ref q ∧ H0 q = none ∧ G q = some (.lst xs) ∧ DpAll K G xs ds
def spJd (K : PySem.W.Frag) (C : Addr) : Sp := fun vs H Q _ => ∃ (G : Hp) (p : Addr) (n : Nat) (parks : List Int) (js : List (Int × Int)) (w : Int) (e : Int) (f : Bool), Ex G H ∧ vs = [.ref p, .int (if f = true then w else e), .int (if f = true then e else w)] ∧ LayAt K C G p n parks js ∧ 0 ≤ w ∧ w < e ∧ e < (n : Int) ∧ Ret G H (FL K H (wantD parks js w e)) Q
theorem sa_jd {G : Hp} {p : Addr} {n : Nat} {parks : List Int} {js : List (Int × Int)} {w e : Int} (f : Bool) (h : LayAt K C G p n parks js) (h0 : 0 ≤ w) (h1 : w < e) (h2 : e < (n : Int)) (H : Hp) (ex : Ex G H) (Q : VK) (E : XK) (q : Ret G H (FL K H (wantD parks js w e)) Q) :
    spJd K C [.ref p, .int (if f = true then w else e), .int (if f = true then e else w)] H Q E := ⟨G, p, n, parks, js, w, e, f, ex, rfl, h, h0, h1, h2, q⟩
def spJoints (K : PySem.W.Frag) (C : Addr) : Sp := fun vs H Q _ => ∃ (G : Hp) (p : Addr) (n : Nat) (parks : List Int) (js : List (Int × Int)), Ex G H ∧ vs = [.ref p] ∧ LayAt K C G p n parks js ∧ JOk (n : Int) parks js ∧ n ≤ 200 ∧ js.length ≤ 900 ∧ Ret G H (fun v G' => ∃ l, l.Perm js ∧ l.Pairwise lexLe ∧ Dp K G' v (dPs l)) Q
def spMeet (K : PySem.W.Frag) (C : Addr) : Sp := fun vs H Q _ => ∃ (G : Hp) (p : Addr) (n : Nat) (parks : List Int) (js : List (Int × Int)) (w : Int) (e : Int) (f : Bool) (x : V), Ex G H ∧ vs = [.ref p, x, .int (if f = true then w else e), .int (if f = true then e else w)] ∧ LayAt K C G p n parks js ∧ 0 ≤ w ∧ w < e ∧ e < (n : Int) ∧ Dp K G x (.list (wantD parks js w e)) ∧ Ret G H (XV (.bl true)) Q
end
/-! ### names of the top -/
section
variable (P : Program) (w : World) (K : PySem.W.Frag) (mg : Str → Option Value) (base : Heap)
def Cal (x : Str) (k : Nat) (ps : List Str) (sp : Sp) : Prop := ∃ f fd, FnOk P w K mg base CX0 k f fd ps sp ∧ mg x = some (.ref f) ∧ PySem.W.keepIn K (.ref f) = true ∧ Binds K fd ps []
def CalM (C : Addr) (m : Str) (k : Nat) (ps : List Str) (sp : Sp) : Prop := ∃ f fd, FnOk P w K mg base CX0 k f fd ps sp ∧ Meth K C m f ∧ Binds K fd ps []
structure Blt : Prop where
  len : mg "len" = none
  abs : mg "abs" = none
  min : mg "min" = none
  range : mg "range" = none
  int : mg "int" = none
  str : mg "str" = none
  bool : mg "bool" = none
  list : mg "list" = none
  tuple : mg "tuple" = none
  sorted : mg "sorted" = none
  isinstance : mg "isinstance" = none
structure Cl (C : Addr) : Prop where
  cl : Cls K C
  size : NoAttr K C "size"
  lens : NoAttr K C "_lengths"
  marks : NoAttr K C "_yard_marks"
  east : NoAttr K C "_east"
  west : NoAttr K C "_west"
end
theorem hu65 {k : Nat} {A : Around} (r : Room k A) : A.units + 65 < cLine := by have := r.un; omega
theorem hu64 {k : Nat} {A : Around} (r : Room k A) : A.units + 64 < cLine := by have := r.un; omega
/-! a call by keywords alone -/
section
variable {X : Cx} {CX : CXT} {k : Nat} {f : Addr} {fd : FuncData} {ps ks : List Str} {sp : Sp} {E : XK} {x : Str} {p pos : Pos} {kws : List Keyword} {tk : TA} {g : List Value → List Value → List Value} {gV : List V → List V → List V}
theorem pe_callK0 (F : FnOk X.prog X.w X.K X.mg X.base CX k f fd ps sp) (hr : Room k X.A) (hg : Gl X x) (hm : X.mg x = some (.ref f)) (hk : PySem.W.keepIn X.K (.ref f) = true) (hb : KBinds X.K fd ps ks g gV) (hx : Passes CX X E) (hkw : PK X kws tk)
    (hall : (backToKw pos (keywordEach kws X.env)).all (·.1.isSome) = true := by rfl) (hks : (backToKw pos (keywordEach kws X.env)).filterMap (·.1) = ks := by rfl) (hdb : (x == ("__debug__" : Str)) = false := by decide)
    (hpl : ((backTo pos (starEach [] X.env)).any (·.1) || (backToKw pos (keywordEach kws X.env)).any (·.1.isNone)) = false := by rfl) :
    PE X (.Call (.Name x p) [] kws pos) (tCallK sp gV E tNil tk) := by
  refine ⟨fun pins s σ H Q I h => wpAny_Call_Name_kw (ld_glob I hg hm ?_ hdb)⟩
  refine PySem.W.callWith_KW0 (h₀ := X.base) I.ok.mod.kin hk hall (thn (hkw.run pos pins s σ H _ I h) fun ws s2 ⟨zs, H2, I2, rz, q2⟩ => ⟨I2.kIn, ?_⟩) hpl
  rw [hks]
  exact run_fnk (us := []) (vs := []) F hr hb hx I2 .nil rz q2
end
end Lw
namespace Lw
open PySem L2
open Evl (Ex)
section
variable {K : PySem.W.Frag} {σ : L2.St} {G G' H H' : Hp} {ta tb te tc : TE} {P : VP} {D : Ends} {u : TT}
theorem ex_eq {x y : V} {p : Bool → Prop} (ha : EF ta σ G (XV x)) (hb : EF tb σ G (XV y)) (hs : scal x y = true) (h : p (decide (x = y))) : EF (tOp rEq ta tb) σ G (BV p) :=
  ef_op mo_XV mo_XV ha hb fun a b G' _ pa pb => by
    cases (show a = x from pa)
    cases (show b = y from pb)
    exact fun H e Q k => ⟨hs, k _ G' H (.refl e) ⟨_, rfl, h⟩⟩
theorem ex_var {i : Nat} {v : V} (h : σ[i]? = some (some v)) : EF (tVar i) σ G (XV v) := ef_var h rfl
theorem ex_c {v : V} : EF (tC v) σ G (XV v) := ef_c rfl
theorem EF.iv {z : Int} (h : EF te σ G (XV (.int z))) : EF te σ G (IV (· = z)) := h.imp fun v _ _ p => ⟨z, p, rfl⟩
theorem EF.dv {v : V} {d : PyData} (h : EF te σ G (XV v)) (hd : Dp K G v d) : EF te σ G (DV K d) := h.imp fun x G' e p => by
  cases (show x = v from p)
  exact dpx hd e
theorem EF.bl {b : Bool} {p : Bool → Prop} (h : EF te σ G (XV (.bl b))) (hp : p b) : EF te σ G (BV p) := h.imp fun v _ _ q => ⟨b, q, hp⟩
/-- c <= x < y -/
theorem ef_chain {r r' : R2} {Pa Pb Pc : VP} {p q s : Bool → Prop} (mA : Mo Pa) (mB : Mo Pb) (mC : Mo Pc) (ha : EF ta σ G Pa) (hb : EF tb σ G Pb) (hc : EF tc σ G Pc)
    (h1 : ∀ x y G', Pa x G' → Pb y G' → RO r x y G' (BV p)) (h2 : p true → ∀ x y G', Pb x G' → Pc y G' → RO r' x y G' (BV q)) (ht : p true → ∀ b, q b → s b) (hf : p false → s false) : EF (tChain r r' ta tb tc) σ G (BV s) := fun H e Q k =>
  ha H e _ fun x G1 H1 g1 p1 => hb H1 (g1.up.trans g1.ok) _ fun y G2 H2 g2 p2 => by
    obtain ⟨G3, e1, e2, g3⟩ := g1.join g2
    refine h1 x y G3 (mA x _ _ e1 p1) (mB y _ _ e2 p2) H2 g3.ok _ fun v G4 H4 g4 p4 => ?_
    obtain ⟨b, rfl, pb⟩ := p4
    refine ⟨b, rfl, ?_⟩
    have g5 := g3.trans g4
    cases b with
    | true =>
      rw [if_pos rfl]
      refine hc H4 (g5.up.trans g5.ok) _ fun z G6 H6 g6 p6 => ?_
      obtain ⟨G7, f1, f2, g7⟩ := g5.join g6
      refine h2 pb y z G7 (mB y _ _ (e2.trans (g4.up.trans f1)) p2) (mC z _ _ f2 p6) H6 g7.ok _ fun v G8 H8 g8 p8 => ?_
      obtain ⟨c, rfl, pc⟩ := p8
      exact k _ G8 H8 (g7.trans g8) ⟨c, rfl, ht pb c pc⟩
    | false =>
      rw [if_neg Bool.false_ne_true]
      exact k _ G4 H4 g5 ⟨false, rfl, hf pb⟩
theorem east_ne : ¬ westS = eastS := by unfold westS eastS; decide +kernel
theorem side_dec (c : Bool) : decide (V.str (if c = true then eastS else westS) = V.str eastS) = c := by
  cases c with
  | true => simp
  | false =>
    rw [if_neg Bool.false_ne_true]
    exact decide_eq_false fun z => east_ne (V.str.inj z)
/-- x not in o, o of an own class -/
theorem eb_notIn {C : Addr} {sp : Sp} {E : XK} {a : Addr} {x : V} {b : Bool} {s : Bool → Prop} (ha : EF ta σ G (XV x)) (hb : EF tb σ G (XV (.ref a))) (hI : ∃ dx fs, G a = some (.ins C dx fs)) (hsp : ∀ G', Ex G G' → SA sp [.ref a, x] G' (XV (.bl b))) (hs : s (!b)) :
    EF (tOp (rInOwn true C sp E) ta tb) σ G (BV s) := ef_op mo_XV mo_XV ha hb fun v u G' e1 pa pb => by
  cases (show v = x from pa)
  cases (show u = .ref a from pb)
  obtain ⟨dx, fs, h⟩ := hI
  refine fun H e Q k => ⟨a, dx, fs, rfl, e _ _ (e1 _ _ h), hsp G' e1 H e _ E fun v2 G2 H2 g2 p2 => ?_⟩
  exact ⟨b, p2, k _ G2 H2 g2 ⟨!b, rfl, hs⟩⟩
/-- over a list that is known -/
theorem st_forK {xs : List V} {tl : TE} {a : Addr} {g : TG} {tu : TS} (hG : Ex G H) (h : EF tl σ G (XV (.ref a))) (hx : SqL K G a xs) (W : Nat → L2.St → Hp → Prop) (h0 : ∀ H', Ex H H' → W 0 σ H') (hl : ∀ i σ' H', W i σ' H' → Ex G H')
    (hs : ∀ i x σ' H', xs[i]? = some x → W i σ' H' → g x σ' H' fun σ2 H2 => tu { D with nx := W (i + 1), ct := W (i + 1), bk := D.nx } σ2 H2) (hd : ∀ σ' H', W xs.length σ' H' → D.nx σ' H') : tFor (iList K tl) g tu D σ H :=
  h H hG _ fun v G1 H1 g1 e => ⟨a, e, ⟨xs, Evl.ex_l (hG.trans g1.hp) hx⟩, for_list W (h0 H1 g1.hp) (fun i σ' H' _ w => Evl.ex_l (hl i σ' H' w) hx) hs hd⟩
theorem ex_ixT {a : Addr} {xs : List V} {i : Nat} {v : V} (ha : EF ta σ G (XV (.ref a))) (hb : EF tb σ G (XV (.int (i : Int)))) (hs : SqT K G a xs) (hv : xs[i]? = some v) : EF (tOp (rIxT K) ta tb) σ G (XV v) :=
  ef_op mo_XV mo_XV ha hb fun x y G' e1 pa pb => by
    cases (show x = .ref a from pa)
    cases (show y = .int (i : Int) from pb)
    exact fun H e Q k => ⟨a, xs, (i : Int), v, rfl, rfl, Evl.ex_t (e1.trans e) hs, atI_of rfl hv, k v G' H (.refl e) rfl⟩
theorem ex_ixL {a : Addr} {xs : List V} {i : Nat} {z : Int} {v : V} (ha : EF ta σ G (XV (.ref a))) (hb : EF tb σ G (XV (.int z))) (ez : z = (i : Int)) (hs : SqL K G a xs) (hv : xs[i]? = some v) : EF (tOp (rIxL K) ta tb) σ G (XV v) :=
  ef_op mo_XV mo_XV ha hb fun x y G' e1 pa pb => by
    cases (show x = .ref a from pa)
    cases (show y = .int z from pb)
    exact fun H e Q k => ⟨a, xs, z, v, rfl, rfl, Evl.ex_l (e1.trans e) hs, atI_of ez hv, k v G' H (.refl e) rfl⟩
/-- calls whose arguments are known values -/
theorem ex_call1 {sp : Sp} {E : XK} {x : V} {P : VP} (ha : EF ta σ G (XV x)) (h : ∀ G', Ex G G' → SA sp [x] G' P) : EF (tCall sp [] E (tCons ta tNil)) σ G P := ef_call (ea_one ha) fun vs G' e hv => by
  obtain ⟨a, rfl, pa⟩ := hv
  cases (show a = x from pa)
  exact h G' e
theorem ex_call2 {sp : Sp} {E : XK} {x y : V} {P : VP} (ha : EF ta σ G (XV x)) (hb : EF tb σ G (XV y)) (h : ∀ G', Ex G G' → SA sp [x, y] G' P) : EF (tCall sp [] E (tCons ta (tCons tb tNil))) σ G P := ef_call (ea_two mo_XV mo_XV ha hb) fun vs G' e hv => by
  obtain ⟨a, b, rfl, pa, pb⟩ := hv
  cases (show a = x from pa)
  cases (show b = y from pb)
  exact h G' e
theorem ex_call3 {sp : Sp} {E : XK} {x y z : V} {P : VP} (ha : EF ta σ G (XV x)) (hb : EF tb σ G (XV y)) (hc : EF tc σ G (XV z)) (h : ∀ G', Ex G G' → SA sp [x, y, z] G' P) : EF (tCall sp [] E (tCons ta (tCons tb (tCons tc tNil)))) σ G P := ef_call (ea_three mo_XV mo_XV mo_XV ha hb hc) fun vs G' e hv => by
  obtain ⟨a, b, c, rfl, pa, pb, pc⟩ := hv
  cases (show a = x from pa)
  cases (show b = y from pb)
  cases (show c = z from pc)
  exact h G' e
theorem ex_meth1 {C a : Addr} {m : Str} {sp : Sp} {E : XK} {to : TE} {y : V} {P : VP} (ho : EF to σ G (XV (.ref a))) (hI : ∃ dx fs, G a = some (.ins C dx fs) ∧ fs.lookup m = none) (hb : EF tb σ G (XV y)) (h : ∀ G', Ex G G' → SA sp [.ref a, y] G' P) :
    EF (tMeth C m sp [] E to (tCons tb tNil)) σ G P := ef_meth ho hI (ea_one hb) fun vs G' e hv => by
  obtain ⟨b, rfl, pb⟩ := hv
  cases (show b = y from pb)
  exact h G' e
theorem ex_meth2 {C a : Addr} {m : Str} {sp : Sp} {E : XK} {to : TE} {y z : V} {P : VP} (ho : EF to σ G (XV (.ref a))) (hI : ∃ dx fs, G a = some (.ins C dx fs) ∧ fs.lookup m = none) (hb : EF tb σ G (XV y)) (hc : EF tc σ G (XV z)) (h : ∀ G', Ex G G' → SA sp [.ref a, y, z] G' P) :
    EF (tMeth C m sp [] E to (tCons tb (tCons tc tNil))) σ G P := ef_meth ho hI (ea_two mo_XV mo_XV hb hc) fun vs G' e hv => by
  obtain ⟨b, c, rfl, pb, pc⟩ := hv
  cases (show b = y from pb)
  cases (show c = z from pc)
  exact h G' e
theorem ex_meth0 {C a : Addr} {m : Str} {sp : Sp} {E : XK} {to : TE} {P : VP} (ho : EF to σ G (XV (.ref a))) (hI : ∃ dx fs, G a = some (.ins C dx fs) ∧ fs.lookup m = none) (h : ∀ G', Ex G G' → SA sp [.ref a] G' P) :
    EF (tMeth C m sp [] E to tNil) σ G P := ef_meth ho hI ea_nil fun vs G' e hv => by
  cases (show vs = [] from hv)
  exact h G' e
theorem en_len {k : Nat} (ha : EF ta σ G (NL K k)) : EF (tCB (Evl.rLenS K) (tCons ta tNil)) σ G (XV (.int (k : Int))) := fun H e Q q => ha H e _ fun x G1 H1 g1 ⟨l, hl, hx⟩ => by
  obtain ⟨a, xs, rfl, hs, hall⟩ := dp_lst hx
  refine ⟨a, xs, rfl, .inl (Evl.ex_l g1.ok hs), q _ G1 H1 g1 ?_⟩
  show V.int _ = V.int _
  rw [dpa_len hall, List.length_map, hl]
end
end Lw
namespace Lw
open PySem L2
open Evl (Ex)
theorem Gr.fresh {G G' H H' : Hp} {q : Addr} {o : HO} (g : Gr G G' H H') (h : G q = none) (h' : G' q = some o) : H q = none := by
  cases e : H q with
  | none => rfl
  | some u =>
    have z := g.2.2.2 q (ne_none_of e) h
    rw [h'] at z
    cases z
theorem perm2 {α : Type} {x y : α} : ∀ {l : List α}, l.Perm [x, y] → l = [x, y] ∨ l = [y, x]
  | [], h => absurd h.length_eq (by simp)
  | [a], h => absurd h.length_eq (by simp)
  | a :: b :: c :: l, h => absurd h.length_eq (by simp)
  | [a, b], h => by
    have m := h.mem_iff.mp (List.mem_cons_self (a := a) (l := [b]))
    have one : ∀ {u v : α}, [u].Perm [v] → u = v := fun p => by
      have := p.mem_iff.mp (List.mem_cons_self ..)
      simpa using this
    rcases List.mem_cons.mp m with e | m
    · subst e
      have e2 := one h.cons_inv
      rw [e2]
      exact .inl rfl
    · have e : a = y := by simpa using m
      subst e
      have h2 : [a, b].Perm [a, x] := h.trans (List.Perm.swap a x [])
      have e2 := one h2.cons_inv
      rw [e2]
      exact .inr rfl
/-- the first int of a tuple -/
def keyOf (G : Hp) (v : V) : Int := match v with
  | .ref t => (match G t with | some (.tup (.int i :: _)) => i | _ => 0)
  | _ => 0
def TrAt (G : Hp) (v : V) (a : Int) (s : Str) (b : Int) : Prop := ∃ t, v = .ref t ∧ G t = some (.tup [.int a, .str s, .int b])
theorem TrAt.ex {G G' : Hp} {v : V} {a b : Int} {s : Str} (h : TrAt G v a s b) (e : Ex G G') : TrAt G' v a s b := by
  obtain ⟨t, h1, h2⟩ := h
  exact ⟨t, h1, e _ _ h2⟩
theorem TrAt.key {G : Hp} {v : V} {a b : Int} {s : Str} (h : TrAt G v a s b) : keyOf G v = a := by
  obtain ⟨t, rfl, h⟩ := h
  unfold keyOf
  show (match G t with | some (.tup (.int i :: _)) => i | _ => 0) = a
  rw [h]
theorem TrAt.dp {K : PySem.W.Frag} {G : Hp} {v : V} {a b : Int} {s : Str} (h : TrAt G v a s b) : Dp K G v (dTr a s b) := by
  obtain ⟨t, rfl, h⟩ := h
  exact dp_mkT h (.cons (.int a) (.cons (.str s) (.cons (.int b) .nil)))
def mm (c : Bool) (v : V) : List V := if c = true then [v] else []
def sd (f : Bool) : Str := if f = true then eastS else westS
/-- sorted of the two demands -/
theorem two_sorted {K : PySem.W.Frag} {G : Hp} {parks : List Int} {js : List (Int × Int)} {w e : Int} {f : Bool} {v1 v2 : V} (hwe : w < e) (h1 : isPt parks js (if f = true then w else e) f = true → TrAt G v1 (if f = true then w else e) (sd f) (if f = true then e else w))
    (h2 : isPt parks js (if f = true then e else w) (!f) = true → TrAt G v2 (if f = true then e else w) (sd (!f)) (if f = true then w else e)) {ys : List V} (hp : ys.Perm (mm (isPt parks js (if f = true then w else e) f) v1 ++ mm (isPt parks js (if f = true then e else w) (!f)) v2))
    (hs : ys.Pairwise fun x y => ¬ keyOf G y < keyOf G x) : DpAll K G ys (wantD parks js w e) := by
  have key : wantD parks js w e = (if isPt parks js w true = true then [dTr w eastS e] else []) ++ (if isPt parks js e false = true then [dTr e westS w] else []) := by
    unfold wantD isPt endN
    congr 1 <;> (congr 1; simp)
  have one : ∀ {u v : V}, u ∈ ([v] : List V) → u = v := fun m => by simpa using m
  have perm1 : ∀ {v : V}, ys.Perm [v] → ys = [v] := fun {v} p => by
    have hl := p.length_eq
    match ys, hl with
    | [u], _ =>
      have := p.mem_iff.mp (List.mem_cons_self ..)
      rw [one this]
  rw [key]
  cases f with
  | true =>
    simp only [if_true, Bool.not_true] at h1 h2 hp
    unfold mm at hp
    by_cases c1 : isPt parks js w true = true
    · have t1 := h1 c1
      rw [if_pos c1] at hp ⊢
      by_cases c2 : isPt parks js e false = true
      · have t2 := h2 c2
        rw [if_pos c2] at hp ⊢
        rcases perm2 hp with e1 | e1
        · rw [e1]
          exact .cons t1.dp (.cons t2.dp .nil)
        · rw [e1] at hs
          have q := (List.pairwise_cons.mp hs).1 v1 (List.mem_cons_self ..)
          rw [t1.key, t2.key] at q
          exact absurd hwe q
      · rw [if_neg c2] at hp ⊢
        rw [perm1 hp]
        exact .cons t1.dp .nil
    · rw [if_neg c1] at hp ⊢
      by_cases c2 : isPt parks js e false = true
      · have t2 := h2 c2
        rw [if_pos c2] at hp ⊢
        rw [perm1 hp]
        exact .cons t2.dp .nil
      · rw [if_neg c2] at hp ⊢
        rw [List.Perm.eq_nil hp]
        exact .nil
  | false =>
    simp only [Bool.false_eq_true, if_false, Bool.not_false] at h1 h2 hp
    unfold mm at hp
    by_cases c1 : isPt parks js w true = true
    · have t1 := h2 c1
      rw [if_pos c1] at hp ⊢
      by_cases c2 : isPt parks js e false = true
      · have t2 := h1 c2
        rw [if_pos c2] at hp ⊢
        rcases perm2 hp with e1 | e1
        · rw [e1] at hs
          have q := (List.pairwise_cons.mp hs).1 v2 (List.mem_cons_self ..)
          rw [t1.key, t2.key] at q
          exact absurd hwe q
        · rw [e1]
          exact .cons t1.dp (.cons t2.dp .nil)
      · rw [if_neg c2] at hp ⊢
        rw [perm1 hp]
        exact .cons t1.dp .nil
    · rw [if_neg c1] at hp ⊢
      by_cases c2 : isPt parks js e false = true
      · have t2 := h1 c2
        rw [if_pos c2] at hp ⊢
        rw [perm1 hp]
        exact .cons t2.dp .nil
      · rw [if_neg c2] at hp ⊢
        rw [List.Perm.eq_nil hp]
        exact .nil
theorem Gr.app {G G' H H3 H4 : Hp} {q : Addr} {o : HO} (g : Gr G G' H3 H4) (eH : Ex H H3) (hq : H q = none) (g' : G' q = none) : Gr G G' H (upd H4 q o) :=
  ⟨g.up, ex_off g.ok g', ex_off (eH.trans g.hp) hq, fun a h ga => g.2.2.2 a (exNe eH h) ga⟩
theorem Gr.wide {G G' H H3 H4 : Hp} (g : Gr G G' H3 H4) (eH : Ex H H3) : Gr G G' H H4 := ⟨g.up, g.ok, eH.trans g.hp, fun a h ga => g.2.2.2 a (exNe eH h) ga⟩
theorem sa_opp' {G : Hp} (f : Bool) : SA spOpp [.str (sd f)] G (XV (.str (sd (!f)))) := by
  have h := sa_opp (G := G) f
  cases f <;> exact h
theorem mm_yes {c : Bool} {v : V} (h : true = c) : mm c v = [v] := by
  unfold mm
  rw [if_pos h.symm]
theorem mm_no {c : Bool} {v : V} (h : false = c) : mm c v = [] := by
  unfold mm
  rw [if_neg (by rw [← h]; exact Bool.false_ne_true)]
theorem EA.imp {ta : TA} {σ : L2.St} {G : Hp} {R S : List V → Hp → Prop} (h : EA ta σ G R) (k : ∀ vs G', Ex G G' → R vs G' → S vs G') : EA ta σ G S := fun H e Q q => h H e Q fun vs G' H' g p => q vs G' H' g (k vs G' g.up p)
theorem take_next {α : Type} : ∀ {l : List α} {k : Nat} {x : α}, l[k]? = some x → l.take (k + 1) = l.take k ++ [x]
  | [], k, x, h => by simp at h
  | a :: l, 0, x, h => by
    have e : a = x := Option.some.inj h
    subst e
    rfl
  | a :: l, k + 1, x, h => by
    show a :: l.take (k + 1) = a :: (l.take k ++ [x])
    rw [take_next (l := l) (k := k) (x := x) h]
theorem Srt.len_at {js : List (Int × Int)} {n : Nat} {ess : List (List Int)} (h : Srt (eo js) n ess) (i : Nat) : (ess.getD i []).length ≤ js.length := by
  by_cases hi : i < n
  · obtain ⟨x, _, e, hp, _⟩ := h.get hi
    rw [e, hp.length_eq]
    exact eo_len_le js _
  · rw [List.getD_eq_getElem?_getD, List.getElem?_eq_none (by rw [h.len]; omega)]
    exact Nat.zero_le _
theorem fan_len {js : List (Int × Int)} {n : Nat} {ess : List (List Int)} (h : Srt (eo js) n ess) {i : Nat} (hi : i ≤ n) : (fan ess i).length ≤ js.length := by
  rw [(fan_perm h i hi).length_eq]
  exact List.length_filter_le _ _
end Lw

set_option Elab.async false
set_option linter.all false
set_option maxRecDepth 100000
set_option maxHeartbeats 4000000
/-! a layout that is being made -/
namespace Lw
open PySem L2
open Evl (Ex)
def outH (H : Hp) (x : Addr) : Hp := fun a => if a = x then none else H a
theorem out_self {H : Hp} {x : Addr} : outH H x x = none := if_pos rfl
theorem out_ne {H : Hp} {x a : Addr} (h : a ≠ x) : outH H x a = H a := if_neg h
theorem out_ex {H : Hp} {x : Addr} : Ex (outH H x) H := fun a o h => by
  by_cases e : a = x
  · rw [e, out_self] at h
    cases h
  · rw [out_ne e] at h
    exact h
theorem ex_out {G H : Hp} {x : Addr} (e : Ex G H) (h : G x = none) : Ex G (outH H x) := fun a o q => by
  rw [out_ne (ne_of_none q h)]
  exact e a o q
open Classical in
/-- what is known of the objects in S, and G -/
noncomputable def pick (S : List Addr) (G H : Hp) : Hp := fun a => if a ∈ S then H a else G a
theorem pick_in {S : List Addr} {G H : Hp} {a : Addr} (h : a ∈ S) : pick S G H a = H a := if_pos h
theorem pick_gr {S : List Addr} {G Hs H : Hp} (hS : ∀ a ∈ S, Hs a = none) (e0 : Ex G Hs) (e : Ex Hs H) : Gr G (pick S G H) Hs H := by
  have no : ∀ a o, G a = some o → a ∉ S := fun a o q m => by
    have z := e0 a o q
    rw [hS a m] at z
    cases z
  refine ⟨fun a o q => ?_, fun a o q => ?_, e, fun a h g => ?_⟩
  · unfold pick
    rw [if_neg (no a o q)]
    exact q
  · unfold pick at q
    split at q
    · exact q
    · exact e a o (e0 a o q)
  · unfold pick
    rw [if_neg (fun m => h (hS a m))]
    exact g
structure AddSt (C : Addr) (H : Hp) (x : Addr) (n : Nat) (parks : List Int) (js : List (Int × Int)) (dx : Addr) (fs : List (Str × V)) (l ym e w : Addr) (ea wa : List Addr) : Prop where
  ins : H x = some (.ins C dx fs)
  fld : FLd fs (n : Int) l ym e w
  marks : H ym = some (.lst ((marksOf n parks).map V.bl))
  east : H e = some (.lst (ea.map V.ref))
  west : H w = some (.lst (wa.map V.ref))
  le : ea.length = n
  lw : wa.length = n
  ae : ∀ (b : Nat) a, ea[b]? = some a → H a = some (.lst ((eo js (b : Int)).map V.int))
  aw : ∀ (b : Nat) a, wa[b]? = some a → H a = some (.lst ((wo js (b : Int)).map V.int))
  nd : (ea ++ wa).Nodup
section
variable {K : PySem.W.Frag} {C : Addr} {H H' : Hp} {x : Addr} {n : Nat} {parks : List Int} {js : List (Int × Int)} {dx : Addr} {fs : List (Str × V)} {l ym e w : Addr} {ea wa : List Addr}
theorem AddSt.ex (s : AddSt C H x n parks js dx fs l ym e w ea wa) (h : Ex H H') : AddSt C H' x n parks js dx fs l ym e w ea wa :=
  ⟨h _ _ s.ins, s.fld, h _ _ s.marks, h _ _ s.east, h _ _ s.west, s.le, s.lw, fun b a q => h _ _ (s.ae b a q), fun b a q => h _ _ (s.aw b a q), s.nd⟩
theorem AddSt.size (s : AddSt C H x n parks js dx fs l ym e w ea wa) : SizeAt C H x (n : Int) := ⟨dx, fs, s.ins, s.fld.size⟩
theorem refs_ints {as : List Addr} {zs : List Int} (h : as.map V.ref = zs.map V.int) : as = [] := by
  cases as with
  | nil => rfl
  | cons a as =>
    cases zs with
    | nil => cases h
    | cons z zs => cases h
theorem bls_ints {bs : List Bool} {zs : List Int} (h : bs.map V.bl = zs.map V.int) : bs = [] := by
  cases bs with
  | nil => rfl
  | cons a as =>
    cases zs with
    | nil => cases h
    | cons z zs => cases h
theorem marks_len : (marksOf n parks).length = n := by
  unfold marksOf
  rw [List.length_map, List.length_range]
/-- an inner list is no other object of the layout -/
theorem AddSt.inner (s : AddSt C H x n parks js dx fs l ym e w ea wa) (h0 : 0 < n) {a : Addr} {zs : List Int} (ha : H a = some (.lst (zs.map V.int))) : x ≠ a ∧ ym ≠ a ∧ e ≠ a ∧ w ≠ a := by
  refine ⟨fun z => ?_, fun z => ?_, fun z => ?_, fun z => ?_⟩
  · have q := s.ins
    rw [z, ha] at q
    cases q
  · have q := s.marks
    rw [z, ha] at q
    have q2 := bls_ints (HO.lst.inj (Option.some.inj q)).symm
    have := marks_len (n := n) (parks := parks)
    rw [q2] at this
    simp at this
    omega
  · have q := s.east
    rw [z, ha] at q
    have q2 := refs_ints (HO.lst.inj (Option.some.inj q)).symm
    have := s.le
    rw [q2] at this
    simp at this
    omega
  · have q := s.west
    rw [z, ha] at q
    have q2 := refs_ints (HO.lst.inj (Option.some.inj q)).symm
    have := s.lw
    rw [q2] at this
    simp at this
    omega
theorem nd_ne {as bs : List Addr} (h : (as ++ bs).Nodup) {i j : Nat} {a b : Addr} (ha : as[i]? = some a) (hb : bs[j]? = some b) : a ≠ b := by
  have q := (List.nodup_append.mp h).2.2
  exact q a (List.mem_of_getElem? ha) b (List.mem_of_getElem? hb)
theorem AddSt.step (s : AddSt C H x n parks js dx fs l ym e w ea wa) {i j : Nat} {a a2 : Addr} (hi : ea[i]? = some a) (hj : wa[j]? = some a2) (h1 : H' a = some (.lst ((eo js (i : Int) ++ [(j : Int)]).map V.int))) (h2 : H' a2 = some (.lst ((wo js (j : Int) ++ [(i : Int)]).map V.int)))
    (hk : ∀ b o, b ≠ a → b ≠ a2 → H b = some o → H' b = some o) : AddSt C H' x n parks (js ++ [((i : Int), (j : Int))]) dx fs l ym e w ea wa := by
  have h0 : 0 < n := by
    have := (List.getElem?_eq_some_iff.mp hi).1
    have := s.le
    omega
  obtain ⟨n1, n2, n3, n4⟩ := s.inner h0 (s.ae i a hi)
  obtain ⟨m1, m2, m3, m4⟩ := s.inner h0 (s.aw j a2 hj)
  refine ⟨hk _ _ n1 m1 s.ins, s.fld, hk _ _ n2 m2 s.marks, hk _ _ n3 m3 s.east, hk _ _ n4 m4 s.west, s.le, s.lw, fun b c hc => ?_, fun b c hc => ?_, s.nd⟩
  · by_cases hb : i = b
    · subst hb
      rw [hi] at hc
      cases hc
      rw [eo_snoc_same]
      exact h1
    · rw [eo_snoc_ne js (by omega)]
      refine hk _ _ (fun z => hb ?_) (nd_ne s.nd hc hj) (s.ae b c hc)
      subst z
      exact nd_ix (List.nodup_append.mp s.nd).1 hi hc
  · by_cases hb : j = b
    · subst hb
      rw [hj] at hc
      cases hc
      rw [wo_snoc_same]
      exact h2
    · rw [wo_snoc_ne js (by omega)]
      refine hk _ _ (fun z => ?_) (fun z => hb ?_) (s.aw b c hc)
      · exact nd_ne s.nd hi hc z.symm
      · subst z
        exact nd_ix (List.nodup_append.mp s.nd).2.1 hj hc
end
def spAdd (C : Addr) : Sp := fun vs H Q _ => ∃ (x : Addr) (n : Nat) (parks : List Int) (js : List (Int × Int)) (dx : Addr) (fs : List (Str × V)) (l ym e w : Addr) (ea wa : List Addr) (u v : Int), vs = [.ref x, .int u, .int v] ∧ AddSt C H x n parks js dx fs l ym e w ea wa ∧ JNew (n : Int) parks js u v ∧ js.length ≤ 900 ∧
  ∀ H', AddSt C H' x n parks (js ++ [(u, v)]) dx fs l ym e w ea wa → (∀ a o, a ∉ ea → a ∉ wa → H a = some o → H' a = some o) → Q .non H'
def spInit (K : PySem.W.Frag) (C : Addr) : Sp := fun vs H Q _ => ∃ (G : Hp) (x dx : Addr) (lens : List Int) (js : List (Int × Int)) (parks : List Int) (a1 a2 a3 : Addr), vs = [.ref x, .ref a1, .ref a2, .ref a3] ∧ Ex G H ∧ G x = none ∧ H x = some (.ins C dx []) ∧
  Dp K G (.ref a1) (dI lens) ∧ Dp K G (.ref a2) (dPs js) ∧ Dp K G (.ref a3) (dI parks) ∧ 1 ≤ lens.length ∧ lens.length ≤ 200 ∧ (∀ z ∈ lens, 1 ≤ z) ∧ (∀ b ∈ parks, 0 ≤ b ∧ b < (lens.length : Int)) ∧ JOk (lens.length : Int) parks js ∧ js.length ≤ 900 ∧
  ∀ G' H', Gr G G' (outH H x) H' → LayAt K C G' x lens.length parks js → Q .non H'
section
variable {K : PySem.W.Frag} {σ : L2.St} {G H : Hp} {ta tb te : TE} {P : VP} {D : Ends}
theorem ex_fld {C dx a : Addr} {fs : List (Str × V)} {f : Str} {v : V} (ho : EF ta σ G (XV (.ref a))) (hI : G a = some (.ins C dx fs)) (hc : Cls K C) (hn : NoAttr K C f) (hl : fs.lookup f = some v) : EF (tFld K ta f) σ G (XV v) := ef_fld ho hI hc hn hl rfl
theorem ex_lenL {a : Addr} {xs : List V} (ha : EF ta σ G (XV (.ref a))) (hs : SqL K G a xs) : EF (tCB (Evl.rLenS K) (tCons ta tNil)) σ G (XV (.int (xs.length : Int))) := fun H e Q q => ha H e _ fun x G1 H1 g1 p => by
  cases (show x = .ref a from p)
  exact ⟨a, xs, rfl, .inl (Evl.ex_l (g1.up.trans g1.ok) hs), q _ G1 H1 g1 rfl⟩
theorem st_fld {C dx x : Addr} {fs : List (Str × V)} {f : Str} {tv : TE} (hi : H x = some (.ins C dx fs)) (hv : EF tv σ H P) (ho : EF ta σ H (XV (.ref x))) (hc : Cls K C) (hn : NoAttr K C f) (hl : fs.length < 1000)
    (k : ∀ y G' H', Ex H G' → Ex G' H' → P y G' → D.nx σ (upd H' x (.ins C dx (putF f y fs)))) : sFld K ta tv f D σ H := hv H (Ex.refl H) _ fun y G1 H1 g1 p1 => ho H1 g1.hp _ fun z G2 H2 g2 p2 => by
  refine ⟨x, C, dx, fs, p2, g2.hp _ _ (g1.hp _ _ hi), hc, hn, hl, ?_⟩
  exact k y G1 H2 g1.up (g1.ok.trans g2.hp) p1
theorem ef_sortI {a : Addr} {ns : List Int} (ha : EF ta σ G (XV (.ref a))) (hs : SqL K G a (ns.map V.int)) : EF (tCB (rSortedI K) (tCons ta tNil)) σ G fun v G' => ∃ (p : Addr) (ns' : List Int), v = .ref p ∧ G p = none ∧ G' p = some (.lst (ns'.map V.int)) ∧ ns'.Perm ns ∧ ns'.Pairwise (· ≤ ·) := fun H e Q q => ha H e _ fun x G1 H1 g1 p => by
  cases (show x = .ref a from p)
  refine ⟨a, ns, rfl, Evl.ex_l (g1.up.trans g1.ok) hs, fun ns' p2 h1 h2 h3 => ?_⟩
  exact q _ _ _ (g1.trans (.new g1.ok h3)) ⟨p2, ns', rfl, none_back (g1.up.trans g1.ok) h3, upd_same, h1, h2⟩
theorem putF_len (f : Str) (v : V) : ∀ fs : List (Str × V), (putF f v fs).length ≤ fs.length + 1
  | [] => Nat.le_refl _
  | (g, x) :: r => by
    unfold putF
    split
    · simp
    · have := putF_len f v r
      simp
      omega
theorem fld5 {n : Int} {l y e w : Addr} : FLd (putF "_west" (.ref w) (putF "_east" (.ref e) (putF "_yard_marks" (.ref y) (putF "_lengths" (.ref l) (putF "size" (.int n) []))))) n l y e w ∧ (putF "_west" (.ref w) (putF "_east" (.ref e) (putF "_yard_marks" (.ref y) (putF "_lengths" (.ref l) (putF "size" (.int n) []))))).length ≤ 5 := by
  refine ⟨⟨?_, ?_, ?_, ?_, ?_, fun m h1 h2 h3 h4 h5 => ?_, ?_⟩, ?_⟩
  · rw [lookup_putF, if_neg (by decide +kernel), lookup_putF, if_neg (by decide +kernel), lookup_putF, if_neg (by decide +kernel), lookup_putF, if_neg (by decide +kernel), lookup_putF, if_pos rfl]
  · rw [lookup_putF, if_neg (by decide +kernel), lookup_putF, if_neg (by decide +kernel), lookup_putF, if_neg (by decide +kernel), lookup_putF, if_pos rfl]
  · rw [lookup_putF, if_neg (by decide +kernel), lookup_putF, if_neg (by decide +kernel), lookup_putF, if_pos rfl]
  · rw [lookup_putF, if_neg (by decide +kernel), lookup_putF, if_pos rfl]
  · rw [lookup_putF, if_pos rfl]
  · rw [lookup_putF, if_neg h5, lookup_putF, if_neg h4, lookup_putF, if_neg h3, lookup_putF, if_neg h2, lookup_putF, if_neg h1]
    rfl
  all_goals
    have q1 := putF_len "size" (.int n) []
    have q2 := putF_len "_lengths" (.ref l) (putF "size" (.int n) [])
    have q3 := putF_len "_yard_marks" (.ref y) (putF "_lengths" (.ref l) (putF "size" (.int n) []))
    have q4 := putF_len "_east" (.ref e) (putF "_yard_marks" (.ref y) (putF "_lengths" (.ref l) (putF "size" (.int n) [])))
    have q5 := putF_len "_west" (.ref w) (putF "_east" (.ref e) (putF "_yard_marks" (.ref y) (putF "_lengths" (.ref l) (putF "size" (.int n) []))))
    rw [List.length_nil] at q1
    omega
theorem FLd.putE {fs : List (Str × V)} {n : Int} {l y e w e2 : Addr} (h : FLd fs n l y e w) (hl : fs.length ≤ 19) : FLd (putF "_east" (.ref e2) fs) n l y e2 w := by
  refine ⟨?_, ?_, ?_, ?_, ?_, fun m h1 h2 h3 h4 h5 => ?_, ?_⟩
  · rw [lookup_putF, if_neg (by decide +kernel)]; exact h.size
  · rw [lookup_putF, if_neg (by decide +kernel)]; exact h.lens
  · rw [lookup_putF, if_neg (by decide +kernel)]; exact h.marks
  · rw [lookup_putF, if_pos rfl]
  · rw [lookup_putF, if_neg (by decide +kernel)]; exact h.west
  · rw [lookup_putF, if_neg h4]; exact h.no m h1 h2 h3 h4 h5
  · have := putF_len "_east" (.ref e2) fs; omega
theorem FLd.putW {fs : List (Str × V)} {n : Int} {l y e w w2 : Addr} (h : FLd fs n l y e w) (hl : fs.length ≤ 19) : FLd (putF "_west" (.ref w2) fs) n l y e w2 := by
  refine ⟨?_, ?_, ?_, ?_, ?_, fun m h1 h2 h3 h4 h5 => ?_, ?_⟩
  · rw [lookup_putF, if_neg (by decide +kernel)]; exact h.size
  · rw [lookup_putF, if_neg (by decide +kernel)]; exact h.lens
  · rw [lookup_putF, if_neg (by decide +kernel)]; exact h.marks
  · rw [lookup_putF, if_neg (by decide +kernel)]; exact h.east
  · rw [lookup_putF, if_pos rfl]
  · rw [lookup_putF, if_neg h5]; exact h.no m h1 h2 h3 h4 h5
  · have := putF_len "_west" (.ref w2) fs; omega
/-- the addresses among values -/
def adrs (vs : List V) : List Addr := vs.filterMap fun v => match v with | .ref a => some a | _ => none
theorem mem_adrs {vs : List V} {a : Addr} : a ∈ adrs vs ↔ V.ref a ∈ vs := by
  unfold adrs
  rw [List.mem_filterMap]
  constructor
  · rintro ⟨v, hv, e⟩
    cases v with
    | ref b =>
      have e2 : b = a := Option.some.inj e
      subst e2
      exact hv
    | _ => cases e
  · intro h
    exact ⟨_, h, rfl⟩
theorem sq_pick {S : List Addr} {G H : Hp} {a : Addr} {xs : List V} (m : a ∈ S) (h : SqL K H a xs) : SqL K (pick S G H) a xs := by
  have e : pick S G H a = H a := pick_in m
  rcases h with (h | ⟨o, h⟩) | h
  · exact .inl (.inl (by rw [e]; exact h))
  · exact .inl (.inr ⟨o, by rw [e]; exact h⟩)
  · exact .inr h
theorem dpa_pick {S : List Addr} {G H : Hp} : ∀ {acc : List V} {ess : List (List Int)}, (∀ a, V.ref a ∈ acc → a ∈ S) → DpAll K H acc (ess.map dI) → DpAll K (pick S G H) acc (ess.map dI)
  | [], [], _, _ => .nil
  | v :: acc, z :: ess, hm, h => by
    cases h with
    | cons h1 h2 =>
      refine .cons ?_ (dpa_pick (fun a m => hm a (List.mem_cons_of_mem _ m)) h2)
      obtain ⟨a, xs, rfl, hs, hd⟩ := dp_lst h1
      rw [dpa_ints_eq hd] at hs
      exact .lst (sq_pick (hm a (List.mem_cons_self ..)) hs) (dpa_ints z)
  | [], _ :: _, _, h => nomatch h
  | _ :: _, [], _, h => nomatch h
theorem sq_upd {H : Hp} {a x : Addr} {o : HO} {xs : List V} (m : a ≠ x) (h : SqL K H a xs) : SqL K (upd H x o) a xs := by
  have e : upd H x o a = H a := upd_ne m
  rcases h with (h | ⟨o, h⟩) | h
  · exact .inl (.inl (by rw [e]; exact h))
  · exact .inl (.inr ⟨o, by rw [e]; exact h⟩)
  · exact .inr h
theorem dpa_upd {H : Hp} {x : Addr} {o : HO} : ∀ {acc : List V} {ess : List (List Int)}, (∀ a, V.ref a ∈ acc → a ≠ x) → DpAll K H acc (ess.map dI) → DpAll K (upd H x o) acc (ess.map dI)
  | [], [], _, _ => .nil
  | v :: acc, z :: ess, hm, h => by
    cases h with
    | cons h1 h2 =>
      refine .cons ?_ (dpa_upd (fun a m => hm a (List.mem_cons_of_mem _ m)) h2)
      obtain ⟨a, xs, rfl, hs, hd⟩ := dp_lst h1
      rw [dpa_ints_eq hd] at hs
      exact .lst (sq_upd (hm a (List.mem_cons_self ..)) hs) (dpa_ints z)
  | [], _ :: _, _, h => nomatch h
  | _ :: _, [], _, h => nomatch h
end
end Lw

set_option Elab.async false
set_option linter.all false
set_option maxRecDepth 100000
set_option maxHeartbeats 4000000
/-! ints of any size, types, sameness -/
namespace Lw
open PySem L2
open Evl (Ex)
def rAbsI : List V → Hp → VK → Prop := fun xs H Q => ∃ i, xs = [.int i] ∧ Q (.int (if i < 0 then -i else i)) H
def rIntI : List V → Hp → VK → Prop := fun xs H Q => (∃ i, xs = [.int i] ∧ Q (.int i) H) ∨ ∃ k, xs = [.bl k] ∧ Q (.int (if k then 1 else 0)) H
def rMinI : List V → Hp → VK → Prop := fun xs H Q => ∃ i j, xs = [.int i, .int j] ∧ Q (.int (if j < i then j else i)) H
def rIsNone : R2 := fun x y H Q => y = .non ∧ Q (.bl (decide (x = .non))) H
section
variable {K : PySem.W.Frag} {σ : L2.St} {G H : Hp} {ta tb te : TE} {P : VP} {D : Ends} {p q s : Int → Prop}
theorem ei_abs (ha : EF ta σ G (IV p)) : EF (tCB rAbsI (tCons ta tNil)) σ G (IV fun _ => True) := fun H e Q k => ha H e _ fun x G1 H1 g1 ⟨z, ez, _⟩ => ⟨z, by rw [ez], k _ G1 H1 g1 ⟨_, rfl, trivial⟩⟩
theorem ei_int (ha : EF ta σ G (IV p)) : EF (tCB rIntI (tCons ta tNil)) σ G (IV p) := fun H e Q k => ha H e _ fun x G1 H1 g1 ⟨z, ez, hz⟩ => .inl ⟨z, by rw [ez], k _ G1 H1 g1 ⟨_, rfl, hz⟩⟩
theorem ei_min (ha : EF ta σ G (IV p)) (hb : EF tb σ G (IV q)) (h : ∀ a b, p a → q b → s (if b < a then b else a)) : EF (tCB rMinI (tCons ta (tCons tb tNil))) σ G (IV s) := fun H e Q k => (ea_two mo_IV mo_IV ha hb) H e _ fun vs G1 H1 g1 ⟨x, y, ev, ⟨a, ea, pa⟩, ⟨b, eb, pb⟩⟩ =>
  ⟨a, b, by rw [ev, ea, eb], k _ G1 H1 g1 ⟨_, rfl, h a b pa pb⟩⟩
theorem ei_mod {n : Int} (ha : EF ta σ G (IV p)) (hb : EF tb σ G (IV (· = n))) (hn : 0 < n) (h : ∀ a, p a → s (a % n)) : EF (tOp (rI (fun _ j => 0 < j) fun i j => .int (i % j)) ta tb) σ G (IV s) :=
  ei_opC ha hb (fun a b _ hb => by rw [hb]; exact hn) fun a b G' pa pb => ⟨_, rfl, by rw [pb]; exact h a pa⟩
theorem ei_div {n : Int} (ha : EF ta σ G (IV p)) (hb : EF tb σ G (IV (· = n))) (hn : 0 < n) (hm : n < 1000000) (h : ∀ a, p a → s (a / n)) : EF (tOp (rI CDiv fun i j => .int (i / j)) ta tb) σ G (IV s) :=
  ei_opC ha hb (fun a b _ hb => by rw [hb]; exact ⟨hn, by omega⟩) fun a b G' pa pb => ⟨_, rfl, by rw [pb]; exact h a pa⟩
theorem ei_mul (ha : EF ta σ G (IV p)) (hb : EF tb σ G (IV q)) (hc : ∀ a, p a → -1000000000000 < a ∧ a < 1000000000000) (h : ∀ a b, p a → q b → s (a * b)) : EF (tOp (rI CMul fun i j => .int (i * j)) ta tb) σ G (IV s) :=
  ei_opC ha hb (fun a b pa _ => .inl (by have := hc a pa; omega)) fun a b G' pa pb => ⟨_, rfl, h a b pa pb⟩
/-- a comparison of ints -/
theorem ec_int {f : Int → Int → Bool} {s : Bool → Prop} (ha : EF ta σ G (IV p)) (hb : EF tb σ G (IV q)) (h : ∀ a b, p a → q b → s (f a b)) : EF (tOp (rI0 fun i j => .bl (f i j)) ta tb) σ G (BV s) := ei_op0 ha hb fun a b _ pa pb => ⟨_, rfl, h a b pa pb⟩
theorem iv_any (h : EF te σ G (IV p)) : EF te σ G (IV fun _ => True) := h.imp fun v _ _ ⟨z, e, _⟩ => ⟨z, e, trivial⟩
theorem EF.ivp {z : Int} (h : EF te σ G (XV (.int z))) (hz : p z) : EF te σ G (IV p) := h.imp fun v _ _ e => ⟨z, e, hz⟩
/-- a call whose arguments are ints -/
theorem ei_draw {E : XK} {tc tk tn : TE} {n : Int} (hc : EF tc σ G (IV fun _ => True)) (hk : EF tk σ G (IV fun z => 0 ≤ z ∧ z ≤ 2000)) (hn : EF tn σ G (IV (· = n))) (h1 : 1 ≤ n) (h2 : n ≤ 2000) : EF (tCall spDraw [] E (tCons tc (tCons tk (tCons tn tNil)))) σ G (IV fun z => 0 ≤ z ∧ z < n) :=
  ef_call (ea_three mo_IV mo_IV mo_IV hc hk hn) fun vs G' _ ⟨x, y, z, ev, ⟨a, ea, _⟩, ⟨b, eb, hb⟩, ⟨c, ec, hc⟩⟩ => by
    subst ev ea eb ec
    subst hc
    exact sa_draw hb.1 hb.2 h1 h2
/-! what a value's type is -/
inductive Ki where | i | s | l | t
def nameK : Ki → String | .i => "int" | .s => "str" | .l => "list" | .t => "tuple"
def kiOf : PyData → Option Ki | .int _ => some .i | .str _ => some .s | .list _ => some .l | .tuple _ => some .t | _ => none
theorem ty_sl {a : Addr} {xs : List V} (h : SqL K G a xs) : TyX K G (.ref a) (.type "list") := by
  rcases h with (h | ⟨o, h⟩) | ⟨o, its, n, h1, h2, _⟩
  · exact .base (.lst h)
  · exact .base (.frz h)
  · exact .kList h1 h2
theorem ty_st {a : Addr} {xs : List V} (h : SqT K G a xs) : TyX K G (.ref a) (.type "tuple") := by
  rcases h with (h | ⟨o, h⟩) | ⟨o, its, n, h1, h2, _⟩
  · exact .base (.tup h)
  · exact .fTuple h
  · exact .kTuple h1 h2
theorem ty_of {v : V} {d : PyData} {k : Ki} (h : Dp K G v d) (hk : kiOf d = some k) : TyX K G v (.type (nameK k)) := by
  cases h with
  | non => cases hk
  | bl b => cases hk
  | int z => cases hk; exact .base (.int z)
  | str z => cases hk; exact .base (.str z)
  | lst hs _ => cases hk; exact ty_sl hs
  | tup hs _ => cases hk; exact ty_st hs
theorem ex_isi {v : V} {d : PyData} {k : Ki} {c : String} {r : Bool} (ha : EF ta σ G (XV v)) (hb : EF tb σ G (XV (.ty c))) (hd : Dp K G v d) (hk : kiOf d = some k) (hr : kitB (nameK k) c = some r) : EF (tCB (rIsi K) (tCons ta (tCons tb tNil))) σ G (XV (.bl r)) :=
  ef_cb (ea_two mo_XV mo_XV ha hb) fun vs G' e ⟨x, y, ev, hx, hy⟩ => by
    subst ev
    cases (show x = v from hx)
    cases (show y = .ty c from hy)
    exact fun H e2 Q q => ⟨v, .ty c, _, _, r, rfl, .ty c, ty_of (dpx hd (e.trans e2)) hk, kit_ty hr, q _ G' H (.refl e2) rfl⟩
theorem ex_isN {v : V} (ha : EF ta σ G (XV v)) (hb : EF tb σ G (XV .non)) : EF (tOp rIsNone ta tb) σ G (XV (.bl (decide (v = .non)))) := ef_op mo_XV mo_XV ha hb fun x y G' _ hx hy => by
  cases (show x = v from hx)
  cases (show y = .non from hy)
  exact fun H e Q k => ⟨rfl, k _ G' H (.refl e) rfl⟩
theorem ex_isC {v : V} {c : Bool} (ha : EF ta σ G (XV v)) (hb : EF tb σ G (XV (.bl c))) : EF (tOp (rIsC c) ta tb) σ G (XV (.bl (decide (v = .bl c)))) := ef_op mo_XV mo_XV ha hb fun x y G' _ hx hy => by
  cases (show x = v from hx)
  cases (show y = .bl c from hy)
  exact fun H e Q k => ⟨rfl, k _ G' H (.refl e) rfl⟩
theorem okd_ki {n : Nat} {d : PyData} (h : Okd n d) : ∃ k, kiOf d = some k := by
  cases d with
  | int z => exact ⟨_, rfl⟩
  | str z => exact ⟨_, rfl⟩
  | list z => exact ⟨_, rfl⟩
  | tuple z => exact ⟨_, rfl⟩
  | _ => cases n <;> exact h.elim
theorem dp_not {v : V} {d : PyData} {k : Ki} (h : Dp K G v d) (hk : kiOf d = some k) : v ≠ .non ∧ ∀ b, v ≠ .bl b := by
  cases h with
  | non => cases hk
  | bl b => cases hk
  | int z => exact ⟨(fun z => nomatch z), (fun b z => nomatch z)⟩
  | str z => exact ⟨(fun z => nomatch z), (fun b z => nomatch z)⟩
  | lst hs _ => exact ⟨(fun z => nomatch z), (fun b z => nomatch z)⟩
  | tup hs _ => exact ⟨(fun z => nomatch z), (fun b z => nomatch z)⟩
/-- a list or a tuple -/
def SqA (K : PySem.W.Frag) (G : Hp) (v : V) (xs : List V) : Prop := ∃ a, v = .ref a ∧ (SqL K G a xs ∨ SqT K G a xs)
theorem SqA.ex {G' : Hp} {v : V} {xs : List V} (h : SqA K G v xs) (e : Ex G G') : SqA K G' v xs := by
  obtain ⟨a, rfl, h⟩ := h
  exact ⟨a, rfl, h.elim (fun h => .inl (Evl.ex_l e h)) fun h => .inr (Evl.ex_t e h)⟩
theorem ex_lenA {v : V} {xs : List V} (ha : EF ta σ G (XV v)) (hs : SqA K G v xs) : EF (tCB (Evl.rLenS K) (tCons ta tNil)) σ G (XV (.int (xs.length : Int))) := fun H e Q q => ha H e _ fun x G1 H1 g1 p => by
  cases (show x = v from p)
  obtain ⟨a, rfl, h⟩ := hs.ex (g1.up.trans g1.ok)
  exact ⟨a, xs, rfl, h, q _ G1 H1 g1 rfl⟩
theorem ex_ixA {v : V} {xs : List V} {i : Nat} {u : V} (ha : EF ta σ G (XV v)) (hb : EF tb σ G (XV (.int (i : Int)))) (hs : SqA K G v xs) (hu : xs[i]? = some u) : EF (tOp (rIx K) ta tb) σ G (XV u) := ef_op mo_XV mo_XV ha hb fun x y G' e1 hx hy => by
  cases (show x = v from hx)
  cases (show y = .int (i : Int) from hy)
  refine fun H e Q k => ?_
  obtain ⟨a, rfl, h⟩ := hs.ex (e1.trans e)
  rcases h with h | h
  · exact .inl ⟨a, xs, _, u, rfl, rfl, h, atI_of rfl hu, k _ G' H (.refl e) rfl⟩
  · exact .inr (.inl ⟨a, xs, _, u, rfl, rfl, h, atI_of rfl hu, k _ G' H (.refl e) rfl⟩)
end
end Lw

set_option Elab.async false
set_option linter.all false
set_option maxRecDepth 100000
set_option maxHeartbeats 4000000
/-! how many of a list of pairs have this number; drawn lists -/
namespace Lw
open PySem L2
open Evl (Ex)
section
variable {K : PySem.W.Frag} {σ : L2.St} {G H : Hp} {ta tb te tl : TE} {P : VP}
/-- the i-th of a pair of ints -/
theorem ei_pair {q : Int × Int} {v : V} {i : Nat} {z : Int} (ha : EF ta σ G (XV v)) (hv : Dp K G v (dP q)) (hb : EF tb σ G (XV (.int (i : Int)))) (hz : ([PyData.int q.1, .int q.2])[i]? = some (.int z)) : EF (tOp (rIxT K) ta tb) σ G (XV (.int z)) := by
  obtain ⟨a, xs, rfl, hs, hd⟩ := dp_tup hv
  obtain ⟨u, hu, du⟩ := dpa_get' hd hz
  cases du
  exact ex_ixT ha hb hs hu
theorem ef_cnt {a : Addr} {xs : List V} {js : List (Int × Int)} {j so i0 : Nat} {o : Int} {sel : Int × Int → Int} (hsel : ∀ p : Int × Int, ([PyData.int p.1, .int p.2])[i0]? = some (.int (sel p))) (h : EF tl σ G (XV (.ref a))) (hs : SqL K G a xs) (hx : DpAll K G xs (js.map dP)) (hlen : js.length ≤ 1000)
    (hw : ∀ x, wipe ((wipe σ [j]).set j (some x)) [j] = wipe σ [j]) (h1 : ∀ x, ((wipe σ [j]).set j (some x))[j]? = some (some x)) (h2 : ∀ x, ((wipe σ [j]).set j (some x))[so]? = some (some (.int o))) :
    EF (tCB (Evl.rLenS K) (tCons (tLc (iList K tl) (gName j) (tTest (tOp rEq (tOp (rIxT K) (tVar j) (tC (.int (i0 : Int)))) (tVar so))) (tVar j) [j]) tNil)) σ G (XV (.int (((js.filter fun p => decide (sel p = o)).length : Nat) : Int))) := by
  have hl : xs.length = js.length := by rw [dpa_len hx, List.length_map]
  have inner : EF (tLc (iList K tl) (gName j) (tTest (tOp rEq (tOp (rIxT K) (tVar j) (tC (.int (i0 : Int)))) (tVar so))) (tVar j) [j]) σ G fun v G' => ∃ q ys, v = .ref q ∧ G' q = some (.lst ys) ∧ ys.length = (js.filter fun p => decide (sel p = o)).length := by
    refine ef_lcL (xs := xs) (fun i acc G' => acc.length = ((js.take i).filter fun p => decide (sel p = o)).length) (h.imp fun v G' e p => ⟨a, p, Evl.ex_l e hs⟩) (by omega) hw (fun G' _ => rfl) (fun i x acc G' e1 hi hI => ?_) (fun p acc G' h1 h2 e1 _ hI => ⟨p, acc, rfl, upd_same, ?_⟩)
    · obtain ⟨d, hd, dx⟩ := dpa_get (dpax hx e1) hi
      rw [List.getElem?_map] at hd
      obtain ⟨q, hq, rfl⟩ := Option.map_eq_some_iff.mp hd
      refine ec_if (p := (· = decide (sel q = o))) (et_test (ei_eq (EF.iv (ei_pair (ef_var (h1 x) rfl) dx ex_c (hsel q))) (EF.iv (ef_var (h2 x) rfl)) fun a b ha hb => by rw [ha, hb])) (fun hb => ?_) (fun hb => ?_)
      · refine ef_var (h1 x) ?_
        rw [take_next hq, List.filter_append, List.length_append, List.length_append, hI, List.filter_cons, if_pos hb.symm]
        rfl
      · rw [take_next hq, List.filter_append, List.length_append, hI, List.filter_cons, if_neg (by rw [← hb]; exact Bool.false_ne_true)]
        rfl
    · rw [hI, hl, List.take_length]
  refine ef_cb (ea_one inner) fun vs G' e ⟨x, ev, p, ys, ex, hp, hy⟩ => ?_
  subst ev ex
  exact fun H e2 Q q => ⟨p, ys, rfl, .inl (Evl.sq_of (e2 _ _ hp)), q _ G' H (.refl e2) (by show V.int _ = V.int _; rw [hy])⟩
theorem eo_len (js : List (Int × Int)) (o : Int) : (js.filter fun p => decide (p.1 = o)).length = (eo js o).length := by
  unfold eo
  rw [List.length_map]
theorem wo_len (js : List (Int × Int)) (o : Int) : (js.filter fun p => decide (p.2 = o)).length = (wo js o).length := by
  unfold wo
  rw [List.length_map]
/-- a new list of ints of which p holds -/
def DL (p : List Int → Prop) : VP := fun v G' => ∃ (q : Addr) (ns : List Int), v = .ref q ∧ G' q = some (.lst (ns.map V.int)) ∧ p ns
theorem ef_lens {ta : TA} {j : Nat} {n : Int} (h : EA ta σ G fun us _ => us = [.int n]) (hn : 0 ≤ n ∧ n ≤ 1000) (hw : ∀ x, wipe ((wipe σ [j]).set j (some x)) [j] = wipe σ [j]) (he : ∀ (i : Nat) G', Ex G G' → (i : Int) < n → EF te ((wipe σ [j]).set j (some (.int (i : Int)))) G' (IV fun z => 1 ≤ z)) :
    EF (tLc (iRng1 ta) (gName j) tYes te [j]) σ G (DL fun ns => (ns.length : Int) = n ∧ ∀ z ∈ ns, 1 ≤ z) := by
  refine ef_lcR1 (n := n) (fun i xs G' => ∃ ns : List Int, xs = ns.map V.int ∧ ns.length = i ∧ ∀ z ∈ ns, 1 ≤ z) h ⟨hn.1, by omega⟩ hw (fun G' _ => ⟨[], rfl, rfl, fun z m => nomatch m⟩) (fun i xs G' e1 hi ⟨ns, ex, hl, hp⟩ => ec_all ((he i G' e1 hi).imp fun v G2 _ ⟨z, ez, hz⟩ => ⟨ns ++ [z], by rw [ex, ez, List.map_append]; rfl, by rw [List.length_append, hl]; rfl, fun y m => ?_⟩)) (fun p xs G' h1 h2 _ _ ⟨ns, ex, hl, hp⟩ => ⟨p, ns, rfl, by rw [upd_same, ex], by omega, hp⟩)
  rcases List.mem_append.mp m with m | m
  · exact hp y m
  · have e : y = z := by simpa using m
    rw [e]
    exact hz
theorem ef_parks {ta : TA} {j : Nat} {n : Int} {t : TT} (h : EA ta σ G fun us _ => us = [.int n]) (hn : 0 ≤ n ∧ n ≤ 1000) (hw : ∀ x, wipe ((wipe σ [j]).set j (some x)) [j] = wipe σ [j]) (hj : ∀ x, ((wipe σ [j]).set j (some x))[j]? = some (some x)) (ht : ∀ (i : Nat) G', Ex G G' → (i : Int) < n → ET t ((wipe σ [j]).set j (some (.int (i : Int)))) G' fun _ => True) :
    EF (tLc (iRng1 ta) (gName j) t (tVar j) [j]) σ G (DL fun ns => (ns.length : Int) ≤ n ∧ ∀ z ∈ ns, 0 ≤ z ∧ z < n) := by
  refine ef_lcR1 (n := n) (fun i xs G' => ∃ ns : List Int, xs = ns.map V.int ∧ ns.length ≤ i ∧ ∀ z ∈ ns, 0 ≤ z ∧ z < n) h ⟨hn.1, by omega⟩ hw (fun G' _ => ⟨[], rfl, Nat.le_refl _, fun z m => nomatch m⟩) (fun i xs G' e1 hi ⟨ns, ex, hl, hp⟩ => ec_if (ht i G' e1 hi) (fun _ => ef_var (hj _) ⟨ns ++ [(i : Int)], by rw [ex, List.map_append]; rfl, by rw [List.length_append]; exact Nat.succ_le_succ hl, fun y m => ?_⟩) (fun _ => ⟨ns, ex, by omega, hp⟩)) (fun p xs G' h1 h2 _ _ ⟨ns, ex, hl, hp⟩ => ⟨p, ns, rfl, by rw [upd_same, ex], by omega, hp⟩)
  rcases List.mem_append.mp m with m | m
  · exact hp y m
  · have e : y = (i : Int) := by simpa using m
    rw [e]
    omega
theorem dl_dp {p : List Int → Prop} {v : V} (h : DL p v G) : ∃ q ns, v = .ref q ∧ G q = some (.lst (ns.map V.int)) ∧ p ns ∧ Dp K G v (dI ns) := by
  obtain ⟨q, ns, ev, hq, hp⟩ := h
  exact ⟨q, ns, ev, hq, hp, by rw [ev]; exact dp_mkL hq (dpa_ints ns)⟩
/-- the state of the loops that draw joints: p the list -/
def JSt (K : PySem.W.Frag) (G1 H1 H' : Hp) (p : Addr) (n : Int) (parks : List Int) (most : Nat) (R : List (Int × Int) → Prop) : Prop := ∃ G' xs js, Gr G1 G' H1 H' ∧ G' p = none ∧ H' p = some (.lst xs) ∧ DpAll K G' xs (js.map dP) ∧ JOk n parks js ∧ js.length ≤ most ∧ R js
theorem JSt.up {G1 H1 H' H2 : Hp} {p : Addr} {n : Int} {parks : List Int} {m m' : Nat} {R R' : List (Int × Int) → Prop} (h : JSt K G1 H1 H' p n parks m R) (e : Ex H' H2) (hm : m ≤ m') (hR : ∀ js, R js → R' js) : JSt K G1 H1 H2 p n parks m' R' := by
  obtain ⟨G', xs, js, g, gp, hp, hx, hj, hl, r⟩ := h
  exact ⟨G', xs, js, g.then e, gp, e _ _ hp, hx, hj, Nat.le_trans hl hm, hR js r⟩
theorem Gr.put {G G' H H' : Hp} {p : Addr} {o : HO} (g : Gr G G' H H') (hp : H p = none) (gp : G' p = none) : Gr G G' H (upd H' p o) := ⟨g.up, ex_off g.ok gp, ex_off g.hp hp, g.2.2.2⟩
/-- 5 * block + d -/
theorem ei_k5 {j : Nat} {b d : Int} (h : σ[j]? = some (some (.int b))) (h0 : 0 ≤ b ∧ b ≤ 300) (hd : 0 ≤ d ∧ d ≤ 100) : EF (tOp (rI0 fun i j => .int (i + j)) (tOp (rI CMul fun i j => .int (i * j)) (tC (.int 5)) (tVar j)) (tC (.int d))) σ G (IV (· = 5 * b + d)) :=
  ei_add (p := (· = 5 * b)) (q := (· = d)) (ei_mul (p := (· = 5)) (q := (· = b)) (EF.iv ex_c) (EF.iv (ex_var h)) (fun a ha => by omega) fun a b ha hb => by rw [ha, hb]) (EF.iv ex_c) fun a b ha hb => by rw [ha, hb]
theorem EF.ivw {p q : Int → Prop} (h : EF te σ G (IV p)) (k : ∀ z, p z → q z) : EF te σ G (IV q) := h.imp fun v _ _ ⟨z, e, hz⟩ => ⟨z, e, k z hz⟩
/-- no joint more at a plain end that has two -/
theorem et_crowd {parks : List Int} {o : Int} {m : Nat} {b : Bool} {ta tb tc : TE} (hp : EF ta σ G (XV (.int o))) (hq : EF tb σ G (DV K (dI parks))) (hc : EF tc σ G (XV (.int (m : Int)))) :
    ET (tAnd (tTest (tOp (rNotInD K) ta tb)) (tTest (tOp rEq tc (tC (.int 2))))) σ G (· = (!decide (o ∈ parks) && decide (m = 2))) :=
  et_and (p := (· = !decide (o ∈ parks))) (q := (· = decide (m = 2))) (et_test ((ed_niD (d := .int o) (ds := parks.map PyData.int) (EF.dv hp (.int o)) hq (sh_int _) (sh_ints _)).imp fun v _ _ ⟨b, e, hb⟩ => ⟨b, e, by rw [hb, any_int]⟩)) (fun _ => et_test (ei_eq (EF.iv hc) (EF.iv ex_c) fun x y hx hy => by
    rw [hx, hy]
    by_cases h : m = 2
    · rw [h]; rfl
    · rw [decide_eq_false h, decide_eq_false (by omega)])) (fun h b hb => by rw [← h, hb]; rfl) (fun h => by rw [← h]; rfl)
end
end Lw

set_option Elab.async false
set_option linter.all false
set_option maxRecDepth 100000
set_option maxHeartbeats 4000000
/-! sorted of pairs by what they are; a new layout; a call by keywords -/
namespace Lw
open PySem L2
open Evl (Ex)
open PyProof.Rows
/-- the pair that a value is -/
def keyP (h : Heap) (v : Value) : Int × Int := match v with
  | .ref t => (match h.get? t with
    | some o => (match o.data with
      | .seq arr _ => (match arr.toList with | [.int x _, .int y _] => (x, y) | _ => (0, 0))
      | _ => (0, 0))
    | none => (0, 0))
  | _ => (0, 0)
theorem keyP_of {h : Heap} {t : Addr} {o : Obj} {x y : Int} {t1 t2 : Tok} {n : Nat} (ho : h.get? t = some o) (hd : o.data = .seq #[.int x t1, .int y t2] n) : keyP h (.ref t) = (x, y) := by
  unfold keyP
  simp only [ho, hd]
def rSortPD (K : PySem.W.Frag) : List V → Hp → VK → Prop := fun vs H Q => ∃ (G : Hp) (a : Addr) (xs : List V) (js : List (Int × Int)), Ex G H ∧ vs = [V.ref a] ∧ SqL K H a xs ∧ DpAll K G xs (js.map dP) ∧
  ∀ (ys : List V) (js' : List (Int × Int)) (p : Addr), DpAll K G ys (js'.map dP) → js'.Perm js → js'.Pairwise lexLe → H p = none → Q (.ref p) (upd H p (.lst ys))
section
variable {X : Cx}
theorem pair_facts {pins : List (Addr × Obj)} {σ : L2.St} {G H : Hp} {s : Shared} (I : Inv X pins σ H s) (e : Ex G H) : ∀ {xs : List V} {js : List (Int × Int)} {its : List Value}, DpAll X.K G xs (js.map dP) → Vals xs its →
    its.map (keyP s.heap) = js ∧ ∀ v ∈ its, Srt.IsPair s.heap v (keyP s.heap v).1 (keyP s.heap v).2 ∧ ∃ t, v = .ref t ∧ Dp X.K G (.ref t) (dP (keyP s.heap v))
  | [], [], _, _, .nil => ⟨rfl, fun v m => nomatch m⟩
  | x :: xs, q :: js, _, h, .cons rx rt => by
    rename_i v its
    cases h with
    | cons h1 h2 =>
      obtain ⟨e1, e2⟩ := pair_facts I e (js := js) h2 rt
      obtain ⟨t, ys, rfl, hs, hd⟩ := dp_tup h1
      have eys : ys = [.int q.1, .int q.2] := dpa_ints_eq (zs := [q.1, q.2]) hd
      have hs' := hs
      rw [eys] at hs'
      cases (show v = Value.ref t from rx)
      obtain ⟨its2, r2, ⟨o, ho, hc, n, hdt⟩, _⟩ := I.tuple (Evl.ex_t e hs')
      obtain ⟨u1, u2, rfl, ri, rj⟩ := vals2 r2
      obtain ⟨t1, rfl⟩ := ri
      obtain ⟨t2, rfl⟩ := rj
      have kq : keyP s.heap (.ref t) = q := keyP_of ho hdt
      refine ⟨by rw [List.map_cons, e1, kq], fun v m => ?_⟩
      rcases List.mem_cons.mp m with e3 | m
      · subst e3
        rw [kq]
        exact ⟨⟨t, o, t1, t2, n, rfl, ho, hc, hdt⟩, t, rfl, h1⟩
      · exact e2 v m
  | [], _ :: _, _, h, _ => nomatch h
  | _ :: _, [], _, h, _ => nomatch h
theorem dpa_map {K : PySem.W.Frag} {H : Hp} {f : Value → V} {k : Value → Int × Int} : ∀ {out : List Value}, (∀ v ∈ out, Dp K H (f v) (dP (k v))) → DpAll K H (out.map f) ((out.map k).map dP)
  | [], _ => .nil
  | v :: out, h => .cons (h v (List.mem_cons_self ..)) (dpa_map fun u m => h u (List.mem_cons_of_mem _ m))
theorem cr_sortPD : CallR X (.builtin "sorted") (rSortPD X.K) := by
  intro pins s σ H vs us Q I r h
  obtain ⟨G, a, xs, js, eG, rfl, hs, hx, q⟩ := h
  obtain ⟨its, rv, hl, hz⟩ := I.list hs
  obtain ⟨u, eu, ru⟩ := vals1 r
  subst eu
  cases (show u = Value.ref a from ru)
  obtain ⟨ek, hp⟩ := pair_facts I eG hx rv
  have hlen := rv.length
  refine SrtO.sorted_pairsO (k := keyP s.heap) hl.isList (by omega) (fun v m => (hp v m).1) fun h' d out h1 h2 kp hd hn => ?_
  have ho : ∀ v ∈ out, ∃ t, v = Value.ref t := fun v m => by
    obtain ⟨t, e, _⟩ := (hp v (h2.perm.mem_iff.mp m)).2
    exact ⟨t, e⟩
  have hd2 : ∀ v ∈ out, Dp X.K G (backV v) (dP (keyP s.heap v)) := fun v m => by
    obtain ⟨t, e, z⟩ := (hp v (h2.perm.mem_iff.mp m)).2
    subst e
    exact z
  obtain ⟨n, hn⟩ := hn
  have hj : (out.map (keyP s.heap)).Perm js := by
    rw [← ek]
    exact h2.perm.map _
  have hsz : (out.map backV).length ≤ sizeLine := by
    rw [List.length_map, h2.perm.length_eq, ← hlen]
    exact hz
  refine ⟨.ref d, upd H d (.lst (out.map backV)), I.laid (t' := s.toks) kp hd ⟨hsz, out, n, vals_back ho, hn⟩, rfl, q _ _ d (dpa_map hd2) hj ?_ (I.hok.fresh hd)⟩
  refine List.pairwise_map.mpr (List.Pairwise.imp (fun {x y} hxy => ?_) h1)
  have z := SrtO.lexB_no.mp hxy
  unfold lexLe
  omega
end
section
variable {K : PySem.W.Frag} {σ : L2.St} {G H : Hp} {ta tb te tc td : TE} {P : VP}
theorem ef_sortPD {a : Addr} {xs : List V} {js : List (Int × Int)} (ha : EF ta σ G (XV (.ref a))) (hs : SqL K G a xs) (hx : DpAll K G xs (js.map dP)) : EF (tCB (rSortPD K) (tCons ta tNil)) σ G fun v G' => ∃ l : List (Int × Int), l.Perm js ∧ l.Pairwise lexLe ∧ Dp K G' v (dPs l) := fun H e Q q => ha H e _ fun x G1 H1 g1 p => by
  cases (show x = .ref a from p)
  refine ⟨G1, a, xs, js, g1.ok, rfl, Evl.ex_l (g1.up.trans g1.ok) hs, dpax hx g1.up, fun ys js' p2 h1 h2 h3 h4 => ?_⟩
  exact q _ _ _ (g1.trans (.new g1.ok h4)) ⟨js', h2, h3, dp_mkL upd_same (dpax h1 (ex_in (none_back g1.ok h4)))⟩
theorem Gr.low {G G' H H2 H' : Hp} (g : Gr G G' H2 H') (e : Ex H H2) : Gr G G' H H' := ⟨g.up, g.ok, e.trans g.hp, fun a h ga => g.2.2.2 a (exNe e h) ga⟩
theorem sa_jd' {C : Addr} {p : Addr} {n : Nat} {parks : List Int} {js : List (Int × Int)} {w e : Int} (f : Bool) (h : LayAt K C G p n parks js) (h0 : 0 ≤ w) (h1 : w < e) (h2 : e < (n : Int)) : SA (spJd K C) [.ref p, .int (if f = true then w else e), .int (if f = true then e else w)] G (FL K G (wantD parks js w e)) :=
  fun H ex Q E q => sa_jd f h h0 h1 h2 H ex Q E fun v G' H' g ⟨r, xs, ev, hr, hg, hd⟩ => q v G' H' g ⟨r, xs, ev, none_back ex hr, hg, hd⟩
theorem sa_wanted {x : V} {t : Trk} {w e : Int} (hx : Dp K G x (dT t)) (ht : t.joints.length ≤ 900) : SA (spWanted K) [x, .int w, .int e] G (DV K (.list (wantD t.parks t.joints w e))) := fun H ex Q _ q => ⟨G, x, t, w, e, ex, rfl, hx, ht, q⟩
theorem sa_meet1 {C : Addr} {p : Addr} {n : Nat} {parks : List Int} {js : List (Int × Int)} {w e : Int} {x : V} (h : LayAt K C G p n parks js) (h0 : 0 ≤ w) (h1 : w < e) (h2 : e < (n : Int)) (hx : Dp K G x (.list (wantD parks js w e))) : SA (spMeet K C) [.ref p, x, .int w, .int e] G (XV (.bl true)) := fun H ex Q _ q => ⟨G, p, n, parks, js, w, e, true, x, ex, rfl, h, h0, h1, h2, hx, q⟩
theorem sa_meet2 {C : Addr} {p : Addr} {n : Nat} {parks : List Int} {js : List (Int × Int)} {w e : Int} {x : V} (h : LayAt K C G p n parks js) (h0 : 0 ≤ w) (h1 : w < e) (h2 : e < (n : Int)) (hx : Dp K G x (.list (wantD parks js w e))) : SA (spMeet K C) [.ref p, x, .int e, .int w] G (XV (.bl true)) := fun H ex Q _ q => ⟨G, p, n, parks, js, w, e, false, x, ex, rfl, h, h0, h1, h2, hx, q⟩
theorem ef_callK0 {sp : Sp} {gV : List V → List V → List V} {E : XK} {tk : TA} {R : List V → Hp → Prop} (h : EA tk σ G R) (hr : ∀ zs G', Ex G G' → R zs G' → SA sp (gV [] zs) G' P) : EF (tCallK sp gV E tNil tk) σ G P := fun H e Q q =>
  h H e _ fun zs G1 H1 g1 p1 => hr zs G1 g1.up p1 H1 g1.ok Q E fun v G2 H2 g2 p2 => q v G2 H2 (g1.trans g2) p2
theorem ef_make {C : Addr} {E : XK} {t tk : TA} {lens : List Int} {js : List (Int × Int)} {parks : List Int} (h : EA t σ G fun vs G' => ∃ a1 a2, vs = [.ref a1, .ref a2] ∧ Dp K G' (.ref a1) (dI lens) ∧ Dp K G' (.ref a2) (dPs js)) (hk : EA tk σ G fun zs G' => ∃ a3, zs = [.ref a3] ∧ Dp K G' (.ref a3) (dI parks))
    (n1 : 1 ≤ lens.length) (n2 : lens.length ≤ 200) (hl : ∀ z ∈ lens, 1 ≤ z) (hp : ∀ b ∈ parks, 0 ≤ b ∧ b < (lens.length : Int)) (hJ : JOk (lens.length : Int) parks js) (hj : js.length ≤ 900) :
    EF (tMakeK C 2 1 (spInit K C) (fun vs zs => vs ++ zs) E t tk) σ G fun v G' => ∃ x, v = .ref x ∧ LayAt K C G' x lens.length parks js := fun H e Q q =>
  h H e _ fun vs G1 H1 g1 ⟨a1, a2, ev, d1, d2⟩ => hk H1 (g1.up.trans g1.ok) _ fun zs G2 H2 g2 ⟨a3, ez, d3⟩ => by
    obtain ⟨G3, f1, f2, g3⟩ := g1.join g2
    subst ev ez
    refine ⟨rfl, rfl, fun x dx hx hdx hne => ?_⟩
    have ex2 : Ex H2 (outH (upd (upd H2 dx (.own x)) x (.ins C dx [])) x) := fun a o ha => by
      rw [out_ne (ne_of_none ha hx), upd_ne (ne_of_none ha hx), upd_ne (ne_of_none ha hdx)]
      exact ha
    refine ⟨G3, x, dx, lens, js, parks, a1, a2, a3, rfl, g3.ok.trans (ex2.trans out_ex), none_back g3.ok hx, upd_same, dpx d1 f1, dpx d2 f1, dpx d3 f2, n1, n2, hl, hp, hJ, hj, fun G' H' g hL => ⟨rfl, ?_⟩⟩
    exact q _ G' H' (g3.trans (g.low ex2)) ⟨x, rfl, hL⟩
theorem mo_lay {C : Addr} {n : Nat} {parks : List Int} {js : List (Int × Int)} : Mo (fun v G => ∃ x, v = .ref x ∧ LayAt K C G x n parks js) := fun v G G' e ⟨x, ev, h⟩ => ⟨x, ev, h.ex e⟩
theorem mo_srt {js : List (Int × Int)} : Mo (fun v G => ∃ l : List (Int × Int), l.Perm js ∧ l.Pairwise lexLe ∧ Dp K G v (dPs l)) := fun v G G' e ⟨l, h1, h2, h3⟩ => ⟨l, h1, h2, dpx h3 e⟩
theorem st_clear {l : Addr} {xs : List V} {D : Ends} (hG : Ex G H) (hl : H l = some (.lst xs)) (ho : EF ta σ G (XV (.ref l))) (k : ∀ H', Ex H H' → D.nx σ (upd H' l (.lst []))) : tDrop (tBM0 K "list" rClear ta) D σ H := ho H hG _ fun v1 G1 H1 g1 p1 => by
  cases (show v1 = .ref l from p1)
  exact ⟨.inl ⟨rfl, xs, Evl.sq_of (g1.hp _ _ hl)⟩, l, xs, rfl, rfl, g1.hp _ _ hl, k H1 g1.hp⟩
end
end Lw

set_option Elab.async false
set_option linter.all false
set_option maxRecDepth 100000
set_option maxHeartbeats 4000000
/-! ends as lists, the other branch, triples -/
namespace Lw
open PySem L2
open Evl (Ex)
section
variable {K : PySem.W.Frag} {C : Addr}
def ends (js : List (Int × Int)) (b : Int) (c : Bool) : List Int := if c = true then eo js b else wo js b
theorem ends_len (js : List (Int × Int)) (b : Int) (c : Bool) : (ends js b c).length = endN js b c := by cases c <;> rfl
/-- a new list of these ints, in some order -/
def PL (K : PySem.W.Frag) (l0 : List Int) : VP := fun v G => ∃ l : List Int, l.Perm l0 ∧ Dp K G v (dI l)
def qEast (K : PySem.W.Frag) : Nat → List Int → List (Int × Int) → Int → VP := fun _ _ js b => PL K (eo js b)
def qWest (K : PySem.W.Frag) : Nat → List Int → List (Int × Int) → Int → VP := fun _ _ js b => PL K (wo js b)
def qBranch (K : PySem.W.Frag) : List Int → List (Int × Int) → Int → Bool → VP := fun _ js b c => PL K (ends js b c)
theorem pl_nl {js : List (Int × Int)} {b : Int} {c : Bool} {v : V} {G : Hp} (h : PL K (ends js b c) v G) : NL K (endN js b c) v G := by
  obtain ⟨l, h1, h2⟩ := h
  exact ⟨l, by rw [h1.length_eq, ends_len], h2⟩
end
end Lw

set_option Elab.async false
set_option linter.all false
set_option maxRecDepth 100000
set_option maxHeartbeats 4000000
/-! list(reversed(a list)) -/
namespace Lw
open PySem PySem.Spec PyProof.Rows L2
open Evl (Ex)
section
variable {prog : Program} {w : World} {A : Around} {E : Value → Shared → Prop} {s : Shared}
theorem rev_extend {R : Result → Shared → Prop} {it l S : Addr} {items : Array Value} (hh : A.handled = none) (hit : s.heap.IsRevIter it l ((items.size : Int) - 1)) (hl : s.heap.IsList l items) (hne : l ≠ it) (hn : items.size ≤ sizeLine) (hSi : S ≠ it) (hSl : S ≠ l) (res : Value) (c₀ : Nat)
    (hS : s.heap.get? S = some { cls := .type "list", data := .seq #[] c₀ })
    (hR : ∀ h' tk acc' c', (∀ b o, b ≠ S → b ≠ it → s.heap.get? b = some o → h'.get? b = some o) → h'.get? S = some { cls := .type "list", dict := none, data := .seq acc' c', slots := #[] } → ItemsOf (fun i v => items[items.size - 1 - i]? = some v) acc' items.size → R (.ok (.ret res)) { s with heap := h', toks := tk }) :
    wpAny (model prog w) A.in1 (Builtin.List.listExtendWith (.ref S) (.ref it) res)
      (fun fin s' => match fin with | .done f => R (.ok f) s' | .again c' => c'.quiet = true ∧ codeAny (model prog w) A c' R s') (fun e s' => R (.error e) s') s := by
  have W := (Walks.listRev (prog := prog) (w := w) (A := A.in1) hh it l hne items).toS
  have hSf : S ∉ [it, l] := by simp only [List.mem_cons, List.not_mem_nil, or_false, not_or]; exact ⟨hSi, hSl⟩
  have hT : s.TypeIs (.ref it) "list_reverseiterator" := Heap.IsRevIter.typeIs hit
  have h1 : Builtin.List.listSameRef (.ref S) (.ref it) = false := by simp [Builtin.List.listSameRef, hSi]
  unfold Builtin.List.listExtendWith
  refine wpAny_bind (wpAny_typeOf hT ?_)
  rw [if_neg (by rw [h1]; decide)]
  refine wpAny_bind (wpAny_pyIter_revIter hit ?_)
  refine wpAny_bind (wpAny_holding ?_)
  unfold Builtin.List.listLengthHint
  refine wpAny_bind (wpAny_specialOf hT RT.nolen_lri ?_)
  show wpAny _ A.in1 (specialOf (Value.ref it) (Str.ofString "__length_hint__") >>= _) _ _ _
  refine wpAny_bind (wpAny_specialOf hT RT.hint_lri ?_)
  generalize hid : ("list_reverseiterator.__length_hint__" : String) = id0
  wp_delta
  rw [show splitId id0 = some ("list_reverseiterator", "__length_hint__") from by subst hid; decide +kernel]
  subst hid
  refine wpAny_bind (wpAny_isInstance (b := true) hT (by rw [isSubtype_type]; kernel_rfl) ?_)
  refine wpAny_pure ?_
  rw [if_neg (by decide)]
  have e0 : ((items.size : Nat) : Int) - 1 - ((0 : Nat) : Int) = (items.size : Int) - 1 := by omega
  refine wpAny_pure ⟨plainId_quiet F.plain_extend_loop _, codeAny_extend_loopS W hn _ hSf _ items.size 0 _ _ _ rfl (Nat.zero_le _) ⟨Nat.zero_le _, by rw [e0]; exact hit, hl⟩ hS (ItemsOf.nil _) fun s' acc' c' hm hS' hacc => ?_⟩
  rw [Moved.eq_with hm]
  refine hR s'.heap s'.toks acc' c' (fun b o hb hb2 e => hm.heap b o (fun hmem => ?_) e) hS' hacc
  rcases List.mem_cons.mp hmem with e' | hmem
  · exact hb e'
  · exact hb2 (List.mem_singleton.mp hmem)
theorem rev_init {R : Result → Shared → Prop} {it l S : Addr} {items : Array Value} (hh : A.handled = none) (hit : s.heap.IsRevIter it l ((items.size : Int) - 1)) (hl : s.heap.IsList l items) (hne : l ≠ it) (hn : items.size ≤ sizeLine) (hSi : S ≠ it) (hSl : S ≠ l)
    (hS : s.heap.get? S = some { cls := .type "list", data := .seq #[] })
    (hR : ∀ h' tk acc' c', (∀ b o, b ≠ S → b ≠ it → s.heap.get? b = some o → h'.get? b = some o) → h'.get? S = some { cls := .type "list", dict := none, data := .seq acc' c', slots := #[] } → ItemsOf (fun i v => items[items.size - 1 - i]? = some v) acc' items.size → R (.ok (.ret .none)) { s with heap := h', toks := tk }) :
    wpAny (model prog w) A.in1 (Builtin.«list.__init__» ⟨[.ref S, .ref it], []⟩)
      (fun fin s' => match fin with | .done f => R (.ok f) s' | .again c' => c'.quiet = true ∧ codeAny (model prog w) A c' R s') (fun e s' => R (.error e) s') s := by
  show wpAny _ _ (do let old ← Builtin.List.listItems (.ref S); Builtin.List.listUpdate (.ref S) (fun _ => #[]); letGo old.toList.reverse; Builtin.List.listExtendWith (.ref S) (.ref it) .none) _ _ s
  refine wpAny_bind ?_
  unfold Builtin.List.listItems
  refine wpAny_bind (wpAny_seqItems hS rfl (wpAny_pure ?_))
  show wpAny _ _ (updateSeq S (fun _ => #[]) >>= fun _ => letGo (#[] : Array Value).toList.reverse >>= fun _ => Builtin.List.listExtendWith (.ref S) (.ref it) .none) _ _ s
  refine wpAny_bind (wpAny_updateSeq hS rfl ?_)
  have hS₂ := Heap.get?_update_self (Obj.mapSeq (fun _ => (#[] : Array Value))) hS rfl
  have oth : ∀ b o, b ≠ S → s.heap.get? b = some o → (s.heap.update S (Obj.mapSeq (fun _ => (#[] : Array Value)))).get? b = some o :=
    fun b o hb e => (Heap.get?_update_other _ _ (Ne.symm hb)).trans e
  refine wpAny_bind (wpAny_letGo ?_)
  obtain ⟨ol, hol, c1, c2⟩ := id hl
  refine rev_extend hh (hit.at fun o e => oth it o (Ne.symm hSi) e) ⟨ol, oth l ol (Ne.symm hSl) hol, c1, c2⟩ hne hn hSi hSl .none _ hS₂ (fun h' tk acc' c' hk hS' hacc => ?_)
  exact hR h' tk acc' c' (fun b o hb hb2 e => hk b o hb hb2 (oth b o hb e)) hS' hacc
theorem call_list_rev {it l : Addr} {items : Array Value} {Q : Value → Shared → Prop} (hh : A.handled = none) (hit : s.heap.IsRevIter it l ((items.size : Int) - 1)) (hl : s.heap.IsList l items) (hne : l ≠ it) (hn : items.size ≤ sizeLine)
    (hQ : ∀ (h' : Heap) (tk : Nat) (acc : Array Value) c', (∀ b o, b ≠ it → s.heap.get? b = some o → h'.get? b = some o) → h'.get? s.heap.objs.size = some { cls := .type "list", dict := none, data := .seq acc c', slots := #[] } → ItemsOf (fun i v => items[items.size - 1 - i]? = some v) acc items.size →
      Q (.ref s.heap.objs.size) { s with heap := h', toks := tk }) :
    wpAny (model prog w) A (call (.type "list") [.ref it]) Q E s := by
  refine callType_codes (Q₁ := fun obj s₁ => obj = .ref s.heap.objs.size ∧ s₁ = { s with heap := s.heap.push { cls := .type "list", data := .seq #[] } }) PySem.F.called_list (PySem.F.typeCall_list_1 _) PySem.F.entry_list_init
    (code_list_new _ ⟨rfl, rfl⟩) fun obj s₁ h₁ => ?_
  obtain ⟨rfl, rfl⟩ := h₁
  have hS : (s.heap.push { cls := .type "list", data := .seq #[] }).get? s.heap.objs.size = some { cls := .type "list", data := .seq #[] } := Heap.get?_push_size _ rfl
  obtain ⟨oi, hoi, _⟩ := id hit
  obtain ⟨ol, hol, _⟩ := id hl
  refine ⟨⟨_, hS, rfl⟩, PySem.F.args_list_init_2 _ _, rev_init (A := A.in1) hh (hit.at fun o e => Heap.get?_push_of_some _ e) (hl.push _) hne hn (Nat.ne_of_gt (Heap.lt_size hoi)) (Nat.ne_of_gt (Heap.lt_size hol)) hS (fun h' tk acc' c' hk hS' hacc => ?_)⟩
  exact ⟨rfl, hQ h' tk acc' c' (fun b o hb e => hk b o (Nat.ne_of_lt (Heap.lt_size e)) hb (Heap.get?_push_of_some _ e)) hS' hacc⟩
end
/-- list(reversed(x)), x a list: a new list -/
def tLstRev (K : PySem.W.Frag) (te : TE) : TE := fun σ H Q => te σ H fun v H1 => ∃ (a : Addr) (xs : List V), v = .ref a ∧ SqL K H1 a xs ∧ ∀ q, H1 q = none → Q (.ref q) (upd H1 q (.lst xs.reverse))
section
variable {X : Cx}
theorem pe_lstRev {e : Expr} {te : TE} {p p2 pos pos2 : Pos} (hc : X.calm = true) (hg : Gl X "list") (hm : X.mg "list" = none) (hg2 : Gl X "reversed") (hm2 : X.mg "reversed" = none) (he : PE X e te)
    (hs : starEach [e] X.env = (false, eval e X.env) :: starEach [] X.env := by rfl)
    (hs2 : starEach [.Call (.Name "reversed" p2) [e] [] pos2] X.env = (false, eval (.Call (.Name "reversed" p2) [e] [] pos2) X.env) :: starEach [] X.env := by rfl) :
    PE X (.Call (.Name "list" p) [.Call (.Name "reversed" p2) [e] [] pos2] [] pos) (tLstRev X.K te) := by
  refine ⟨fun pins s σ H Q I h => ?_⟩
  refine Call_ (ld_blt I hg hm boot_list (PyProof.Rows.callWith_type1 (args_cons (Call_ (ld_blt I hg2 hm2 PyProof.Rows.boot_reversed (PyProof.Rows.callWith_type1 (args_cons (thn (he.run pins s σ H _ I h) fun u s1 ⟨v, H1, I1, r1, q1⟩ => args_nil ?_) hs) hs rfl))) hs2) hs2 rfl))
  obtain ⟨a, xs, ev, hq, q⟩ := q1
  subst ev
  obtain rfl : u = Value.ref a := r1
  obtain ⟨its, rv, p', hz⟩ := I1.list hq
  refine call_reversed_list p'.isList (args_nil ?_)
  have k0 : ∀ b o, s1.heap.get? b = some o → (s1.heap.push (revObj a ((its.toArray.size : Int) - 1))).get? b = some o := fun b o e => Heap.get?_push_of_some _ e
  have hl := p'.isList
  obtain ⟨ol, hol, _⟩ := id hl
  have hne : a ≠ s1.heap.objs.size := Nat.ne_of_lt (Heap.lt_size hol)
  have hn : its.toArray.size ≤ sizeLine := by rw [List.size_toArray, ← rv.length]; exact hz
  refine call_list_rev (s := { s1 with heap := s1.heap.push (revObj a ((its.toArray.size : Int) - 1)) }) (I1.ok.hd hc) ⟨_, Heap.get?_push_size _ rfl, rfl, rfl⟩ (hl.push _) hne hn fun h' tk acc c' hk hS hi => ?_
  have hs1 : ∀ b o, s1.heap.get? b = some o → h'.get? b = some o := fun b o e => hk b o (Nat.ne_of_lt (Heap.lt_size e)) (Heap.get?_push_of_some _ e)
  have hle : s1.heap.objs.size ≤ (s1.heap.push (revObj a ((its.toArray.size : Int) - 1))).objs.size := by rw [Heap.size_push]; omega
  refine ⟨.ref (s1.heap.push (revObj a ((its.toArray.size : Int) - 1))).objs.size, upd H1 (s1.heap.push (revObj a ((its.toArray.size : Int) - 1))).objs.size (.lst xs.reverse), I1.laid (t' := tk) hs1 hle ⟨by rw [List.length_reverse]; exact hz, acc.toList, c', RT.vals_rev rv hi, ?_⟩, rfl, q _ (I1.hok.fresh hle)⟩
  rw [Array.toArray_toList]
  exact hS
end
end Lw

set_option Elab.async false
set_option linter.all false
set_option maxRecDepth 100000
set_option maxHeartbeats 4000000
/-! sorted of triples (int, "east" or "west", int) -/
namespace Lw
open PySem L2
open Evl (Ex)
open PyProof.Rows
abbrev T3 := Int × Bool × Int
def dT3 (t : T3) : PyData := dTr t.1 (sd t.2.1) t.2.2
def k3 (t : T3) : Int := 2 * t.1 + (if t.2.1 = true then 0 else 1)
theorem k3_eq {s t : T3} (h : k3 s = k3 t) : s.1 = t.1 ∧ s.2.1 = t.2.1 := by
  obtain ⟨a, f, b⟩ := s
  obtain ⟨c, g, d⟩ := t
  unfold k3 at h
  cases f <;> cases g <;> simp at h ⊢ <;> omega
theorem sd_inj {f g : Bool} : sd f = sd g ↔ f = g := by
  constructor
  · intro h
    cases f <;> cases g
    · rfl
    · exact absurd h east_ne
    · exact absurd h.symm east_ne
    · rfl
  · intro h
    rw [h]
theorem sd_lt (f g : Bool) (h : f ≠ g) : decide ((sd f).cps.toList < (sd g).cps.toList) = f := by
  cases f <;> cases g
  · exact absurd rfl h
  · unfold sd eastS westS; decide +kernel
  · unfold sd eastS westS; decide +kernel
  · exact absurd rfl h
section
variable {prog : Program} {w : World} {A : Around} {E : Value → Shared → Prop} {s : Shared}
def IsT3 (h : Heap) (v : Value) (x : T3) : Prop := ∃ a o t u z m, v = .ref a ∧ h.get? a = some o ∧ o.cls = .type "tuple" ∧ o.data = .seq #[.int x.1 t, .str (sd x.2.1) u, .int x.2.2 z] m
theorem IsT3.keeps {h h' : Heap} {v : Value} {x : T3} (p : IsT3 h v x) (k : ∀ b o, h.get? b = some o → o.cls = .type "tuple" → h'.get? b = some o) : IsT3 h' v x := by
  obtain ⟨a, o, t, y, z, m, e, ho, hc, hd⟩ := p
  exact ⟨a, o, t, y, z, m, e, k a o ho hc, hc, hd⟩
theorem t3_firsts {h : Heap} {k : Value → T3} : ∀ {vs : List Value}, (∀ v ∈ vs, IsT3 h v (k v)) → ∃ fs : List Value, PySem.W.KatTups h vs fs ∧ fs.length = vs.length ∧ ∀ f ∈ fs, ∃ x t, f = Value.int x t
  | [], _ => ⟨[], PySem.W.KatTups.nil, rfl, fun _ hm => by simp at hm⟩
  | v :: vs, hp => by
    obtain ⟨fs, h1, h2, h3⟩ := t3_firsts (k := k) (vs := vs) fun v' hm => hp v' (List.mem_cons_of_mem _ hm)
    have hv := hp v (List.mem_cons_self ..)
    generalize k v = x at hv
    obtain ⟨a, o, t, y, z, m, e, ho, hc, hd⟩ := hv
    subst e
    refine ⟨.int x.1 t :: fs, PySem.W.KatTups.cons ho hc hd rfl h1, by rw [List.length_cons, List.length_cons, h2], fun f hm => ?_⟩
    rcases List.mem_cons.mp hm with rfl | hm
    · exact ⟨x.1, t, rfl⟩
    · exact h3 f hm
theorem t3_cmp {vs : List Value} {k : Value → T3} (hp : ∀ v ∈ vs, IsT3 s.heap v (k v)) (hi : ∀ v ∈ vs, ∀ u ∈ vs, k3 (k v) = k3 (k u) → k v = k u) : SrtO.Cmp prog w A s (tuples' true) (fun p => p.1 ∈ vs) (SrtO.lt2 (ltK fun v => k3 (k v))) := by
  intro p q hm hm'
  have h1 := hp _ hm
  have h2 := hp _ hm'
  have hin := hi _ hm _ hm'
  show wpAny (model prog w) A (keyLt' (tuples' true) p.1 q.1) (fun r s' => s' = s ∧ r = decide (k3 (k p.1) < k3 (k q.1))) (fun _ _ => False) s
  generalize k p.1 = x at h1 hin ⊢
  generalize k q.1 = x' at h2 hin ⊢
  obtain ⟨a, o, t, u, z, m, e, ho, hc, hd⟩ := h1
  obtain ⟨a', o', t', u', z', m', e', ho', hc', hd'⟩ := h2
  rw [e, e']
  refine PySem.W.kat_lt ho hd ho' hd' ?_
  show PySem.W.KatLex prog w A true (decide (3 < 3)) _ [(.int x.1 t, .int x'.1 t'), (.str (sd x.2.1) u, .str (sd x'.2.1) u'), (.int x.2.2 z, .int x'.2.2 z')] 0 s
  refine PySem.W.kat_cons (SeqAt.EqAt.int_int x.1 t x'.1 t' prog w _ _ ?_)
  refine PySem.W.kat_go (fun e1 => ?_) (fun e1 => ?_)
  · have e1' : x.1 = x'.1 := by simpa using e1
    refine PySem.W.kat_yes (PySem.W.kat_cons (SeqAt.EqAt.str_str (sd x.2.1) u (sd x'.2.1) u' prog w _ _ ?_))
    refine PySem.W.kat_go (fun e2 => ?_) (fun e2 => ?_)
    · have e2' : x.2.1 = x'.2.1 := sd_inj.mp (by simpa using e2)
      have ee : x = x' := hin (by unfold k3; rw [e1', e2'])
      subst ee
      refine PySem.W.kat_yes (PySem.W.kat_cons (SeqAt.EqAt.int_int x.2.2 z x.2.2 z' prog w _ _ ?_))
      refine PySem.W.kat_go (fun _ => ?_) (fun e1 => absurd e1 (by simp))
      exact PySem.W.kat_yes (PySem.W.kat_nil ⟨rfl, (decide_eq_false (Int.lt_irrefl _)).symm⟩)
    · have e2' : x.2.1 ≠ x'.2.1 := fun c => absurd e2 (by rw [c]; simp)
      refine PySem.W.kat_no (oneLt_any_str ⟨rfl, ?_⟩)
      rw [sd_lt _ _ e2']
      unfold k3
      rw [e1']
      cases hx : x.2.1 <;> cases hx' : x'.2.1
      · rw [hx, hx'] at e2'; exact absurd rfl e2'
      · exact (decide_eq_false (by simp; omega)).symm
      · exact (decide_eq_true (by simp; omega)).symm
      · rw [hx, hx'] at e2'; exact absurd rfl e2'
  · have e1' : x.1 ≠ x'.1 := fun c => absurd e1 (by rw [c]; simp)
    refine PySem.W.kat_no (PyProof.Rows.oneLt_int ⟨rfl, ?_⟩)
    unfold k3
    by_cases c : x.1 < x'.1
    · rw [decide_eq_true c, decide_eq_true (by split <;> split <;> omega)]
    · rw [decide_eq_false c, decide_eq_false (by split <;> split <;> omega)]
theorem t3_sortable {a : Addr} {vs : List Value} {k : Value → T3} (h0 : 0 < vs.length) (hp : ∀ v ∈ vs, IsT3 s.heap v (k v)) (hi : ∀ v ∈ vs, ∀ u ∈ vs, k3 (k v) = k3 (k u) → k v = k u) (ha : ∀ o, s.heap.get? a = some o → o.cls ≠ .type "tuple") : SrtO.SortableO prog w A s a vs (ltK fun v => k3 (k v)) := by
  intro h' keep
  have hp' : ∀ v ∈ vs, IsT3 h' v (k v) := fun v hm => (hp v hm).keeps fun b o e c => keep b o (fun z => by subst z; exact ha o e c) e
  obtain ⟨fs, h1, h2, h3⟩ := t3_firsts hp'
  refine ⟨tuples' true, fun Q E hq => ?_, t3_cmp hp' hi⟩
  refine PySem.W.kat_kind (T := .type "int") h1 (by omega) (fun f hm => ?_) (by rfl) ?_
  · obtain ⟨x, t, rfl⟩ := h3 f hm
    exact PySem.W.Looks.now
  · have e : (Value.type "int" != Value.type "tuple") = true := by first | decide +kernel | rfl | decide
    rw [e]
    exact hq
theorem sorted_t3 {l : Addr} {vs : List Value} {k : Value → T3} {Q : Value → Shared → Prop} (hl : s.heap.IsList l vs.toArray) (hz : vs.length ≤ sizeLine) (hp : ∀ v ∈ vs, IsT3 s.heap v (k v)) (hi : ∀ v ∈ vs, ∀ u ∈ vs, k3 (k v) = k3 (k u) → k v = k u)
    (h : ∀ (h' : Heap) (d : Addr) (out : List Value), SrtO.Srtd (ltK fun v => k3 (k v)) out → SrtO.Stb (ltK fun v => k3 (k v)) out vs → (∀ b o, s.heap.get? b = some o → h'.get? b = some o) → s.heap.objs.size ≤ d → (∃ n, h'.get? d = some (seqObj "list" out.toArray n)) → Q (.ref d) { s with heap := h' }) :
    wpAny (model prog w) A (call (.builtin "sorted") [.ref l]) Q E s := by
  refine SrtO.sorted_ord (ltK_swo fun v => k3 (k v)) hl hz (fun h2 h₁ a ha kk => ?_) fun out hs hb => ?_
  · refine t3_sortable (s := { s with heap := h₁ }) (by omega) (fun v hm => (hp v hm).keeps fun b o e _ => (kk b o e).2) hi fun o e => ?_
    have e' : some o = some (seqObj "list" vs.toArray 0) := e.symm.trans ha
    cases e'
    intro c
    exact absurd (Value.type.inj c) (by decide)
  · exact h _ _ out hs hb (fun b o e => sortedAll_old e) (Nat.le_succ _) (sortedAll_at s.heap vs out.toArray)
end
/-- the triple that a value is -/
def keyT3 (h : Heap) (v : Value) : T3 := match v with
  | .ref t => (match h.get? t with
    | some o => (match o.data with
      | .seq arr _ => (match arr.toList with | [.int x _, .str y _, .int z _] => (x, decide (y = eastS), z) | _ => (0, true, 0))
      | _ => (0, true, 0))
    | none => (0, true, 0))
  | _ => (0, true, 0)
theorem keyT3_of {h : Heap} {t : Addr} {o : Obj} {x : T3} {t1 t2 t3 : Tok} {n : Nat} (ho : h.get? t = some o) (hd : o.data = .seq #[.int x.1 t1, .str (sd x.2.1) t2, .int x.2.2 t3] n) : keyT3 h (.ref t) = x := by
  unfold keyT3
  simp only [ho, hd]
  obtain ⟨a, f, b⟩ := x
  have e : decide (sd f = eastS) = f := by
    cases f
    · exact decide_eq_false east_ne
    · exact decide_eq_true rfl
  rw [e]
def rSort3 (K : PySem.W.Frag) : List V → Hp → VK → Prop := fun vs H Q => ∃ (G : Hp) (a : Addr) (xs : List V) (l : List T3), Ex G H ∧ vs = [V.ref a] ∧ SqL K H a xs ∧ DpAll K G xs (l.map dT3) ∧ (∀ s ∈ l, ∀ t ∈ l, k3 s = k3 t → s = t) ∧
  ∀ (ys : List V) (l' : List T3) (p : Addr), DpAll K G ys (l'.map dT3) → l'.Perm l → l'.Pairwise (fun s t => k3 s ≤ k3 t) → H p = none → Q (.ref p) (upd H p (.lst ys))
section
variable {X : Cx}
theorem t3_facts {pins : List (Addr × Obj)} {σ : L2.St} {G H : Hp} {s : Shared} (I : Inv X pins σ H s) (e : Ex G H) : ∀ {xs : List V} {js : List T3} {its : List Value}, DpAll X.K G xs (js.map dT3) → Vals xs its →
    its.map (keyT3 s.heap) = js ∧ ∀ v ∈ its, IsT3 s.heap v (keyT3 s.heap v) ∧ ∃ t, v = .ref t ∧ Dp X.K G (.ref t) (dT3 (keyT3 s.heap v))
  | [], [], _, _, .nil => ⟨rfl, fun v m => nomatch m⟩
  | x :: xs, q :: js, _, h, .cons rx rt => by
    rename_i v its
    cases h with
    | cons h1 h2 =>
      obtain ⟨e1, e2⟩ := t3_facts I e (js := js) h2 rt
      obtain ⟨t, ys, rfl, hs, hd⟩ := dp_tup h1
      have eys : ys = [.int q.1, .str (sd q.2.1), .int q.2.2] := by
        cases hd with
        | cons a1 r1 => cases r1 with
          | cons a2 r2 => cases r2 with
            | cons a3 r3 =>
              cases r3
              cases a1
              cases a2
              cases a3
              rfl
      have hs' := hs
      rw [eys] at hs'
      cases (show v = Value.ref t from rx)
      obtain ⟨its2, r2, ⟨o, ho, hc, n, hdt⟩, _⟩ := I.tuple (Evl.ex_t e hs')
      obtain ⟨u1, us2, rfl, ri, r3⟩ : ∃ u1 us2, its2 = u1 :: us2 ∧ RelV (.int q.1) u1 ∧ Vals [.str (sd q.2.1), .int q.2.2] us2 := by
        cases r2 with
        | cons p q => exact ⟨_, _, rfl, p, q⟩
      obtain ⟨u2, u3, rfl, rj, rz⟩ := vals2 r3
      obtain ⟨t1, rfl⟩ := ri
      obtain ⟨t2, rfl⟩ := rj
      obtain ⟨t3, rfl⟩ := rz
      have kq : keyT3 s.heap (.ref t) = q := keyT3_of ho hdt
      refine ⟨by rw [List.map_cons, e1, kq], fun v m => ?_⟩
      rcases List.mem_cons.mp m with e3 | m
      · subst e3
        rw [kq]
        exact ⟨⟨t, o, t1, t2, t3, n, rfl, ho, hc, hdt⟩, t, rfl, h1⟩
      · exact e2 v m
  | [], _ :: _, _, h, _ => nomatch h
  | _ :: _, [], _, h, _ => nomatch h
theorem dpa_map3 {K : PySem.W.Frag} {H : Hp} {f : Value → V} {k : Value → T3} : ∀ {out : List Value}, (∀ v ∈ out, Dp K H (f v) (dT3 (k v))) → DpAll K H (out.map f) ((out.map k).map dT3)
  | [], _ => .nil
  | v :: out, h => .cons (h v (List.mem_cons_self ..)) (dpa_map3 fun u m => h u (List.mem_cons_of_mem _ m))
theorem cr_sort3 : CallR X (.builtin "sorted") (rSort3 X.K) := by
  intro pins s σ H vs us Q I r h
  obtain ⟨G, a, xs, js, eG, rfl, hs, hx, hi, q⟩ := h
  obtain ⟨its, rv, hl, hz⟩ := I.list hs
  obtain ⟨u, eu, ru⟩ := vals1 r
  subst eu
  cases (show u = Value.ref a from ru)
  obtain ⟨ek, hp⟩ := t3_facts I eG hx rv
  have hlen := rv.length
  have hmem : ∀ v ∈ its, keyT3 s.heap v ∈ js := fun v m => by
    rw [← ek]
    exact List.mem_map.mpr ⟨v, m, rfl⟩
  refine sorted_t3 (k := keyT3 s.heap) hl.isList (by omega) (fun v m => (hp v m).1) (fun v m u m' e => hi _ (hmem v m) _ (hmem u m') e) fun h' d out h1 h2 kp hd hn => ?_
  have ho : ∀ v ∈ out, ∃ t, v = Value.ref t := fun v m => by
    obtain ⟨t, e, _⟩ := (hp v (h2.perm.mem_iff.mp m)).2
    exact ⟨t, e⟩
  have hd2 : ∀ v ∈ out, Dp X.K G (backV v) (dT3 (keyT3 s.heap v)) := fun v m => by
    obtain ⟨t, e, z⟩ := (hp v (h2.perm.mem_iff.mp m)).2
    subst e
    exact z
  obtain ⟨n, hn⟩ := hn
  have hj : (out.map (keyT3 s.heap)).Perm js := by
    rw [← ek]
    exact h2.perm.map _
  have hsz : (out.map backV).length ≤ sizeLine := by
    rw [List.length_map, h2.perm.length_eq, ← hlen]
    exact hz
  refine ⟨.ref d, upd H d (.lst (out.map backV)), I.laid (t' := s.toks) kp hd ⟨hsz, out, n, vals_back ho, hn⟩, rfl, q _ _ d (dpa_map3 hd2) hj ?_ (I.hok.fresh hd)⟩
  refine List.pairwise_map.mpr (List.Pairwise.imp (fun {x y} hxy => ?_) h1)
  have z := of_decide_eq_false hxy
  exact Int.not_lt.mp z
end
section
variable {K : PySem.W.Frag} {σ : L2.St} {G H : Hp} {ta tb te tc td : TE} {P : VP}
def STn (K : PySem.W.Frag) (G0 : Hp) (l0 : List T3) : VP := fun v G => ∃ (a : Addr) (xs : List V) (l : List T3), v = .ref a ∧ G0 a = none ∧ G a = some (.lst xs) ∧ l.Perm l0 ∧ l.Pairwise (fun s t => k3 s ≤ k3 t) ∧ DpAll K G xs (l.map dT3)
theorem ef_sort3 {a : Addr} {xs : List V} {js : List T3} (ha : EF ta σ G (XV (.ref a))) (hs : SqL K G a xs) (hx : DpAll K G xs (js.map dT3)) (hi : ∀ s ∈ js, ∀ t ∈ js, k3 s = k3 t → s = t) : EF (tCB (rSort3 K) (tCons ta tNil)) σ G (STn K G js) := fun H e Q q => ha H e _ fun x G1 H1 g1 p => by
  cases (show x = .ref a from p)
  refine ⟨G1, a, xs, js, g1.ok, rfl, Evl.ex_l (g1.up.trans g1.ok) hs, dpax hx g1.up, hi, fun ys js' p2 h1 h2 h3 h4 => ?_⟩
  exact q _ _ _ (g1.trans (.new g1.ok h4)) ⟨p2, ys, js', rfl, none_back (g1.up.trans g1.ok) h4, upd_same, h2, h3, dpax h1 (ex_in (none_back g1.ok h4))⟩
end
theorem sort3_uniq : ∀ {l m : List T3}, (∀ s ∈ l, ∀ t ∈ l, k3 s = k3 t → s = t) → l.Perm m → l.Pairwise (fun s t => k3 s ≤ k3 t) → m.Pairwise (fun s t => k3 s ≤ k3 t) → l = m
  | [], m, _, h, _, _ => (List.Perm.nil_eq h)
  | x :: l, [], _, h, _, _ => absurd h.length_eq (by simp)
  | x :: l, y :: m, hi, h, hl, hm => by
    have e : x = y := by
      have my : y ∈ x :: l := h.mem_iff.mpr (List.mem_cons_self (a := y) (l := m))
      have h1 : x = y ∨ k3 y ≤ k3 x := by
        rcases List.mem_cons.mp (h.mem_iff.mp (List.mem_cons_self (a := x) (l := l))) with e | hx
        · exact .inl e
        · exact .inr ((List.pairwise_cons.mp hm).1 x hx)
      have h2 : y = x ∨ k3 x ≤ k3 y := by
        rcases List.mem_cons.mp my with e | hx
        · exact .inl e
        · exact .inr ((List.pairwise_cons.mp hl).1 y hx)
      rcases h1 with e | h1
      · exact e
      · rcases h2 with e | h2
        · exact e.symm
        · exact hi x (List.mem_cons_self ..) y my (by omega)
    subst e
    rw [sort3_uniq (fun s hs t ht => hi s (List.mem_cons_of_mem _ hs) t (List.mem_cons_of_mem _ ht)) h.cons_inv (List.pairwise_cons.mp hl).2 (List.pairwise_cons.mp hm).2]
end Lw

set_option Elab.async false
set_option linter.all false
set_option maxRecDepth 100000
set_option maxHeartbeats 4000000
/-! what the flanks demand -/
namespace Lw
open PySem L2
open Evl (Ex)
/-- the other of two -/
def oth (l : List Int) (b : Int) : Int := (l.filter fun z => decide (z ≠ b)).headD 0
theorem two_of {l : List Int} {b : Int} (hn : l.Nodup) (h2 : l.length = 2) (hb : b ∈ l) : l.Perm [b, oth l b] ∧ oth l b ≠ b ∧ oth l b ∈ l := by
  match l, h2 with
  | [x, y], _ =>
    have hxy : x ≠ y := by simpa using hn
    rcases List.mem_cons.mp hb with e | hb
    · subst e
      have e1 : oth [b, y] b = y := by
        have : y ≠ b := fun z => hxy z.symm
        simp [oth, this]
      rw [e1]
      exact ⟨.refl _, fun z => hxy z.symm, by simp⟩
    · have e : b = y := by simpa using hb
      subst e
      have e1 : oth [x, b] b = x := by simp [oth, hxy]
      rw [e1]
      exact ⟨.swap _ _ _, hxy, by simp⟩
theorem jok_nd {n : Int} {parks : List Int} {js : List (Int × Int)} (h : JOk n parks js) : ∀ b, (eo js b).Nodup ∧ (wo js b).Nodup ∧ (b ∉ parks → (eo js b).length ≤ 2 ∧ (wo js b).length ≤ 2) := by
  induction h with
  | nil => intro b; exact ⟨.nil, .nil, fun _ => ⟨Nat.zero_le _, Nat.zero_le _⟩⟩
  | snoc hj hn ih =>
    rename_i js w e
    intro b
    obtain ⟨i1, i2, i3⟩ := ih b
    have nd : ∀ {l : List Int} {z : Int}, l.Nodup → z ∉ l → (l ++ [z]).Nodup := fun {l z} h1 h2 => List.nodup_append.mpr ⟨h1, by simp, fun x hx y hy => by
      have e : y = z := by simpa using hy
      rw [e]
      exact fun c => h2 (c ▸ hx)⟩
    have we : w ≠ e := by have := hn.lt; omega
    by_cases c1 : w = b
    · subst c1
      rw [eo_snoc_same, wo_snoc_ne js (fun z => we z.symm)]
      refine ⟨nd i1 (fun m => hn.new (mem_eo.mp m)), i2, fun hp => ⟨?_, (i3 hp).2⟩⟩
      have := hn.ew hp
      have := (i3 hp).1
      rw [List.length_append, List.length_singleton]
      omega
    · rw [eo_snoc_ne js c1]
      by_cases c2 : e = b
      · subst c2
        rw [wo_snoc_same]
        refine ⟨i1, nd i2 (fun m => hn.new ?_), fun hp => ⟨(i3 hp).1, ?_⟩⟩
        · unfold wo at m
          obtain ⟨⟨x, y⟩, hm, ex⟩ := List.mem_map.mp m
          obtain ⟨h1, h2⟩ := List.mem_filter.mp hm
          have h2 := of_decide_eq_true h2
          simp only at ex h2
          subst ex h2
          exact h1
        · have := hn.we hp
          have := (i3 hp).2
          rw [List.length_append, List.length_singleton]
          omega
      · rw [wo_snoc_ne js c2]
        exact ⟨i1, i2, i3⟩
theorem mem_wo {js : List (Int × Int)} {w e : Int} : w ∈ wo js e ↔ (w, e) ∈ js := by
  unfold wo
  rw [List.mem_map]
  constructor
  · rintro ⟨⟨a, b⟩, h, rfl⟩
    obtain ⟨h1, h2⟩ := List.mem_filter.mp h
    have h2 := of_decide_eq_true h2
    subst h2
    exact h1
  · intro h
    exact ⟨(w, e), List.mem_filter.mpr ⟨h, decide_eq_true rfl⟩, rfl⟩
/-- a joint from b to o on the side c -/
def jt (js : List (Int × Int)) (b : Int) (c : Bool) (o : Int) : Prop := if c = true then (b, o) ∈ js else (o, b) ∈ js
theorem mem_ends {js : List (Int × Int)} {b o : Int} {c : Bool} : o ∈ ends js b c ↔ jt js b c o := by
  cases c
  · exact mem_wo
  · exact mem_eo
theorem jt_back {js : List (Int × Int)} {b o : Int} {c : Bool} (h : jt js b c o) : jt js o (!c) b := by
  cases c <;> exact h
theorem ends_nd {n : Int} {parks : List Int} {js : List (Int × Int)} (h : JOk n parks js) (b : Int) (c : Bool) : (ends js b c).Nodup ∧ (b ∉ parks → (ends js b c).length ≤ 2) := by
  obtain ⟨h1, h2, h3⟩ := jok_nd h b
  cases c
  · exact ⟨h2, fun z => (h3 z).2⟩
  · exact ⟨h1, fun z => (h3 z).1⟩
theorem jt_in {n : Int} {parks : List Int} {js : List (Int × Int)} (h : JOk n parks js) {b o : Int} {c : Bool} (hj : jt js b c o) : 0 ≤ o ∧ o < n ∧ 0 ≤ b ∧ b < n := by
  cases c
  · have := h.mem (p := (o, b)) hj
    simp only at this
    omega
  · have := h.mem (p := (b, o)) hj
    simp only at this
    omega
/-- what one demand at a joint asks of a flank -/
def fl1 (parks : List Int) (js : List (Int × Int)) (way : List Int) (t : T3) : List T3 :=
  let o := oth (ends js t.1 t.2.1) t.2.2
  if isPt parks js o (!t.2.1) = true then
    (let a := oth (ends js o (!t.2.1)) t.1
    if o ∉ way ∧ a ∉ way then [(o, !t.2.1, a)] else [])
  else []
def jd3 (parks : List Int) (js : List (Int × Int)) (w e : Int) : List T3 := (if isPt parks js w true = true then [(w, true, e)] else []) ++ (if isPt parks js e false = true then [(e, false, w)] else [])
theorem jd3_want (parks : List Int) (js : List (Int × Int)) (w e : Int) : (jd3 parks js w e).map dT3 = wantD parks js w e := by
  have k1 : (isPt parks js w true = true ↔ (w ∉ parks ∧ (eo js w).length = 2)) := by unfold isPt endN; simp
  have k2 : (isPt parks js e false = true ↔ (e ∉ parks ∧ (wo js e).length = 2)) := by unfold isPt endN; simp
  unfold jd3 wantD
  rw [List.map_append]
  congr 1
  · by_cases c : isPt parks js w true = true
    · rw [if_pos c, if_pos (k1.mp c)]; rfl
    · rw [if_neg c, if_neg fun z => c (k1.mpr z)]; rfl
  · by_cases c : isPt parks js e false = true
    · rw [if_pos c, if_pos (k2.mp c)]; rfl
    · rw [if_neg c, if_neg fun z => c (k2.mpr z)]; rfl
def flD (parks : List Int) (js : List (Int × Int)) (way : List Int) (w e : Int) : List T3 := (jd3 parks js w e).flatMap (fl1 parks js way)
theorem isPt_spec {parks : List Int} {js : List (Int × Int)} {b : Int} {c : Bool} : isPt parks js b c = true ↔ b ∉ parks ∧ (ends js b c).length = 2 := by
  unfold isPt
  rw [← ends_len]
  simp
/-- the demands of a joint: points, and joints there -/
theorem jd3_mem {parks : List Int} {js : List (Int × Int)} {w e : Int} (h : (w, e) ∈ js) {t : T3} (m : t ∈ jd3 parks js w e) : isPt parks js t.1 t.2.1 = true ∧ jt js t.1 t.2.1 t.2.2 := by
  unfold jd3 at m
  rcases List.mem_append.mp m with m | m
  · split at m
    · rename_i c
      have e1 : t = (w, true, e) := by simpa using m
      subst e1
      exact ⟨c, h⟩
    · simp at m
  · split at m
    · rename_i c
      have e1 : t = (e, false, w) := by simpa using m
      subst e1
      exact ⟨c, h⟩
    · simp at m
theorem fl1_len (parks : List Int) (js : List (Int × Int)) (way : List Int) (t : T3) : (fl1 parks js way t).length ≤ 1 ∧ ∀ u ∈ fl1 parks js way t, u.2.1 = !t.2.1 := by
  unfold fl1
  simp only
  split
  · split
    · exact ⟨by simp, fun u hu => by rw [List.mem_singleton.mp hu]⟩
    · exact ⟨by simp, fun u hu => by simp at hu⟩
  · exact ⟨by simp, fun u hu => by simp at hu⟩
theorem flD_two (parks : List Int) (js : List (Int × Int)) (way : List Int) (w e : Int) : ∃ l1 l2 : List T3, flD parks js way w e = l1 ++ l2 ∧ l1.length ≤ 1 ∧ l2.length ≤ 1 ∧ (∀ u ∈ l1, u.2.1 = false) ∧ ∀ u ∈ l2, u.2.1 = true := by
  refine ⟨if isPt parks js w true = true then fl1 parks js way (w, true, e) else [], if isPt parks js e false = true then fl1 parks js way (e, false, w) else [], ?_, ?_, ?_, ?_, ?_⟩
  · unfold flD jd3
    rw [List.flatMap_append]
    congr 1 <;> split <;> simp
  · split
    · exact (fl1_len _ _ _ _).1
    · simp
  · split
    · exact (fl1_len _ _ _ _).1
    · simp
  · split
    · exact (fl1_len _ _ _ _).2
    · simp
  · split
    · exact (fl1_len _ _ _ _).2
    · simp
theorem one_mem {l : List T3} (h : l.length ≤ 1) {s t : T3} (hs : s ∈ l) (ht : t ∈ l) : s = t := by
  match l, h with
  | [], _ => simp at hs
  | [x], _ =>
    have e1 : s = x := by simpa using hs
    have e2 : t = x := by simpa using ht
    rw [e1, e2]
theorem flD_inj (parks : List Int) (js : List (Int × Int)) (way : List Int) (w e : Int) : ∀ s ∈ flD parks js way w e, ∀ t ∈ flD parks js way w e, k3 s = k3 t → s = t := by
  obtain ⟨l1, l2, e1, h1, h2, f1, f2⟩ := flD_two parks js way w e
  rw [e1]
  intro s hs t ht h
  have hk := (k3_eq h).2
  rcases List.mem_append.mp hs with hs | hs <;> rcases List.mem_append.mp ht with ht | ht
  · exact one_mem h1 hs ht
  · rw [f1 s hs, f2 t ht] at hk; cases hk
  · rw [f2 s hs, f1 t ht] at hk; cases hk
  · exact one_mem h2 hs ht
theorem flD_len (parks : List Int) (js : List (Int × Int)) (way : List Int) (w e : Int) : (flD parks js way w e).length ≤ 2 := by
  obtain ⟨l1, l2, e1, h1, h2, _, _⟩ := flD_two parks js way w e
  rw [e1, List.length_append]
  omega

/-! what the law's own rows are -/
def rowW (parks : List Int) (js : List (Int × Int)) (way : List Int) (w e : Int) (p : Int × Int) : List T3 :=
  if p.1 = w ∧ p.2 ≠ e ∧ w ∉ parks ∧ p.2 ∉ parks then js.flatMap (fun q => if q.2 = p.2 ∧ q.1 ≠ w ∧ p.2 ∉ way ∧ q.1 ∉ way then [(p.2, false, q.1)] else []) else []
def rowE (parks : List Int) (js : List (Int × Int)) (way : List Int) (w e : Int) (p : Int × Int) : List T3 :=
  if p.2 = e ∧ p.1 ≠ w ∧ e ∉ parks ∧ p.1 ∉ parks then js.flatMap (fun q => if q.1 = p.1 ∧ q.2 ≠ e ∧ p.1 ∉ way ∧ q.2 ∉ way then [(p.1, true, q.2)] else []) else []
def rows (parks : List Int) (js : List (Int × Int)) (way : List Int) (w e : Int) : List T3 := js.flatMap fun p => rowW parks js way w e p ++ rowE parks js way w e p
theorem fm_eo {js : List (Int × Int)} {w : Int} {F : Int → List T3} : js.flatMap (fun p => if p.1 = w then F p.2 else []) = (eo js w).flatMap F := by
  induction js with
  | nil => rfl
  | cons p js ih =>
    rw [List.flatMap_cons, ih]
    unfold eo
    rw [List.filter_cons]
    by_cases h : p.1 = w
    · rw [if_pos h, if_pos (decide_eq_true h), List.map_cons, List.flatMap_cons]
    · rw [if_neg h, if_neg (by rw [decide_eq_false h]; exact Bool.false_ne_true)]
      rfl
theorem fm_wo {js : List (Int × Int)} {w : Int} {F : Int → List T3} : js.flatMap (fun p => if p.2 = w then F p.1 else []) = (wo js w).flatMap F := by
  induction js with
  | nil => rfl
  | cons p js ih =>
    rw [List.flatMap_cons, ih]
    unfold wo
    rw [List.filter_cons]
    by_cases h : p.2 = w
    · rw [if_pos h, if_pos (decide_eq_true h), List.map_cons, List.flatMap_cons]
    · rw [if_neg h, if_neg (by rw [decide_eq_false h]; exact Bool.false_ne_true)]
      rfl
theorem fm_ite {α : Type} {p q : α → Prop} [DecidablePred p] [DecidablePred q] {F : α → List T3} {l : List α} : l.flatMap (fun x => if p x ∧ q x then F x else []) = l.flatMap (fun x => if p x then (if q x then F x else []) else []) := by
  congr 1
  funext x
  by_cases h : p x
  · by_cases h2 : q x
    · rw [if_pos ⟨h, h2⟩, if_pos h, if_pos h2]
    · rw [if_neg (fun z => h2 z.2), if_pos h, if_neg h2]
  · rw [if_neg (fun z => h z.1), if_neg h]
/-- over the ends: all but b -/
theorem fm_two {l : List Int} {b : Int} {F : Int → List T3} (hn : l.Nodup) (h2 : l.length ≤ 2) (hb : b ∈ l) : l.flatMap (fun z => if z ≠ b then F z else []) = if l.length = 2 then F (oth l b) else [] := by
  match l, h2 with
  | [], _ => simp at hb
  | [x], _ =>
    have e : b = x := by simpa using hb
    subst e
    simp
  | [x, y], _ =>
    have hxy : x ≠ y := by simpa using hn
    rcases List.mem_cons.mp hb with e | hb
    · subst e
      have : y ≠ b := fun z => hxy z.symm
      simp [oth, this]
    · have e : b = y := by simpa using hb
      subst e
      simp [oth, hxy]
theorem fm_perm {α : Type} {F G : α → List T3} : ∀ (l : List α), (l.flatMap fun x => F x ++ G x).Perm (l.flatMap F ++ l.flatMap G)
  | [] => .refl _
  | x :: l => by
    rw [List.flatMap_cons, List.flatMap_cons, List.flatMap_cons]
    have h := fm_perm (F := F) (G := G) l
    have h1 : (F x ++ G x ++ l.flatMap fun x => F x ++ G x).Perm (F x ++ G x ++ (l.flatMap F ++ l.flatMap G)) := h.append_left _
    refine h1.trans ?_
    have e1 : F x ++ G x ++ (l.flatMap F ++ l.flatMap G) = F x ++ (G x ++ l.flatMap F ++ l.flatMap G) := by simp
    have e2 : F x ++ l.flatMap F ++ (G x ++ l.flatMap G) = F x ++ (l.flatMap F ++ G x ++ l.flatMap G) := by simp
    rw [e1, e2]
    exact ((List.perm_append_comm).append_right _).append_left _
theorem fl1_none {parks : List Int} {js : List (Int × Int)} {way : List Int} {b br : Int} {f : Bool} (h : oth (ends js b f) br ∈ parks) : fl1 parks js way (b, f, br) = [] := by
  unfold fl1
  simp only
  rw [if_neg fun z => (isPt_spec.mp z).1 h]
theorem rowsW {n : Int} {parks : List Int} {js : List (Int × Int)} {way : List Int} {w e : Int} (hJ : JOk n parks js) (hj : (w, e) ∈ js) : js.flatMap (rowW parks js way w e) = if isPt parks js w true = true then fl1 parks js way (w, true, e) else [] := by
  by_cases hw : w ∈ parks
  · have e0 : js.flatMap (rowW parks js way w e) = [] := by
      have : rowW parks js way w e = fun _ => [] := by
        funext p
        unfold rowW
        rw [if_neg fun z => z.2.2.1 hw]
      rw [this]
      simp
    rw [e0, if_neg fun z => (isPt_spec.mp z).1 hw]
  · have s1 : js.flatMap (rowW parks js way w e) = (eo js w).flatMap (fun o => if o ≠ e then (if o ∉ parks then (wo js o).flatMap (fun a => if a ≠ w then (if o ∉ way ∧ a ∉ way then [(o, false, a)] else []) else []) else []) else []) := by
      rw [← fm_eo]
      congr 1
      funext p
      unfold rowW
      by_cases c1 : p.1 = w
      · rw [if_pos c1]
        by_cases c2 : p.2 ≠ e
        · rw [if_pos c2]
          by_cases c3 : p.2 ∉ parks
          · rw [if_pos c3, if_pos ⟨c1, c2, hw, c3⟩, ← fm_wo]
            congr 1
            funext q
            by_cases d1 : q.2 = p.2
            · rw [if_pos d1]
              by_cases d2 : q.1 ≠ w
              · rw [if_pos d2]
                by_cases d3 : p.2 ∉ way ∧ q.1 ∉ way
                · rw [if_pos d3, if_pos ⟨d1, d2, d3⟩]
                · rw [if_neg d3, if_neg fun z => d3 z.2.2]
              · rw [if_neg d2, if_neg fun z => d2 z.2.1]
            · rw [if_neg d1, if_neg fun z => d1 z.1]
          · rw [if_neg c3, if_neg fun z => c3 z.2.2.2]
        · rw [if_neg c2, if_neg fun z => c2 z.2.1]
      · rw [if_neg c1, if_neg fun z => c1 z.1]
    have nd := ends_nd hJ w true
    have hb : e ∈ ends js w true := mem_ends.mpr hj
    rw [s1]
    have s2 := fm_two (F := fun o => if o ∉ parks then (wo js o).flatMap (fun a => if a ≠ w then (if o ∉ way ∧ a ∉ way then [((o, false, a) : T3)] else []) else []) else []) nd.1 (nd.2 hw) hb
    refine s2.trans ?_
    by_cases c : (ends js w true).length = 2
    · rw [if_pos c, if_pos (isPt_spec.mpr ⟨hw, c⟩)]
      obtain ⟨_, _, ho⟩ := two_of nd.1 c hb
      unfold fl1
      simp only [Bool.not_true, Bool.not_false]
      generalize oth (ends js w true) e = o at ho
      by_cases c3 : o ∈ parks
      · rw [if_neg (fun z => z c3), if_neg fun z => (isPt_spec.mp z).1 c3]
      · rw [if_pos c3]
        have nd2 := ends_nd hJ o false
        have hb2 : w ∈ ends js o false := mem_ends.mpr (jt_back (mem_ends.mp ho))
        refine (fm_two (F := fun a => if o ∉ way ∧ a ∉ way then [((o, false, a) : T3)] else []) nd2.1 (nd2.2 c3) hb2).trans ?_
        by_cases c4 : (ends js o false).length = 2
        · rw [if_pos c4, if_pos (isPt_spec.mpr ⟨c3, c4⟩)]
        · rw [if_neg c4, if_neg fun z => c4 (isPt_spec.mp z).2]
    · rw [if_neg c, if_neg fun z => c (isPt_spec.mp z).2]
theorem rowsE {n : Int} {parks : List Int} {js : List (Int × Int)} {way : List Int} {w e : Int} (hJ : JOk n parks js) (hj : (w, e) ∈ js) : js.flatMap (rowE parks js way w e) = if isPt parks js e false = true then fl1 parks js way (e, false, w) else [] := by
  by_cases hw : e ∈ parks
  · have e0 : js.flatMap (rowE parks js way w e) = [] := by
      have : rowE parks js way w e = fun _ => [] := by
        funext p
        unfold rowE
        rw [if_neg fun z => z.2.2.1 hw]
      rw [this]
      simp
    rw [e0, if_neg fun z => (isPt_spec.mp z).1 hw]
  · have s1 : js.flatMap (rowE parks js way w e) = (wo js e).flatMap (fun o => if o ≠ w then (if o ∉ parks then (eo js o).flatMap (fun a => if a ≠ e then (if o ∉ way ∧ a ∉ way then [(o, true, a)] else []) else []) else []) else []) := by
      rw [← fm_wo]
      congr 1
      funext p
      unfold rowE
      by_cases c1 : p.2 = e
      · rw [if_pos c1]
        by_cases c2 : p.1 ≠ w
        · rw [if_pos c2]
          by_cases c3 : p.1 ∉ parks
          · rw [if_pos c3, if_pos ⟨c1, c2, hw, c3⟩, ← fm_eo]
            congr 1
            funext q
            by_cases d1 : q.1 = p.1
            · rw [if_pos d1]
              by_cases d2 : q.2 ≠ e
              · rw [if_pos d2]
                by_cases d3 : p.1 ∉ way ∧ q.2 ∉ way
                · rw [if_pos d3, if_pos ⟨d1, d2, d3⟩]
                · rw [if_neg d3, if_neg fun z => d3 z.2.2]
              · rw [if_neg d2, if_neg fun z => d2 z.2.1]
            · rw [if_neg d1, if_neg fun z => d1 z.1]
          · rw [if_neg c3, if_neg fun z => c3 z.2.2.2]
        · rw [if_neg c2, if_neg fun z => c2 z.2.1]
      · rw [if_neg c1, if_neg fun z => c1 z.1]
    have nd := ends_nd hJ e false
    have hb : w ∈ ends js e false := mem_ends.mpr hj
    rw [s1]
    have s2 := fm_two (F := fun o => if o ∉ parks then (eo js o).flatMap (fun a => if a ≠ e then (if o ∉ way ∧ a ∉ way then [((o, true, a) : T3)] else []) else []) else []) nd.1 (nd.2 hw) hb
    refine s2.trans ?_
    by_cases c : (ends js e false).length = 2
    · rw [if_pos c, if_pos (isPt_spec.mpr ⟨hw, c⟩)]
      obtain ⟨_, _, ho⟩ := two_of nd.1 c hb
      unfold fl1
      simp only [Bool.not_true, Bool.not_false]
      generalize oth (ends js e false) w = o at ho
      by_cases c3 : o ∈ parks
      · rw [if_neg (fun z => z c3), if_neg fun z => (isPt_spec.mp z).1 c3]
      · rw [if_pos c3]
        have nd2 := ends_nd hJ o true
        have hb2 : e ∈ ends js o true := mem_ends.mpr (jt_back (mem_ends.mp ho))
        refine (fm_two (F := fun a => if o ∉ way ∧ a ∉ way then [((o, true, a) : T3)] else []) nd2.1 (nd2.2 c3) hb2).trans ?_
        by_cases c4 : (ends js o true).length = 2
        · rw [if_pos c4, if_pos (isPt_spec.mpr ⟨c3, c4⟩)]
        · rw [if_neg c4, if_neg fun z => c4 (isPt_spec.mp z).2]
    · rw [if_neg c, if_neg fun z => c (isPt_spec.mp z).2]
theorem rows_perm {n : Int} {parks : List Int} {js : List (Int × Int)} {way : List Int} {w e : Int} (hJ : JOk n parks js) (hj : (w, e) ∈ js) : (rows parks js way w e).Perm (flD parks js way w e) := by
  unfold rows
  refine (fm_perm js).trans ?_
  have e1 : js.flatMap (fun x => rowW parks js way w e x) = js.flatMap (rowW parks js way w e) := rfl
  have e2 : js.flatMap (fun x => rowE parks js way w e x) = js.flatMap (rowE parks js way w e) := rfl
  rw [e1, e2, rowsW hJ hj, rowsE hJ hj]
  have e3 : flD parks js way w e = (if isPt parks js w true = true then fl1 parks js way (w, true, e) else []) ++ (if isPt parks js e false = true then fl1 parks js way (e, false, w) else []) := by
    unfold flD jd3
    rw [List.flatMap_append]
    congr 1 <;> split <;> simp
  rw [e3]
end Lw

set_option Elab.async false
set_option linter.all false
set_option maxRecDepth 100000
set_option maxHeartbeats 4000000
/-! promises of the flanks -/
namespace Lw
open PySem L2
open Evl (Ex)
section
variable {K : PySem.W.Frag} {C : Addr}
def spOth (K : PySem.W.Frag) (C : Addr) : Sp := fun vs H Q _ => ∃ (G : Hp) (p : Addr) (n : Nat) (parks : List Int) (js : List (Int × Int)) (b : Int) (c : Bool) (br o : Int), Ex G H ∧ vs = [.ref p, .int b, .str (sd c), .int br] ∧ LayAt K C G p n parks js ∧ 0 ≤ b ∧ b < (n : Int) ∧ (ends js b c).Perm [br, o] ∧ o ≠ br ∧ Ret G H (XV (.int o)) Q
theorem sa_oth {G : Hp} {p : Addr} {n : Nat} {parks : List Int} {js : List (Int × Int)} {b : Int} {c : Bool} {br o : Int} (h : LayAt K C G p n parks js) (h0 : 0 ≤ b) (h1 : b < (n : Int)) (hp : (ends js b c).Perm [br, o]) (hn : o ≠ br) : SA (spOth K C) [.ref p, .int b, .str (sd c), .int br] G (XV (.int o)) := fun H e Q _ q => ⟨G, p, n, parks, js, b, c, br, o, e, rfl, h, h0, h1, hp, hn, q⟩
def spFl (K : PySem.W.Frag) (C : Addr) : Sp := fun vs H Q _ => ∃ (G : Hp) (p : Addr) (n : Nat) (parks : List Int) (js : List (Int × Int)) (w e : Int) (f : Bool) (wy : Addr) (way : List Int), Ex G H ∧ vs = [.ref p, .int (if f = true then w else e), .int (if f = true then e else w), .ref wy] ∧ LayAt K C G p n parks js ∧ JOk (n : Int) parks js ∧ (w, e) ∈ js ∧ Dp K G (.ref wy) (dI way) ∧ Ret G H (STn K G (flD parks js way w e)) Q
theorem sa_fl {G : Hp} {p : Addr} {n : Nat} {parks : List Int} {js : List (Int × Int)} {w e : Int} {wy : Addr} {way : List Int} (f : Bool) (h : LayAt K C G p n parks js) (hJ : JOk (n : Int) parks js) (hj : (w, e) ∈ js) (hy : Dp K G (.ref wy) (dI way)) : SA (spFl K C) [.ref p, .int (if f = true then w else e), .int (if f = true then e else w), .ref wy] G (STn K G (flD parks js way w e)) := fun H ex Q _ q => ⟨G, p, n, parks, js, w, e, f, wy, way, ex, rfl, h, hJ, hj, hy, q⟩
/-- a list of these triples, sorted -/
def SW (K : PySem.W.Frag) (l0 : List T3) : VP := fun v G => ∃ l : List T3, l.Perm l0 ∧ l.Pairwise (fun s t => k3 s ≤ k3 t) ∧ Dp K G v (.list (l.map dT3))
theorem mo_SW {l0 : List T3} : Mo (SW K l0) := fun v G G' e ⟨l, h1, h2, h3⟩ => ⟨l, h1, h2, dpx h3 e⟩
def spWant8 (K : PySem.W.Frag) : Sp := fun vs H Q _ => ∃ (G : Hp) (x : V) (t : Trk) (w : Int) (e : Int) (y : V) (way : List Int), Ex G H ∧ vs = [x, .int w, .int e, y] ∧ Dp K G x (dT t) ∧ TrkOk t ∧ (w, e) ∈ t.joints ∧ Dp K G y (dI way) ∧ Ret G H (SW K (flD t.parks t.joints way w e)) Q
theorem sa_want8 {G : Hp} {x y : V} {t : Trk} {w e : Int} {way : List Int} (hx : Dp K G x (dT t)) (ht : TrkOk t) (hj : (w, e) ∈ t.joints) (hy : Dp K G y (dI way)) : SA (spWant8 K) [x, .int w, .int e, y] G (SW K (flD t.parks t.joints way w e)) := fun H ex Q _ q => ⟨G, x, t, w, e, y, way, ex, rfl, hx, ht, hj, hy, q⟩
/-- neighbours of a way are joined -/
def WayOk (js : List (Int × Int)) (way : List Int) : Prop := ∀ (i : Nat) (a b : Int), way[i]? = some a → way[i + 1]? = some b → (a, b) ∈ js ∨ (b, a) ∈ js
def WY (K : PySem.W.Frag) (js : List (Int × Int)) : VP := fun v G => ∃ (a : Addr) (way : List Int), v = .ref a ∧ WayOk js way ∧ way.length ≤ 60 ∧ Dp K G v (dI way)
theorem mo_WY {js : List (Int × Int)} : Mo (WY K js) := fun v G G' e ⟨a, way, h0, h1, h2, h3⟩ => ⟨a, way, h0, h1, h2, dpx h3 e⟩
def spRoute (K : PySem.W.Frag) : Sp := fun vs H Q _ => ∃ (G : Hp) (x : V) (t : Trk) (c : Int), Ex G H ∧ vs = [x, .int c] ∧ Dp K G x (dT t) ∧ TrkOk t ∧ 1 ≤ t.joints.length ∧ Ret G H (WY K t.joints) Q
theorem sa_route {G : Hp} {x : V} {t : Trk} {c : Int} (hx : Dp K G x (dT t)) (ht : TrkOk t) (h1 : 1 ≤ t.joints.length) : SA (spRoute K) [x, .int c] G (WY K t.joints) := fun H ex Q _ q => ⟨G, x, t, c, ex, rfl, hx, ht, h1, q⟩
def spClear (K : PySem.W.Frag) (C : Addr) : Sp := fun vs H Q _ => ∃ (G : Hp) (x : V) (t : Trk) (p y : Addr) (way : List Int), Ex G H ∧ vs = [x, .ref p, .ref y] ∧ Dp K G x (dT t) ∧ TrkOk t ∧ LayAt K C G p t.lens.length t.parks t.joints ∧ WayOk t.joints way ∧ way.length ≤ 60 ∧ Dp K G (.ref y) (dI way) ∧ Ret G H (XV (.bl true)) Q
theorem sa_clear {G : Hp} {x : V} {t : Trk} {p y : Addr} {way : List Int} (hx : Dp K G x (dT t)) (ht : TrkOk t) (hL : LayAt K C G p t.lens.length t.parks t.joints) (hw : WayOk t.joints way) (hl : way.length ≤ 60) (hy : Dp K G (.ref y) (dI way)) : SA (spClear K C) [x, .ref p, .ref y] G (XV (.bl true)) := fun H ex Q _ q => ⟨G, x, t, p, y, way, ex, rfl, hx, ht, hL, hw, hl, hy, q⟩
theorem way_rev {js : List (Int × Int)} {way : List Int} (h : WayOk js way) : WayOk js way.reverse := fun i a b ha hb => by
  have hi := (List.getElem?_eq_some_iff.mp hb).1
  rw [List.length_reverse] at hi
  rw [List.getElem?_reverse (by omega)] at ha hb
  have e : way.length - 1 - i = way.length - 1 - (i + 1) + 1 := by omega
  rw [e] at ha
  exact (h _ _ _ hb ha).symm
end
section
variable {K : PySem.W.Frag} {σ : L2.St} {G G' H H' : Hp} {ta tb te tc td : TE} {P : VP} {D : Ends} {u : TT}
theorem st_asgG {g : TG} (hG : Ex G H) (h : EF te σ G P) (k : ∀ v G' H', Gr G G' H H' → P v G' → g v σ H' D.nx) : tAsg te g D σ H := h H hG _ k
theorem st_forE {ds : List PyData} {tl : TE} {g : TG} {tu : TS} (hG : Ex G H) (h : EF tl σ G (DV K (.list ds)))
    (k : ∀ G1 H1 a xs, Gr G G1 H H1 → SqL K G1 a xs → DpAll K G1 xs ds → ∃ W : Nat → L2.St → Hp → Prop, W 0 σ H1 ∧ (∀ i σ' H', W i σ' H' → Ex G1 H') ∧ (∀ i x σ' H', xs[i]? = some x → W i σ' H' → g x σ' H' fun σ2 H2 => tu { D with nx := W (i + 1), ct := W (i + 1), bk := D.nx } σ2 H2) ∧ ∀ σ' H', W xs.length σ' H' → D.nx σ' H') : tFor (iList K tl) g tu D σ H :=
  h H hG _ fun v G1 H1 g1 hv => by
    obtain ⟨a, xs, rfl, hs, hd⟩ := dp_lst hv
    obtain ⟨W, h0, hl, hs', hd'⟩ := k G1 H1 a xs g1 hs hd
    exact ⟨a, rfl, ⟨xs, Evl.ex_l g1.ok hs⟩, for_list W h0 (fun i σ' H' _ w => Evl.ex_l (hl i σ' H' w) hs) hs' hd'⟩
theorem ex_call4 {sp : Sp} {E : XK} {x y z w : V} {P : VP} (ha : EF ta σ G (XV x)) (hb : EF tb σ G (XV y)) (hc : EF tc σ G (XV z)) (hd : EF td σ G (XV w)) (h : ∀ G', Ex G G' → SA sp [x, y, z, w] G' P) : EF (tCall sp [] E (tCons ta (tCons tb (tCons tc (tCons td tNil))))) σ G P := ef_call (ea_four mo_XV mo_XV mo_XV mo_XV ha hb hc hd) fun vs G' e hv => by
  obtain ⟨a, b, c, d, rfl, pa, pb, pc, pd⟩ := hv
  cases (show a = x from pa)
  cases (show b = y from pb)
  cases (show c = z from pc)
  cases (show d = w from pd)
  exact h G' e
theorem ed_niI {o : Int} {way : List Int} (ha : EF ta σ G (XV (.int o))) (hb : EF tb σ G (DV K (dI way))) : EF (tOp (rNotInD K) ta tb) σ G (BV (· = !decide (o ∈ way))) := (ed_niD (d := .int o) (ds := way.map PyData.int) (EF.dv ha (.int o)) hb (sh_int _) (sh_ints _)).imp fun v _ _ ⟨b, e, hb⟩ => ⟨b, e, by rw [hb, any_int]⟩
theorem sa_askS' {P : List Int → List (Int × Int) → Int → Bool → VP} {C : Addr} {p : Addr} {n : Nat} {parks : List Int} {js : List (Int × Int)} {b : Int} (c : Bool) (h : LayAt K C G p n parks js) (h0 : 0 ≤ b) (h1 : b < (n : Int)) : SA (spAskS K C P) [.ref p, .int b, .str (sd c)] G (P parks js b c) := sa_askS c h h0 h1
theorem dp_t3 {x : V} {t : T3} (h : Dp K G x (dT3 t)) : ∃ a, x = .ref a ∧ SqT K G a [.int t.1, .str (sd t.2.1), .int t.2.2] := by
  obtain ⟨a, ys, rfl, hs, hd⟩ := dp_tup h
  refine ⟨a, rfl, ?_⟩
  cases hd with
  | cons a1 r1 => cases r1 with
    | cons a2 r2 => cases r2 with
      | cons a3 r3 =>
        cases r3
        cases a1
        cases a2
        cases a3
        exact hs
theorem fl1_eq {parks : List Int} {js : List (Int × Int)} {way : List Int} {t : T3} : fl1 parks js way t = (if isPt parks js (oth (ends js t.1 t.2.1) t.2.2) (!t.2.1) = true then (if oth (ends js t.1 t.2.1) t.2.2 ∉ way ∧ oth (ends js (oth (ends js t.1 t.2.1) t.2.2) (!t.2.1)) t.1 ∉ way then [(oth (ends js t.1 t.2.1) t.2.2, !t.2.1, oth (ends js (oth (ends js t.1 t.2.1) t.2.2) (!t.2.1)) t.1)] else []) else []) := rfl
end
end Lw

set_option Elab.async false
set_option linter.all false
set_option maxRecDepth 100000
set_option maxHeartbeats 4000000
/-! rows that a loop over joints makes -/
namespace Lw
open PySem L2
open Evl (Ex)
section
variable {K : PySem.W.Frag} {σ : L2.St} {G G' H H' : Hp} {ta tb te tc td tl : TE} {t u : TT} {P : VP} {D : Ends} {tu : TS}
def RSt (K : PySem.W.Frag) (G H H' : Hp) (q : Addr) (L : List T3) : Prop := ∃ G' vs, Gr G G' H H' ∧ G' q = none ∧ H' q = some (.lst vs) ∧ DpAll K G' vs (L.map dT3)
theorem RSt.ok {H1 : Hp} {q : Addr} {L : List T3} (h : RSt K G H H1 q L) : Ex G H1 := by
  obtain ⟨G', vs, g, _⟩ := h
  exact g.up.trans g.ok
theorem RSt.up {H1 H2 : Hp} {q : Addr} {L : List T3} (h : RSt K G H H1 q L) (e : Ex H1 H2) : RSt K G H H2 q L := by
  obtain ⟨G', vs, g, gq, hq, hd⟩ := h
  exact ⟨G', vs, g.then e, gq, e _ _ hq, hd⟩
theorem st_rows {H1 : Hp} {q a1 : Addr} {xs1 : List V} {js : List (Int × Int)} {g : Int × Int → List T3} {L0 : List T3} {j : Nat} (hR : RSt K G H H1 q L0) (hl : EF tl σ G (XV (.ref a1))) (hx : SqL K G a1 xs1) (hd : DpAll K G xs1 (js.map dP)) (Sg : L2.St → Prop) (h0 : Sg σ)
    (hs : ∀ (k : Nat) (p : Int × Int) (x : V) (σ' : L2.St) (H' : Hp) (D' : Ends), js[k]? = some p → Dp K G x (dP p) → Sg σ' → RSt K G H H' q (L0 ++ (js.take k).flatMap g) → D'.rt = D.rt → (∀ σ2 H2, Sg σ2 → RSt K G H H2 q (L0 ++ (js.take k).flatMap g ++ g p) → D'.nx σ2 H2) → tu D' (σ'.set j (some x)) H')
    (he : ∀ σ' H', Sg σ' → RSt K G H H' q (L0 ++ js.flatMap g) → D.nx σ' H') : tFor (iList K tl) (gName j) tu D σ H1 := by
  have hlen : xs1.length = js.length := by rw [dpa_len hd, List.length_map]
  refine st_forK (xs := xs1) hR.ok hl hx (fun i σ' H' => Sg σ' ∧ RSt K G H H' q (L0 ++ (js.take i).flatMap g)) (fun H' e => ⟨h0, by rw [List.take_zero, List.flatMap_nil, List.append_nil]; exact hR.up e⟩) (fun i σ' H' hw => hw.2.ok) (fun i x σ' H' hi hw => ?_) (fun σ' H' hw => ?_)
  · obtain ⟨d, hd1, dx⟩ := dpa_get hd hi
    rw [List.getElem?_map] at hd1
    obtain ⟨p, hp, rfl⟩ := Option.map_eq_some_iff.mp hd1
    refine hs i p x σ' H' _ hp dx hw.1 hw.2 rfl fun σ2 H2 h1 h2 => ⟨h1, ?_⟩
    rw [take_next hp, List.flatMap_append]
    have e : List.flatMap g [p] = g p := by simp
    rw [e, ← List.append_assoc]
    exact h2
  · rw [hlen, List.take_length] at hw
    exact he σ' H' hw.1 hw.2
theorem st_rapp {H1 : Hp} {q : Addr} {L : List T3} {x : T3} {i : Nat} (hqH : H q = none) (hG : Ex G H) (hR : RSt K G H H1 q L) (hz : L.length < 1000) (ho : σ[i]? = some (some (.ref q))) (h : ∀ G', Ex G G' → EF te σ G' fun v G2 => Dp K G2 v (dT3 x)) (k : ∀ H2, RSt K G H H2 q (L ++ [x]) → D.nx σ H2) : tDrop (tBM K "list" rAppend (tVar i) (tCons te tNil)) D σ H1 := by
  obtain ⟨G', vs, g, gq, hq, hd⟩ := hR
  refine st_app (P := fun v G2 => Dp K G2 v (dT3 x)) g.ok hq (ex_var ho) (h G' g.up) (by rw [dpa_len hd, List.length_map]; exact hz) fun v Gb Hb gb pv => k _ ?_
  have gbq : Gb q = none := gb.2.2.2 q (ne_none_of hq) gq
  refine ⟨Gb, vs ++ [v], (g.trans gb).put hqH gbq, gbq, upd_same, ?_⟩
  rw [List.map_append]
  exact dpa_snoc (dpax hd gb.up) pv
/-- a triple of ints and a side -/
theorem ef_t3 {a b : Int} {f : Bool} {s : Str} (hs : s = sd f) (ha : EF ta σ G (XV (.int a))) (hb : EF tb σ G (XV (.str s))) (hc : EF tc σ G (XV (.int b))) : EF (tTup (tCons ta (tCons tb (tCons tc tNil)))) σ G fun v G2 => Dp K G2 v (dT3 (a, f, b)) := by
  subst hs
  exact ef_tup (ea_three mo_XV mo_XV mo_XV ha hb hc) (fun vs G' ⟨x, y, z, ev, _⟩ => by rw [ev]; simp) fun p2 vs G' _ _ _ ⟨x, y, z, ev, hx, hy, hz⟩ => dp_mkT upd_same (by rw [ev, hx, hy, hz]; exact .cons (.int _) (.cons (.str _) (.cons (.int _) .nil)))
theorem et_andB {a b : Bool} (h1 : ET t σ G (· = a)) (h2 : ET u σ G (· = b)) : ET (tAnd t u) σ G (· = (a && b)) := et_and (p := (· = a)) (q := (· = b)) h1 (fun _ => h2) (fun h c hc => by rw [← h, hc]; rfl) (fun h => by rw [← h]; rfl)
theorem et_eqI {a b : Int} (ha : EF ta σ G (XV (.int a))) (hb : EF tb σ G (XV (.int b))) : ET (tTest (tOp rEq ta tb)) σ G (· = decide (a = b)) := et_test (ei_eq (EF.iv ha) (EF.iv hb) fun x y hx hy => by rw [hx, hy])
theorem et_neI {a b : Int} (ha : EF ta σ G (XV (.int a))) (hb : EF tb σ G (XV (.int b))) : ET (tTest (tOp rNe ta tb)) σ G (· = !decide (a = b)) := et_test (ei_ne (EF.iv ha) (EF.iv hb) fun x y hx hy => by rw [hx, hy])
theorem et_niI {a : Int} {way : List Int} (ha : EF ta σ G (XV (.int a))) (hb : EF tb σ G (DV K (dI way))) : ET (tTest (tOp (rNotInD K) ta tb)) σ G (· = !decide (a ∈ way)) := et_test (ed_niI ha hb)
theorem ep0 {j : Nat} {v : V} {q : Int × Int} (h : σ[j]? = some (some v)) (hv : Dp K G v (dP q)) : EF (tOp (rIxT K) (tVar j) (tC (.int 0))) σ G (XV (.int q.1)) := ei_pair (i := 0) (ex_var h) hv ex_c rfl
theorem ep1 {j : Nat} {v : V} {q : Int × Int} (h : σ[j]? = some (some v)) (hv : Dp K G v (dP q)) : EF (tOp (rIxT K) (tVar j) (tC (.int 1))) σ G (XV (.int q.2)) := ei_pair (i := 1) (ex_var h) hv ex_c rfl
theorem and4 {p q r s : Prop} [Decidable p] [Decidable q] [Decidable r] [Decidable s] : (decide p && (!decide q && (!decide r && !decide s))) = decide (p ∧ ¬ q ∧ ¬ r ∧ ¬ s) := by
  by_cases h1 : p <;> by_cases h2 : q <;> by_cases h3 : r <;> by_cases h4 : s <;> simp [h1, h2, h3, h4]
end
theorem rows_len {n : Int} {parks : List Int} {js : List (Int × Int)} {way : List Int} {w e : Int} (hJ : JOk n parks js) (hj : (w, e) ∈ js) {L rest : List T3} (h : L ++ rest = rows parks js way w e) : L.length ≤ 2 := by
  have h1 := (rows_perm (way := way) hJ hj).length_eq
  have h2 := flD_len parks js way w e
  rw [← h, List.length_append] at h1
  omega
theorem fm_cut {g : Int × Int → List T3} {js : List (Int × Int)} {k : Nat} {p : Int × Int} (h : js[k]? = some p) : (js.take k).flatMap g ++ (g p ++ (js.drop (k + 1)).flatMap g) = js.flatMap g := by
  conv => rhs; rw [← List.take_append_drop (k + 1) js, take_next h]
  rw [List.flatMap_append, List.flatMap_append]
  simp
theorem rows_cut (parks : List Int) (js : List (Int × Int)) (way : List Int) (w e : Int) {k : Nat} {p : Int × Int} (h : js[k]? = some p) : (js.take k).flatMap (fun p => rowW parks js way w e p ++ rowE parks js way w e p) ++ (rowW parks js way w e p ++ rowE parks js way w e p ++ (js.drop (k + 1)).flatMap (fun p => rowW parks js way w e p ++ rowE parks js way w e p)) = rows parks js way w e :=
  fm_cut (g := fun p => rowW parks js way w e p ++ rowE parks js way w e p) h
end Lw

set_option Elab.async false
set_option linter.all false
set_option maxRecDepth 100000
set_option maxHeartbeats 4000000
/-! ways -/
namespace Lw
open PySem L2
open Evl (Ex)
/-- without what is known of q -/
def dropA (G : Hp) (q : Addr) : Hp := fun a => if a = q then none else G a
theorem dropA_ne {G : Hp} {q a : Addr} (h : a ≠ q) : dropA G q a = G a := if_neg h
theorem dropA_same {G : Hp} {q : Addr} : dropA G q q = none := if_pos rfl
theorem Gr.forget {G' Gn H' H2 : Hp} {q : Addr} {o : HO} (g : Gr (upd G' q o) Gn H' H2) (gq : G' q = none) : Gr G' (dropA Gn q) H' H2 := by
  refine ⟨fun a u h => ?_, fun a u h => ?_, g.hp, fun a h ga => ?_⟩
  · have n : a ≠ q := fun z => by rw [z, gq] at h; cases h
    rw [dropA_ne n]
    exact g.up a u (by rw [upd_ne n]; exact h)
  · have n : a ≠ q := fun z => by rw [z, dropA_same] at h; cases h
    rw [dropA_ne n] at h
    exact g.ok a u h
  · by_cases n : a = q
    · rw [n]; exact dropA_same
    · rw [dropA_ne n]
      exact g.2.2.2 a h (by rw [upd_ne n]; exact ga)
theorem wayok_two {js : List (Int × Int)} {p : Int × Int} (h : p ∈ js) : WayOk js [p.1, p.2] := fun i a b ha hb => by
  match i with
  | 0 =>
    have e1 : p.1 = a := by simpa using ha
    have e2 : p.2 = b := by simpa using hb
    subst e1 e2
    exact .inl h
  | i + 1 => simp at hb
theorem wayok_snoc {js : List (Int × Int)} {ns : List Int} {w m : Int} (h : WayOk js ns) (hw : ns[ns.length - 1]? = some w) (hm : (w, m) ∈ js) : WayOk js (ns ++ [m]) := fun i a b ha hb => by
  have hl := (List.getElem?_eq_some_iff.mp hw).1
  by_cases c : i + 1 < ns.length
  · rw [List.getElem?_append_left (by omega)] at ha
    rw [List.getElem?_append_left c] at hb
    exact h i a b ha hb
  · have hb2 := (List.getElem?_eq_some_iff.mp hb).1
    rw [List.length_append, List.length_singleton] at hb2
    have e : i = ns.length - 1 := by omega
    rw [List.getElem?_append_left (by omega), e, hw] at ha
    rw [List.getElem?_append_right (by omega)] at hb
    have e2 : i + 1 - ns.length = 0 := by omega
    rw [e2] at hb
    have e3 : m = b := by simpa using hb
    have e4 : w = a := Option.some.inj ha
    subst e3 e4
    exact .inl hm
section
variable {K : PySem.W.Frag} {σ : L2.St} {G G' H H' : Hp} {ta tb te tc td tl : TE} {t u : TT} {P : VP} {D : Ends} {tu : TS}
theorem ea_ci {tr : TA} {z : Int} {rest : List V} (h : EA tr σ G fun vs _ => vs = rest) : EA (tCons (tC (.int z)) tr) σ G fun vs _ => vs = .int z :: rest := ea_cons (Pa := XV (.int z)) mo_XV (fun vs G G' e h => h) ex_c h fun x xs G' _ hx hr => by rw [show x = _ from hx, hr]
theorem ef_sortE {R : List Int → Prop} (ha : EF ta σ G fun v G' => ∃ (p : Addr) (ns : List Int), v = .ref p ∧ G' p = some (.lst (ns.map V.int)) ∧ R ns) : EF (tCB (rSortedI K) (tCons ta tNil)) σ G fun v G' => ∃ (p : Addr) (ns : List Int), v = .ref p ∧ G p = none ∧ G' p = some (.lst (ns.map V.int)) ∧ ∃ ns0, ns.Perm ns0 ∧ R ns0 := fun H e Q q => ha H e _ fun x G1 H1 g1 ⟨p, ns, ev, hp, hR⟩ =>
  ⟨p, ns, by rw [ev], Evl.sq_of (g1.ok _ _ hp), fun ns' p2 h1 _ h3 => q _ _ _ (g1.trans (.new g1.ok h3)) ⟨p2, ns', rfl, none_back (g1.up.trans g1.ok) h3, upd_same, ns, h1, hR⟩⟩
theorem ex_neg {z : Int} : EF (tUn (rU fun i => .int (-i)) (tC (.int z))) σ G (XV (.int (-z))) := fun H e Q q => ⟨z, rfl, q _ _ _ (.refl e) rfl⟩
theorem atI_last {xs : List V} {v : V} (h : xs[xs.length - 1]? = some v) : atI xs (-1) = some v := by
  have hl := (List.getElem?_eq_some_iff.mp h).1
  unfold atI ixN
  rw [if_neg (by omega), if_pos (by omega)]
  show xs[((-1 : Int) + (xs.length : Int)).toNat]? = some v
  have e : ((-1 : Int) + (xs.length : Int)).toNat = xs.length - 1 := by omega
  rw [e]
  exact h
theorem ex_ixLast {a : Addr} {xs : List V} {v : V} (ha : EF ta σ G (XV (.ref a))) (hb : EF tb σ G (XV (.int (-1)))) (hs : SqL K G a xs) (hv : xs[xs.length - 1]? = some v) : EF (tOp (rIxL K) ta tb) σ G (XV v) :=
  ef_op mo_XV mo_XV ha hb fun x y G' e1 pa pb => by
    cases (show x = .ref a from pa)
    cases (show y = .int (-1) from pb)
    exact fun H e Q k => ⟨a, xs, -1, v, rfl, rfl, Evl.ex_l (e1.trans e) hs, atI_last hv, k v G' H (.refl e) rfl⟩
theorem ef_lstRev {a : Addr} {xs : List V} (ha : EF ta σ G (XV (.ref a))) (hs : SqL K G a xs) : EF (tLstRev K ta) σ G fun v G' => ∃ p, v = .ref p ∧ G p = none ∧ G' p = some (.lst xs.reverse) := fun H e Q q => ha H e _ fun x G1 H1 g1 p => by
  cases (show x = .ref a from p)
  exact ⟨a, xs, rfl, Evl.ex_l (g1.up.trans g1.ok) hs, fun p2 h2 => q _ _ _ (g1.trans (.new g1.ok h2)) ⟨p2, rfl, none_back (g1.up.trans g1.ok) h2, upd_same⟩⟩
theorem st_forRE {j : Nat} {N : Int} {ta : TA} (hG : Ex G H) (h : EA ta σ G fun vs _ => ∃ z : Int, vs = [.int z] ∧ 0 ≤ z ∧ z ≤ N) (hN : N ≤ 100000) (W : Nat → L2.St → Hp → Prop) (h0 : ∀ H', Ex H H' → W 0 σ H')
    (hs : ∀ (i : Nat) σ' H', (i : Int) < N → W i σ' H' → tu { D with nx := W (i + 1), ct := W (i + 1), bk := D.nx } (σ'.set j (some (.int (i : Int)))) H') (hd : ∀ (i : Nat) σ' H', (i : Int) ≤ N → W i σ' H' → D.nx σ' H') : tFor (iRng1 ta) (gName j) tu D σ H :=
  h H hG _ fun vs G1 H1 g1 ⟨z, ev, hz⟩ => ⟨z, ev, by omega, by omega, for_range (lo := 0) (n := z.toNat) W (h0 H1 g1.hp) (fun i σ' H' hi p => by
    have e0 : (0 : Int) + (i : Int) = (i : Int) := Int.zero_add _
    show tu { D with nx := W (i + 1), ct := W (i + 1), bk := D.nx } (σ'.set j (some (.int ((0 : Int) + (i : Int))))) H'
    rw [e0]
    exact hs i σ' H' (by omega) p) fun σ' H' p => hd z.toNat σ' H' (by omega) p⟩
end
end Lw

set_option Elab.async false
set_option linter.all false
set_option maxRecDepth 100000
set_option maxHeartbeats 4000000
/-! for the law of the flanks -/
namespace Lw
open PySem L2
open Evl (Ex)
theorem eqv_ints : ∀ l : List Int, PyData.eqvAll (l.map PyData.int) (l.map PyData.int) = true
  | [] => by simp [PyData.eqvAll]
  | z :: zs => by simp [PyData.eqvAll, PyData.eqv, eqv_ints zs]
theorem eqv_dI (l : List Int) : PyData.eqv (dI l) (dI l) = true := by
  simp only [dI, PyData.eqv]
  exact eqv_ints l
theorem ok_t3s {l : List T3} (h : l.length ≤ 1000) : Okd 2 (.list (l.map dT3)) := by
  unfold Okd
  refine ⟨by rw [List.length_map]; exact h, fun d m => ?_⟩
  obtain ⟨p, _, rfl⟩ := List.mem_map.mp m
  exact ok_tr _ _ _
theorem Gr.unput {G G' H H' : Hp} {q : Addr} {o : HO} (g : Gr G (upd G' q o) H H') (gq : G q = none) (gq' : G' q = none) : Gr G G' H H' := by
  refine ⟨fun a u h => ?_, fun a u h => ?_, g.hp, fun a h ga => ?_⟩
  · have n : a ≠ q := fun z => by rw [z, gq] at h; cases h
    have := g.up a u h
    rwa [upd_ne n] at this
  · have n : a ≠ q := fun z => by rw [z, gq'] at h; cases h
    exact g.ok a u (by rw [upd_ne n]; exact h)
  · by_cases n : a = q
    · rw [n]; exact gq'
    · have := g.2.2.2 a h ga
      rwa [upd_ne n] at this
def rMaxI : List V → Hp → VK → Prop := fun xs H Q => ∃ i j, xs = [.int i, .int j] ∧ Q (.int (if j > i then j else i)) H
section
variable {K : PySem.W.Frag} {σ : L2.St} {G G' H H' : Hp} {ta tb te tc td tl : TE} {t u : TT} {P : VP} {D : Ends} {tu : TS}
theorem ex_add {a b : Int} (ha : EF ta σ G (XV (.int a))) (hb : EF tb σ G (XV (.int b))) : EF (tOp (rI0 fun i j => .int (i + j)) ta tb) σ G (XV (.int (a + b))) := ef_op mo_XV mo_XV ha hb fun x y G' _ hx hy => by
  cases (show x = _ from hx)
  cases (show y = _ from hy)
  exact ro_I0 rfl
theorem ex_min {a b z : Int} (ha : EF ta σ G (XV (.int a))) (hb : EF tb σ G (XV (.int b))) (hz : (if b < a then b else a) = z) : EF (tCB rMinI (tCons ta (tCons tb tNil))) σ G (XV (.int z)) := fun H e Q k => (ea_two mo_XV mo_XV ha hb) H e _ fun vs G1 H1 g1 ⟨x, y, ev, hx, hy⟩ =>
  ⟨a, b, by rw [ev, show x = _ from hx, show y = _ from hy], by rw [hz]; exact k _ G1 H1 g1 rfl⟩
theorem ex_max {a b z : Int} (ha : EF ta σ G (XV (.int a))) (hb : EF tb σ G (XV (.int b))) (hz : (if b > a then b else a) = z) : EF (tCB rMaxI (tCons ta (tCons tb tNil))) σ G (XV (.int z)) := fun H e Q k => (ea_two mo_XV mo_XV ha hb) H e _ fun vs G1 H1 g1 ⟨x, y, ev, hx, hy⟩ =>
  ⟨a, b, by rw [ev, show x = _ from hx, show y = _ from hy], by rw [hz]; exact k _ G1 H1 g1 rfl⟩
theorem et_neW {way : List Int} (ha : EF ta σ G (DV K (dI way))) (hb : EF tb σ G (DV K (dI way))) : ET (tTest (tOp (rNeD K) ta tb)) σ G (· = false) := et_test (ef_op mo_DV mo_DV ha hb fun x y G' _ hx hy => fun H e Q k => ⟨_, _, dpx hx e, dpx hy e, sh_ints _, sh_ints _, k _ G' H (.refl e) ⟨_, rfl, by rw [eqv_dI]; rfl⟩⟩)
/-- the answer that is wanted -/
theorem et_fl {a8 : Addr} {v6 : V} {xs8 : List V} {l6 l8 L : List T3} {i8 i6 i7 i2 : Nat} {p7 y : Addr} {way : List Int} (h8 : σ[i8]? = some (some (.ref a8))) (h6 : σ[i6]? = some (some v6)) (h7 : σ[i7]? = some (some (.ref p7))) (h2 : σ[i2]? = some (some (.ref y)))
    (q8 : G a8 = some (.lst xs8)) (d8 : DpAll K G xs8 (l8.map dT3)) (p8 : l8.Perm L) (s8 : l8.Pairwise fun s t => k3 s ≤ k3 t) (d6 : Dp K G v6 (.list (l6.map dT3))) (p6 : l6.Perm L) (s6 : l6.Pairwise fun s t => k3 s ≤ k3 t) (hi : ∀ s ∈ L, ∀ t ∈ L, k3 s = k3 t → s = t) (hl : L.length ≤ 2)
    (d7 : Dp K G (.ref p7) (dI way)) (d2 : Dp K G (.ref y) (dI way)) : ET (tOr (tNot (tB (tCall (spSame K 2) [] E0 (tCons (tVar i8) (tCons (tVar i6) tNil))))) (tTest (tOp (rNeD K) (tVar i7) (tVar i2)))) σ G (· = false) := by
  have e : l8 = l6 := sort3_uniq (fun s hs t ht => hi s (p8.mem_iff.mp hs) t (p8.mem_iff.mp ht)) (p8.trans p6.symm) s8 s6
  subst e
  refine et_or (p := (· = false)) (q := (· = false)) (et_not (et_B (EF.bl (ex_call2 (P := XV (.bl true)) (ex_var h8) (ex_var h6) fun G' e' => sa_same (dpx (dp_mkL q8 d8) e') (dpx d6 e') (ok_t3s (by rw [p8.length_eq]; omega))) rfl))) (fun _ => et_neW (EF.dv (ex_var h7) d7) (EF.dv (ex_var h2) d2)) (fun z => nomatch z) (fun _ b hb => hb)
end
end Lw

set_option Elab.async false
set_option linter.all false
set_option maxRecDepth 100000
set_option maxHeartbeats 4000000
/-! errors that are raised -/
namespace Lw
open PySem L2
open Evl (Ex)
/-- a new error of the class at C with these fields is let out -/
def Rse (C : Addr) (fs : List (Str × V)) (G H : Hp) (E : XK) : Prop := ∀ G' H' d, Gr G G' H H' → H' d = none → E (.ref C) (some d) (upd H' d (.xd fs))
/-- an own __init__ that stores one field -/
def spIni1 (C : Addr) (f : Str) : Sp := fun vs H Q _ => ∃ (a : Addr) (y : V), vs = [.ref a, y] ∧ H a = some (exo a C none) ∧ ∀ d, H d = none → d ≠ a → Q .non (upd (upd H d (exd d [(f, y)])) a (exo a C (some d)))
/-- what an own error class must have -/
structure Err (P : Program) (w : World) (K : PySem.W.Frag) (mg : Str → Option Value) (base : Heap) (x : Str) (C fI : Addr) (fd : FuncData) (ps : List Str) (sp : Sp) : Prop where
  cls : OexC K C
  xf : XfC K C
  ini : PySem.W.findIn K (.ref C) "__init__" = some (some (.ref fI))
  tI : PySem.W.typeIn K (.ref fI) = some (.type "function")
  fn : FnOk P w K mg base CX0 1 fI fd ps sp
  bnd : Binds K fd ps []
  gl : mg x = some (.ref C)
section
variable {K : PySem.W.Frag} {C : Addr}
theorem heap_new {H1 : Hp} {a d : Addr} {o1 o2 o3 o4 : HO} (ha : H1 a = none) (hn : d ≠ a) : upd (del (upd (upd (upd H1 a o1) d o2) a o3) a) d o4 = upd H1 d o4 := by
  funext b
  by_cases e : b = d
  · rw [e, upd_same, upd_same]
  · rw [upd_ne e, upd_ne e]
    by_cases e2 : b = a
    · rw [e2, del_same, ha]
    · rw [del_ne e2, upd_ne e2, upd_ne e, upd_ne e2]
/-- raise C(e) -/
theorem mk_one {σ : L2.St} {G H : Hp} {te : TE} {f : Str} {y : V} {Q : XK} (hG : Ex G H) (h : EF te σ G (XV y)) (k : ∀ G' H' d, Gr G G' H H' → H' d = none → Q (.ref C) (some d) (upd H' d (.xd [(f, y)]))) : tMkO C (spIni1 C f) [] (tCons te tNil) σ H Q :=
  (ea_one h) H hG _ fun vs G1 H1 g1 ⟨x, ev, hx⟩ => by
    subst ev
    rw [show x = y from hx]
    refine ⟨by simp, fun a ha => ⟨a, y, rfl, upd_same, fun d hd hn => ⟨rfl, d, [(f, y)], upd_same, ?_, ?_, ?_⟩⟩⟩
    · rw [upd_ne hn]
      exact upd_same
    · rw [upd_ne hn] at hd
      exact hd
    · rw [heap_new ha hn]
      rw [upd_ne hn] at hd
      exact k G1 H1 d g1 hd
/-- a new list of these ints, sorted -/
def PLs (K : PySem.W.Frag) (l0 : List Int) : VP := fun v G => ∃ l : List Int, l.Perm l0 ∧ l.Pairwise (· ≤ ·) ∧ Dp K G v (dI l)
def sEast (K : PySem.W.Frag) : Nat → List Int → List (Int × Int) → Int → VP := fun _ _ js b => PLs K (eo js b)
def sWest (K : PySem.W.Frag) : Nat → List Int → List (Int × Int) → Int → VP := fun _ _ js b => PLs K (wo js b)
def sBranch (K : PySem.W.Frag) : List Int → List (Int × Int) → Int → Bool → VP := fun _ js b c => PLs K (ends js b c)
theorem pls_nl {js : List (Int × Int)} {b : Int} {c : Bool} {v : V} {G : Hp} (h : PLs K (ends js b c) v G) : NL K (endN js b c) v G := by
  obtain ⟨l, h1, _, h2⟩ := h
  exact ⟨l, by rw [h1.length_eq, ends_len], h2⟩
/-- check_block, with its error -/
def spCheckX (C CN : Addr) : Sp := fun vs H Q E => ∃ (G : Hp) (p : Addr) (n : Int) (b : Int), Ex G H ∧ vs = [.ref p, .int b] ∧ SizeAt C G p n ∧ (0 ≤ b ∧ b < n → Ret G H (XV .non) Q) ∧ (¬ (0 ≤ b ∧ b < n) → Rse CN [("block", .int b)] G H E)
theorem sa_checkX {CN : Addr} {G : Hp} {p : Addr} {n b : Int} (h : SizeAt C G p n) (h0 : 0 ≤ b) (h1 : b < n) : SA (spCheckX C CN) [.ref p, .int b] G (XV .non) := fun H e Q _ q => ⟨G, p, n, b, e, rfl, h, fun _ => q, fun z => absurd ⟨h0, h1⟩ z⟩
/-- the questions of a whole layout, with their error -/
def spAskX (K : PySem.W.Frag) (C CN : Addr) (P : Nat → List Int → List (Int × Int) → Int → VP) : Sp := fun vs H Q E => ∃ (G : Hp) (p : Addr) (n : Nat) (parks : List Int) (js : List (Int × Int)) (b : Int), Ex G H ∧ vs = [.ref p, .int b] ∧ LayAt K C G p n parks js ∧ (0 ≤ b ∧ b < (n : Int) → Ret G H (P n parks js b) Q) ∧ (¬ (0 ≤ b ∧ b < (n : Int)) → Rse CN [("block", .int b)] G H E)
theorem sa_askX {CN : Addr} {P : Nat → List Int → List (Int × Int) → Int → VP} {G : Hp} {p : Addr} {n : Nat} {parks : List Int} {js : List (Int × Int)} {b : Int} (h : LayAt K C G p n parks js) (h0 : 0 ≤ b) (h1 : b < (n : Int)) : SA (spAskX K C CN P) [.ref p, .int b] G (P n parks js b) := fun H e Q _ q => ⟨G, p, n, parks, js, b, e, rfl, h, fun _ => q, fun z => absurd ⟨h0, h1⟩ z⟩
end
/-- o.m(e, ..) where what is raised is wished for at the caller's slots -/
def tMethX (C : Addr) (m : Str) (sp : Sp) (dvs : List V) (E : L2.St → XK) (ta : TE) (t : TA) : TE := fun σ H Q => ta σ H fun x H1 => ∃ a dx fs, x = .ref a ∧ H1 a = some (.ins C dx fs) ∧ fs.lookup m = none ∧ t σ H1 fun vs H2 => sp (x :: (vs ++ dvs)) H2 Q (E σ)
section
variable {X : Cx} {CX : CXT} {k : Nat} {f C : Addr} {fd : FuncData} {ps : List Str} {sp : Sp} {dvs : List V} {ds : List Value} {E : L2.St → XK} {m : Str} {apos pos : Pos} {e o : Expr} {es : List Expr} {ta : TE} {t : TA}
theorem pe_methX {pl : Sem Bool} (he : PE X o ta) (c : Cls X.K C) (hm : Meth X.K C m f) (F : FnOk X.prog X.w X.K X.mg X.base CX k f fd ps sp) (hr : Room k X.A) (hb : Binds X.K fd ps ds) (hd : Vals dvs ds) (hx : ∀ σ, PassesAt CX X σ (E σ)) (ha : PA X (e :: es) t)
    (hst : starEach (e :: es) X.env = (false, eval e X.env) :: starEach es X.env := by rfl) (hpl : (backTo pos (starEach es X.env)).any (·.1) = false := by rfl)
    (ht : eval (.Call (.Attribute o m apos) (e :: es) [] pos) X.env = (do
      let ov ← eval o X.env
      standAt apos.atName
      let (f, first) ← holding [ov] (getMethod ov m pl)
      callWith pos f first (backTo pos (starEach (e :: es) X.env)) (backToKw pos (keywordEach [] X.env))) := by rfl) :
    PE X (.Call (.Attribute o m apos) (e :: es) [] pos) (tMethX C m sp dvs E ta t) := by
  refine ⟨fun pins s σ H Q I h => ?_⟩
  refine PySem.W.methodCall_KW (pl := pl) (thn (he.run pins s σ H _ I h) fun u s1 ⟨x, H1, I1, rx, a, dx, fs, ex, ea, l, q⟩ => ?_) ht
  subst ex
  obtain rfl : u = Value.ref a := rx
  refine getmeth_ok I1 ea c hm l ?_
  refine PySem.W.callWith_K (first := [.ref a]) (h₀ := X.base) I.ok.mod.kin hm.kp (thn (ha.run pos pins s1 σ H1 _ I1 q) fun us s2 ⟨vs, H2, I2, r, q2⟩ => ⟨I2.kIn, ?_⟩) hst hpl
  exact run_fnSD (us := .ref a :: us) (vs := .ref a :: vs) F hr hb hd (hx σ) I2 (.cons rfl r) q2
end
section
variable {K : PySem.W.Frag} {σ : L2.St} {G G' H H' : Hp} {ta tb te : TE} {P : VP} {D : Ends}
/-- a call that returns or lets an error out -/
def EX (te : TE) (σ : L2.St) (G : Hp) (P : VP) (B : Hp → Hp → Prop) : Prop := ∀ H, Ex G H → B G H → ∀ Q : VK, (∀ v G' H', Gr G G' H H' → P v G' → Q v H') → te σ H Q
theorem Rse.up {CN : Addr} {fs : List (Str × V)} {E : XK} {G0 G1 H0 H1 : Hp} (h : Rse CN fs G0 H0 E) (g : Gr G0 G1 H0 H1) : Rse CN fs G1 H1 E := fun G' H' d g' hd => h G' H' d (g.trans g') hd
/-- a call whose arguments are evaluated: sp is asked at what is known then -/
theorem st_callX {sp : Sp} {dvs : List V} {E : L2.St → XK} {ta : TA} {R : List V → Hp → Prop} {Q : VK} (hG : Ex G H) (h : EA ta σ G R) (k : ∀ vs G' H', Gr G G' H H' → R vs G' → sp (vs ++ dvs) H' Q (E σ)) : tCallSD sp dvs E ta σ H Q := h H hG _ fun vs G1 H1 g1 p1 => k vs G1 H1 g1 p1
/-- check_block(self, block) as a statement -/
theorem st_checkX {C CN p : Addr} {b n : Int} {E : L2.St → XK} (hG : Ex G H) (ha : EF ta σ G (XV (.ref p))) (hb : EF tb σ G (XV (.int b))) (hs : SizeAt C G p n) (k0 : 0 ≤ b ∧ b < n → ∀ H', Ex H H' → D.nx σ H') (k1 : ¬ (0 ≤ b ∧ b < n) → Rse CN [("block", .int b)] G H (E σ)) :
    tDrop (tCallSD (spCheckX C CN) [] E (tCons ta (tCons tb tNil))) D σ H := by
  unfold tDrop tCallSD
  refine (ea_two mo_XV mo_XV ha hb) H hG _ fun vs G1 H1 g1 ⟨x, y, ev, hx, hy⟩ => ?_
  subst ev
  rw [show x = _ from hx, show y = _ from hy]
  exact ⟨G1, p, n, b, g1.ok, rfl, hs.ex g1.up, fun h v G2 H2 g2 _ => k0 h H2 (g1.hp.trans g2.hp), fun h => (k1 h).up g1⟩
/-- return o.m(e), let errors out -/
theorem st_retM1 {C a : Addr} {m : Str} {sp : Sp} {E : L2.St → XK} {to : TE} {y : V} (hG : Ex G H) (ho : EF to σ G (XV (.ref a))) (hI : ∃ dx fs, G a = some (.ins C dx fs) ∧ fs.lookup m = none) (hb : EF tb σ G (XV y)) (k : ∀ G' H', Gr G G' H H' → sp [.ref a, y] H' (fun v H2 => D.rt v H2) (E σ)) :
    tRet (tMethX C m sp [] E to (tCons tb tNil)) D σ H := ho H hG _ fun x G1 H1 g1 p1 => by
  obtain ⟨dx, fs, h1, h2⟩ := hI
  cases (show x = .ref a from p1)
  refine ⟨a, dx, fs, rfl, g1.hp _ _ (hG _ _ h1), h2, ea_one hb H1 (hG.trans g1.hp) _ fun vs G2 H2 g2 ⟨z, ev, hz⟩ => ?_⟩
  subst ev
  rw [show z = y from hz]
  exact k G2 H2 (g2.low g1.hp)
end
/-- branches, with its error -/
def spAskSX (K : PySem.W.Frag) (C CN : Addr) (P : List Int → List (Int × Int) → Int → Bool → VP) : Sp := fun vs H Q E => ∃ (G : Hp) (p : Addr) (n : Nat) (parks : List Int) (js : List (Int × Int)) (b : Int) (c : Bool), Ex G H ∧ vs = [.ref p, .int b, .str (sd c)] ∧ LayAt K C G p n parks js ∧ (0 ≤ b ∧ b < (n : Int) → Ret G H (P parks js b c) Q) ∧ (¬ (0 ≤ b ∧ b < (n : Int)) → Rse CN [("block", .int b)] G H E)
theorem sa_askSX {K : PySem.W.Frag} {C CN : Addr} {P : List Int → List (Int × Int) → Int → Bool → VP} {G : Hp} {p : Addr} {n : Nat} {parks : List Int} {js : List (Int × Int)} {b : Int} (c : Bool) (h : LayAt K C G p n parks js) (h0 : 0 ≤ b) (h1 : b < (n : Int)) : SA (spAskSX K C CN P) [.ref p, .int b, .str (sd c)] G (P parks js b c) := fun H e Q _ q => ⟨G, p, n, parks, js, b, c, e, rfl, h, fun _ => q, fun z => absurd ⟨h0, h1⟩ z⟩
section
variable (P : Program) (w : World) (K : PySem.W.Frag) (mg : Str → Option Value) (base : Heap)
def CalX (x : Str) (k : Nat) (ps : List Str) (sp : Sp) : Prop := ∃ f fd, FnOk P w K mg base (L2.CX P w) k f fd ps sp ∧ mg x = some (.ref f) ∧ PySem.W.keepIn K (.ref f) = true ∧ Binds K fd ps []
def CalMX (C : Addr) (m : Str) (k : Nat) (ps : List Str) (sp : Sp) : Prop := ∃ f fd, FnOk P w K mg base (L2.CX P w) k f fd ps sp ∧ Meth K C m f ∧ Binds K fd ps []
end
end Lw

set_option Elab.async false
set_option linter.all false
set_option maxRecDepth 100000
set_option maxHeartbeats 4000000
/-! isinstance of a caught error that has fields -/
namespace Lw
open PySem L2
open Evl (Ex)
theorem call_isD {X : Cx} {a D dd : Addr} {oe : Obj} {pn : List (Addr × Obj)} (C : ExcC X.K D) (hz : Zc (.ref D) (some dd) oe) (hf : ∃ vs, oe.data = .fields vs) : CallR (X.suite a ((a, oe) :: pn)) (.builtin "isinstance") fun xs H Q => (∃ fs, H dd = some (.xd fs)) ∧ rIsE X.K D a xs H Q := by
  intro pins s σ H xs us Q I r h
  obtain ⟨⟨fs, hd⟩, c, cv, b, rfl, hcv, e, q⟩ := h
  obtain ⟨u, v, rfl, rx, rt⟩ := vals2 r
  cases (show u = Value.ref a from rx)
  have ec := hcv _ rt
  subst ec
  obtain ⟨hget, _⟩ := I.pin (a, oe) (List.mem_append.mpr (.inl List.mem_cons_self))
  have hx : ObjOk X.prog X.w H s.heap dd (.xd fs) := I.hok dd _ hd
  obtain ⟨mA, hns, _⟩ := hx
  obtain ⟨od, ho, _⟩ := lookIn_ns hns
  obtain ⟨vs, hv⟩ := hf
  have J : PySem.W.InstAt s.heap a oe D (some od) := ⟨hget, hz.1, by unfold PySem.W.notCls; rw [hv] <;> rfl, by rw [hz.2]; exact ho⟩
  have hcl : (PySem.W.clsIn X.K D).isSome = true := by
    obtain ⟨cd, hc, _⟩ := PySem.W.any_some C.hd
    rw [hc]
    rfl
  exact PySem.W.kia_one (PySem.W.kitx_exc hcl C.hg C.hk C.hs C.ha C.hn C.ht C.hm) I.kIn J e (fun z => nomatch z) fun tk => ⟨.bl b, H, I.kept (t' := tk) fun _ _ z => z, rfl, q⟩
end Lw

set_option Elab.async false
set_option linter.all false
set_option maxRecDepth 100000
set_option maxHeartbeats 4000000
/-! o.m(.., k = v): a method called with keywords, errors let out at the caller's slots -/
namespace Lw
open PySem L2
open Evl (Ex)
def tMethKX (C : Addr) (m : Str) (sp : Sp) (gV : List V → List V → List V) (E : L2.St → XK) (ta : TE) (t tk : TA) : TE := fun σ H Q => ta σ H fun x H1 => ∃ a dx fs, x = .ref a ∧ H1 a = some (.ins C dx fs) ∧ fs.lookup m = none ∧ t σ H1 fun vs H2 => tk σ H2 fun zs H3 => sp (gV (x :: vs) zs) H3 Q (E σ)
section
variable {X : Cx} {CX : CXT} {k : Nat} {f C : Addr} {fd : FuncData} {ps ks : List Str} {sp : Sp} {E : L2.St → XK} {m : Str} {apos pos : Pos} {e o : Expr} {es : List Expr} {kws : List Keyword} {ta : TE} {t tk : TA} {g : List Value → List Value → List Value} {gV : List V → List V → List V}
theorem run_kwX {pins : List (Addr × Obj)} {σ : L2.St} {H : Hp} {s : Shared} {Q : VK} {us ws : List Value} {vs zs : List V} (F : FnOk X.prog X.w X.K X.mg X.base CX k f fd ps sp) (hr : Room k X.A) (hb : KBinds X.K fd ps ks g gV) (hx : PassesAt CX X σ (E σ)) (I : Inv X pins σ H s) (r : Vals vs us) (rz : Vals zs ws) (h : sp (gV vs zs) H Q (E σ)) :
    wpAny (model X.prog X.w) X.A (call (.ref f) us (ks.zip ws)) (EP X pins σ Q) X.xe s := by
  have both := hb.rel r rz
  have many : (g us ws).length = ps.length := both.length.symm.trans (F.len _ _ _ _ h)
  have run := F.run X.A X.stack s H ⟨us, ks.zip ws⟩ (g us ws) (gV vs zs) Q (E σ) hr I.env0 (hb.to s us ws I.kIn many) both h
  refine wpAny_call (codeAny_mono run fun r s' q => ?_)
  match r, q with
  | .error er, q => exact hx pins H s er s' I q
  | .ok (.ret u), q => exact I.after q
  | .ok .next, q => exact q.elim
  | .ok .brk, q => exact q.elim
  | .ok .cont, q => exact q.elim
theorem pe_methKX {pl : Sem Bool} (he : PE X o ta) (c : Cls X.K C) (hm : Meth X.K C m f) (F : FnOk X.prog X.w X.K X.mg X.base CX k f fd ps sp) (hr : Room k X.A) (hb : KBinds X.K fd ps ks g gV) (hx : ∀ σ, PassesAt CX X σ (E σ)) (ha : PA X (e :: es) t) (hkw : PK X kws tk)
    (hall : (backToKw pos (keywordEach kws X.env)).all (·.1.isSome) = true := by rfl) (hks : (backToKw pos (keywordEach kws X.env)).filterMap (·.1) = ks := by rfl) (hst : starEach (e :: es) X.env = (false, eval e X.env) :: starEach es X.env := by rfl)
    (hpl : ((backTo pos (starEach (e :: es) X.env)).any (·.1) || (backToKw pos (keywordEach kws X.env)).any (·.1.isNone)) = false := by rfl)
    (ht : eval (.Call (.Attribute o m apos) (e :: es) kws pos) X.env = (do
      let ov ← eval o X.env
      standAt apos.atName
      let (f, first) ← holding [ov] (getMethod ov m pl)
      callWith pos f first (backTo pos (starEach (e :: es) X.env)) (backToKw pos (keywordEach kws X.env))) := by rfl) :
    PE X (.Call (.Attribute o m apos) (e :: es) kws pos) (tMethKX C m sp gV E ta t tk) := by
  refine ⟨fun pins s σ H Q I h => ?_⟩
  refine PySem.W.methodCall_KW (pl := pl) (thn (he.run pins s σ H _ I h) fun u s1 ⟨x, H1, I1, rx, a, dx, fs, ex, ea, l, q⟩ => ?_) ht
  subst ex
  cases (show u = Value.ref a from rx)
  refine getmeth_ok I1 ea c hm l (PySem.W.callWith_KW (first := [.ref a]) (h₀ := X.base) I.ok.mod.kin hm.kp hall (thn (ha.run pos pins s1 σ H1 _ I1 q) fun us s2 ⟨vs, H2, I2, r, q2⟩ => ?_) hpl hst)
  refine thn (hkw.run pos pins s2 σ H2 _ I2 q2) fun ws s3 ⟨zs, H3, I3, rz, q3⟩ => ⟨I3.kIn, ?_⟩
  rw [hks]
  exact run_kwX (us := .ref a :: us) (vs := .ref a :: vs) F hr hb (hx σ) I3 (.cons rfl r) rz q3
theorem pe_methKX0 {pl : Sem Bool} (he : PE X o ta) (c : Cls X.K C) (hm : Meth X.K C m f) (F : FnOk X.prog X.w X.K X.mg X.base CX k f fd ps sp) (hr : Room k X.A) (hb : KBinds X.K fd ps ks g gV) (hx : ∀ σ, PassesAt CX X σ (E σ)) (hkw : PK X kws tk)
    (hall : (backToKw pos (keywordEach kws X.env)).all (·.1.isSome) = true := by rfl) (hks : (backToKw pos (keywordEach kws X.env)).filterMap (·.1) = ks := by rfl)
    (hpl : ((backTo pos (starEach [] X.env)).any (·.1) || (backToKw pos (keywordEach kws X.env)).any (·.1.isNone)) = false := by rfl)
    (ht : eval (.Call (.Attribute o m apos) [] kws pos) X.env = (do
      let ov ← eval o X.env
      standAt apos.atName
      let (f, first) ← holding [ov] (getMethod ov m pl)
      callWith pos f first (backTo pos (starEach [] X.env)) (backToKw pos (keywordEach kws X.env))) := by rfl) :
    PE X (.Call (.Attribute o m apos) [] kws pos) (tMethKX C m sp gV E ta tNil tk) := by
  refine ⟨fun pins s σ H Q I h => ?_⟩
  refine PySem.W.methodCall_KW (pl := pl) (thn (he.run pins s σ H _ I h) fun u s1 ⟨x, H1, I1, rx, a, dx, fs, ex, ea, l, q⟩ => ?_) ht
  subst ex
  cases (show u = Value.ref a from rx)
  refine getmeth_ok I1 ea c hm l (PySem.W.callWith_KW0 (first := [.ref a]) (h₀ := X.base) I.ok.mod.kin hm.kp hall (thn (hkw.run pos pins s1 σ H1 _ I1 q) fun ws s3 ⟨zs, H3, I3, rz, q3⟩ => ⟨I3.kIn, ?_⟩) hpl)
  rw [hks]
  exact run_kwX (us := [.ref a]) (vs := [.ref a]) F hr hb (hx σ) I3 (.cons rfl .nil) rz q3
end
end Lw

set_option Elab.async false
set_option linter.all false
set_option maxRecDepth 100000
set_option maxHeartbeats 4000000
/-! the suite of an except clause, read by what is known -/
namespace Lw
open PySem L2
open Evl (Ex)
/-- isinstance(e, c), e the caught error: its class cls, its dict d -/
def rIsX (K : PySem.W.Frag) (D a : Addr) (cls : Value) (d : Option Addr) : List V → Hp → VK → Prop := fun xs H Q => cls = .ref D ∧ ∃ dd fs, d = some dd ∧ H dd = some (.xd fs) ∧ rIsE K D a xs H Q
theorem call_isX {X : Cx} {a D : Addr} {cls : Value} {d : Option Addr} {oe : Obj} {pn : List (Addr × Obj)} (C : ExcC X.K D) (hz : Zc cls d oe) (hf : ∃ vs, oe.data = .fields vs) : CallR (X.suite a ((a, oe) :: pn)) (.builtin "isinstance") (rIsX X.K D a cls d) := by
  intro pins s σ H xs us Q I r h
  obtain ⟨rfl, dd, fs, rfl, hd, h⟩ := h
  exact call_isD C hz hf pins s σ H xs us Q I r ⟨⟨fs, hd⟩, h⟩
section
variable {K : PySem.W.Frag} {σ : L2.St} {G H : Hp} {te tc : TE} {D : Ends}
theorem ef_xf {a C d : Addr} {fs : List (Str × V)} {f : Str} {v : V} (h : EF te σ G (XV (.ref a))) (hd : G d = some (.xd fs)) (hl : fs.lookup f = some v) : EF (tXf a (.ref C) (some d) C f te) σ G (XV v) := fun H e Q q => h H e _ fun x G1 H1 g1 p =>
  ⟨p, rfl, d, fs, v, rfl, g1.hp _ _ (e _ _ hd), hl, q v G1 H1 g1 rfl⟩
theorem ef_isX {a C d : Addr} {fs : List (Str × V)} {c : V} {cv : Value} {b : Bool} (h : EF te σ G (XV (.ref a))) (hd : G d = some (.xd fs)) (hc : EF tc σ G (XV c)) (hv : ∀ u, RelV c u → u = cv) (hk : PySem.W.kitOne K (.ref C) cv = some b) : EF (tCB (rIsX K C a (.ref C) (some d)) (tCons te (tCons tc tNil))) σ G (XV (.bl b)) :=
  fun H e Q q => (ea_two mo_XV mo_XV h hc) H e _ fun vs G1 H1 g1 ⟨x, y, ev, hx, hy⟩ => ⟨rfl, d, fs, rfl, g1.hp _ _ (e _ _ hd), c, cv, b, by rw [ev, show x = _ from hx, show y = _ from hy], hv, hk, q _ G1 H1 g1 rfl⟩
/-- an error that the clause takes -/
theorem was_takes {cls c : Value} {d : Option Addr} {i : Nat} {ts : Addr → Value → Option Addr → TS} {Wout : WX} (hx : PySem.W.exmOne K cls c = some true)
    (k : ∀ a, H a = none → ts a cls d { nx := fun σ' H' => D.nx (List.set σ' i none) H', rt := D.rt, bk := fun σ' H' => D.bk (List.set σ' i none) H', ct := fun σ' H' => D.ct (List.set σ' i none) H' } (List.set σ i (some (.ref a))) H) : wAs K c i ts Wout D cls d σ H :=
  ⟨true, hx, fun _ => k, fun z => nomatch z⟩
/-- what is let out when it is a clause's -/
theorem rse_was {C : Addr} {c : Value} {fs : List (Str × V)} {i : Nat} {ts : Addr → Value → Option Addr → TS} {Wout : WX} (hx : PySem.W.exmOne K (.ref C) c = some true)
    (k : ∀ G' H' d a, Gr G G' H H' → H' d = none → (upd H' d (.xd fs)) a = none → ts a (.ref C) (some d) { nx := fun σ' H' => D.nx (List.set σ' i none) H', rt := D.rt, bk := fun σ' H' => D.bk (List.set σ' i none) H', ct := fun σ' H' => D.ct (List.set σ' i none) H' } (List.set σ i (some (.ref a))) (upd H' d (.xd fs))) :
    Rse C fs G H (WE (wAs K c i ts Wout D) σ) := fun G' H' d g hd => was_takes hx fun a ha => k G' H' d a g hd ha
end
end Lw

set_option Elab.async false
set_option linter.all false
set_option maxRecDepth 100000
set_option maxHeartbeats 4000000
/-! sameness of data with None, True, False in them -/
namespace Lw
open PySem L2
open Evl (Ex)
/-- data whose sameness is asked: depth at most n -/
def Okb : Nat → PyData → Prop
  | _, .none => True
  | _, .bool _ => True
  | _, .int _ => True
  | _, .str _ => True
  | n + 1, .list ds => ds.length ≤ 1000 ∧ ∀ d ∈ ds, Okb n d
  | n + 1, .tuple ds => ds.length ≤ 1000 ∧ ∀ d ∈ ds, Okb n d
  | _, _ => False
theorem okb_cases {n : Nat} {d : PyData} (h : Okb n d) : d = .none ∨ (∃ b, d = .bool b) ∨ ∃ k, kiOf d = some k := by
  cases d with
  | none => exact .inl rfl
  | bool b => exact .inr (.inl ⟨b, rfl⟩)
  | int z => exact .inr (.inr ⟨_, rfl⟩)
  | str z => exact .inr (.inr ⟨_, rfl⟩)
  | list z => exact .inr (.inr ⟨_, rfl⟩)
  | tuple z => exact .inr (.inr ⟨_, rfl⟩)
  | _ => cases n <;> exact h.elim
def spSameB (K : PySem.W.Frag) (n : Nat) : Sp := fun vs H Q _ => ∃ (G : Hp) (x : V) (y : V) (d : PyData), Ex G H ∧ vs = [x, y] ∧ Dp K G x d ∧ Dp K G y d ∧ Okb n d ∧ Ret G H (XV (.bl true)) Q
theorem sa_sameB {K : PySem.W.Frag} {G : Hp} {x y : V} {d : PyData} {n : Nat} (hx : Dp K G x d) (hy : Dp K G y d) (ho : Okb n d) : SA (spSameB K n) [x, y] G (XV (.bl true)) := fun H e Q _ q => ⟨G, x, y, d, e, rfl, hx, hy, ho, q⟩
end Lw

set_option Elab.async false
set_option linter.all false
set_option maxRecDepth 100000
set_option maxHeartbeats 4000000
/-! a layout whose lengths are told too -/
namespace Lw
open PySem L2
open Evl (Ex)
section
variable {K : PySem.W.Frag} {C : Addr}
def LayL (K : PySem.W.Frag) (C : Addr) (G : Hp) (p : Addr) (lens : List Int) (parks : List Int) (js : List (Int × Int)) : Prop := LayAt K C G p lens.length parks js ∧ ∃ dx fs l, G p = some (.ins C dx fs) ∧ fs.lookup ("_lengths" : Str) = some (.ref l) ∧ Dp K G (.ref l) (dI lens)
theorem LayL.ex {G G' : Hp} {p : Addr} {lens parks : List Int} {js : List (Int × Int)} (h : LayL K C G p lens parks js) (e : Ex G G') : LayL K C G' p lens parks js := by
  obtain ⟨h1, dx, fs, l, h2, h3, h4⟩ := h
  exact ⟨h1.ex e, dx, fs, l, e _ _ h2, h3, dpx h4 e⟩
def spInitL (K : PySem.W.Frag) (C : Addr) : Sp := fun vs H Q _ => ∃ (G : Hp) (x dx : Addr) (lens : List Int) (js : List (Int × Int)) (parks : List Int) (a1 a2 a3 : Addr), vs = [.ref x, .ref a1, .ref a2, .ref a3] ∧ Ex G H ∧ G x = none ∧ H x = some (.ins C dx []) ∧
  Dp K G (.ref a1) (dI lens) ∧ Dp K G (.ref a2) (dPs js) ∧ Dp K G (.ref a3) (dI parks) ∧ lens.length ≤ 200 ∧ (∀ z ∈ lens, 1 ≤ z) ∧ (∀ b ∈ parks, 0 ≤ b ∧ b < (lens.length : Int)) ∧ JOk (lens.length : Int) parks js ∧ js.length ≤ 900 ∧
  ∀ G' H', Gr G G' (outH H x) H' → LayL K C G' x lens parks js → Q .non H'
/-- length_of, with its error -/
def spLenX (K : PySem.W.Frag) (C CN : Addr) : Sp := fun vs H Q E => ∃ (G : Hp) (p : Addr) (lens parks : List Int) (js : List (Int × Int)) (b : Int), Ex G H ∧ vs = [.ref p, .int b] ∧ LayL K C G p lens parks js ∧ (∀ z, 0 ≤ b → lens[b.toNat]? = some z → Ret G H (XV (.int z)) Q) ∧ (¬ (0 ≤ b ∧ b < (lens.length : Int)) → Rse CN [("block", .int b)] G H E)
/-- joined, with its errors -/
def spJoinX (K : PySem.W.Frag) (C CN : Addr) : Sp := fun vs H Q E => ∃ (G : Hp) (p : Addr) (n : Nat) (parks : List Int) (js : List (Int × Int)) (b o : Int), Ex G H ∧ vs = [.ref p, .int b, .int o] ∧ LayAt K C G p n parks js ∧ (0 ≤ b ∧ b < (n : Int) → 0 ≤ o ∧ o < (n : Int) → Ret G H (XV (.bl (decide ((b, o) ∈ js)))) Q) ∧
  (¬ (0 ≤ b ∧ b < (n : Int)) → Rse CN [("block", .int b)] G H E) ∧ (0 ≤ b ∧ b < (n : Int) → ¬ (0 ≤ o ∧ o < (n : Int)) → Rse CN [("block", .int o)] G H E)
end
end Lw

set_option Elab.async false
set_option linter.all false
set_option maxRecDepth 100000
set_option maxHeartbeats 4000000
/-! a range object in a variable -/
namespace Lw
open PySem PySem.Spec PyProof.Rows L2
section
variable {X : Cx} {tg : Expr}
theorem cr_range1 : CallR X (.type "range") (fun vs H Q => ∃ j, vs = [V.int j] ∧ ∀ p, H p = none → Q (.ref p) (upd H p (.rng 0 j))) := by
  intro pins s σ H vs us Q I r h
  obtain ⟨j, rfl, q⟩ := h
  obtain ⟨u1, rfl, rj⟩ := vals1 r
  obtain ⟨t, rfl⟩ := rj
  refine call_range_1 ⟨.ref s.heap.objs.size, upd H s.heap.objs.size (.rng 0 j), I.laid (t' := s.toks + 1 + 1) (fun b o e => Heap.get?_push_of_some _ e) (Nat.le_refl _) ?_, rfl, q _ (I.hok.fresh (Nat.le_refl _))⟩
  exact ⟨s.toks, t, s.toks + 1, Heap.get?_push_size _ rfl⟩
/-- for .. in r, r a range object -/
def iRngV (te : TE) : TI := fun σ H R => te σ H fun v H1 => ∃ (a : Addr) (lo hi : Int), v = .ref a ∧ H1 a = some (.rng lo hi) ∧ (-(2 ^ 62) ≤ lo ∧ lo < 2 ^ 62 ∧ -(2 ^ 62) ≤ hi ∧ hi < 2 ^ 62) ∧ R (Itr lo (hi - lo).toNat) H1
theorem pi_rngV {e : Expr} {te : TE} (he : PE X e te) : PI X tg e (iRngV te) := by
  refine ⟨fun pins s σ H R I h => ?_⟩
  refine thn (he.run pins s σ H _ I h) fun u s1 ⟨v, H1, I1, r1, a, lo, hi, ev, ha, ⟨b1, b2, b3, b4⟩, q⟩ => ?_
  subst ev
  cases (show u = Value.ref a from r1)
  obtain ⟨t1, t2, t3, ho⟩ := I1.hok a _ ha
  refine wpAny_pyIter_range (r := a) ho (small_one b1 b2 b3 b4) ?_
  refine pi_one (tk := s1.toks) I1 _ (turn_range _ lo (hi - lo).toNat) ?_ q
  have e1 : lo + ((0 : Nat) : Int) * 1 = lo := by simp
  have e2 : (((hi - lo).toNat : Nat) : Int) - ((0 : Nat) : Int) = Builtin.Range.rangeSize lo hi 1 := by rw [rangeSize_one]; split <;> omega
  show IsRangeIter _ _ (lo + ((0 : Nat) : Int) * 1) ((((hi - lo).toNat : Nat) : Int) - ((0 : Nat) : Int)) 1
  rw [e1, e2]
  exact Heap.get?_push_size _ rfl
end
end Lw

set_option Elab.async false
set_option linter.all false
set_option maxRecDepth 100000
set_option maxHeartbeats 4000000
/-! two for's: a range object, a tuple that the turn makes; a test at the end -/
namespace Lw
open PySem L2
open Evl (Ex)
section
variable {K : PySem.W.Frag} {σ : L2.St} {G H : Hp} {tr tl te : TE} {t1 : TT} {P : VP}
theorem ef_lc2T {j j1 : Nat} {vs vs1 : List Nat} {n : Int} (ys : List V) (I : Nat → Nat → List V → Hp → Prop) (h : EF tr σ G fun v G' => ∃ a, v = .ref a ∧ G' a = some (.rng 0 n)) (hn : 0 ≤ n ∧ n ≤ 1000)
    (hw : ∀ x, wipe ((wipe σ vs).set j (some x)) vs = wipe σ vs) (hw1 : ∀ x y, wipe ((wipe ((wipe σ vs).set j (some x)) vs1).set j1 (some y)) vs1 = wipe ((wipe σ vs).set j (some x)) vs1) (h0 : ∀ G', Ex G G' → I 0 0 [] G')
    (hx : ∀ (i : Nat) xs G', (i : Int) < n → I i ys.length xs G' → I (i + 1) 0 xs G')
    (hl : ∀ (i : Nat) G', Ex G G' → (i : Int) < n → EF tl ((wipe σ vs).set j (some (.int (i : Int)))) G' fun v G'' => ∃ a, v = .ref a ∧ SqT K G'' a ys)
    (hm : ∀ i k xs G' G'', Ex G' G'' → I i k xs G' → I i k xs G'')
    (hs : ∀ (i k : Nat) y xs G', Ex G G' → (i : Int) < n → ys[k]? = some y → I i k xs G' → EC t1 te ((wipe ((wipe σ vs).set j (some (.int (i : Int)))) vs1).set j1 (some y)) G' (fun G' => I i (k + 1) xs G') fun y G' => I i (k + 1) (xs ++ [y]) G')
    (hc : ∀ i k xs G', I i k xs G' → xs.length ≤ 1000000)
    (hP : ∀ p xs G', G p = none → G' p = none → Ex G G' → I n.toNat 0 xs G' → P (.ref p) (upd G' p (.lst xs))) : EF (tLc2 (iRngV tr) (gName j) tYes (iTup K tl) (gName j1) t1 te vs vs1) σ G P := fun H0 e Q q => h H0 e _ fun v G1 H1 g1 ⟨a, ev, ha⟩ => by
  refine ⟨a, 0, n, ev, g1.ok _ _ ha, ⟨by omega, by omega, by omega, by omega⟩, fun Dl hD => ?_⟩
  have en : (n - 0).toNat = n.toNat := by omega
  rw [en]
  refine ⟨fun i m H' => m = n.toNat - i ∧ i ≤ n.toNat ∧ CX2 G1 H1 Dl (I i 0) H', ⟨n.toNat, by simp, Nat.zero_le _, ?_⟩, ?_⟩
  · exact ⟨G1, [], Ex.refl _, ex_off g1.ok (none_back g1.ok hD), none_back g1.ok hD, upd_same, h0 G1 g1.up, Ex.new hD, fun _ _ h => h⟩
  · rintro i m H' ⟨rfl, hi, p⟩
    by_cases hlt : i < n.toNat
    · refine .inr ⟨hlt, fun H'' => CX2 G1 H1 Dl (I (i + 1) 0) H'', fun H'' p' => ⟨n.toNat - (i + 1), by omega, rfl, hlt, p'⟩, fun x H'' yy => ?_⟩
      obtain ⟨ey, yy⟩ := yy
      subst ey yy
      have e0 : (0 : Int) + (i : Int) = (i : Int) := Int.zero_add _
      rw [e0]
      refine ⟨hw _, tyes_go (iteT ?_)⟩
      obtain ⟨G', xs, e1, e2, gD, hd, hI, e3, hcc⟩ := p
      refine hl i G' (g1.up.trans e1) (by omega) _ e2 _ fun v G2 H2 g2 ⟨a, ea, hsl⟩ => ?_
      refine ⟨a, ea, ⟨ys, Evl.ex_t g2.ok hsl⟩, fun k m H' => m = ys.length - k ∧ k ≤ ys.length ∧ CX2 G1 H1 Dl (fun xs G3 => Ex G2 G3 ∧ I i k xs G3) H', ⟨ys.length, by simp, Nat.zero_le _, ?_⟩, ?_⟩
      · exact ⟨G2, xs, e1.trans g2.up, g2.ok, g2.2.2.2 Dl (ne_none_of hd) gD, g2.hp _ _ hd, ⟨Ex.refl _, hm _ _ _ _ _ g2.up hI⟩, e3.trans g2.hp, fun b hb gb => g2.2.2.2 b (exNe e3 hb) (hcc b hb gb)⟩
      · rintro k m H3 ⟨rfl, hk, p3⟩
        obtain ⟨G4, xs4, f1, f2, fD, fd, ⟨fe, fI⟩, f3, fc⟩ := p3
        have hsl3 := Evl.ex_t (fe.trans f2) hsl
        by_cases hkl : k < ys.length
        · refine .inr ⟨⟨ys, ys[k], hsl3, by simp [hkl]⟩, fun H'' => CX2 G1 H1 Dl (fun xs G3 => Ex G2 G3 ∧ I i (k + 1) xs G3) H'', fun H'' p' => ⟨ys.length - (k + 1), by omega, rfl, hkl, p'⟩, fun y H'' yy => ?_⟩
          obtain ⟨ey, yy⟩ := yy
          subst ey
          have hyk := yy ys hsl3
          refine ⟨hw1 _ _, ?_⟩
          refine hs i k y xs4 G4 (g1.up.trans f1) (by omega) hyk fI _ f2 (fun o H5 => match o with | some y5 => ∃ acc, H5 Dl = some (.lst acc) ∧ acc.length < sizeLine ∧ CX2 G1 H1 Dl (fun xs G3 => Ex G2 G3 ∧ I i (k + 1) xs G3) (upd H5 Dl (.lst (acc ++ [y5]))) | none => CX2 G1 H1 Dl (fun xs G3 => Ex G2 G3 ∧ I i (k + 1) xs G3) H5) (fun H5 e5 hN => ?_) (fun v5 G5 H5 g5 p5 => ?_)
          · exact ⟨G4, xs4, f1, f2.trans e5, fD, e5 _ _ fd, ⟨fe, hN⟩, f3.trans e5, fc⟩
          · have g5D : G5 Dl = none := g5.2.2.2 Dl (ne_none_of fd) fD
            exact ⟨xs4, g5.hp _ _ fd, Nat.lt_of_le_of_lt (hc _ _ _ _ fI) (by decide), ⟨G5, xs4 ++ [v5], f1.trans g5.up, ex_off g5.ok g5D, g5D, upd_same, ⟨fe.trans g5.up, p5⟩, ex_off (f3.trans g5.hp) hD, fun b hb gb => g5.2.2.2 b (exNe f3 hb) (fc b hb gb)⟩⟩
        · have ek : k = ys.length := by omega
          subst ek
          exact .inl ⟨⟨ys, hsl3, Nat.le_refl _⟩, G4, xs4, f1, f2, fD, fd, hx _ _ _ (by omega) fI, f3, fc⟩
    · have ei : i = n.toNat := by omega
      subst ei
      refine .inl ⟨Nat.le_refl _, ?_⟩
      obtain ⟨G', xs, e1, e2, gD, hd, hI, e3, hcc⟩ := p
      refine q _ (upd G' Dl (.lst xs)) H' (g1.trans ⟨e1.trans (ex_in gD), ex_know e2 hd, e3, fun a h g => ?_⟩) (hP Dl xs G' (none_back (g1.up.trans g1.ok) hD) gD (g1.up.trans e1) hI)
      rw [upd_ne (fun z => h (by rw [z]; exact hD))]
      exact hcc a h g
end
end Lw

set_option Elab.async false
set_option linter.all false
set_option maxRecDepth 100000
set_option maxHeartbeats 4000000
/-! a try's body that tells, its clause that tells the error -/
namespace Lw
open PySem L2
open Evl (Ex)
section
variable {K : PySem.W.Frag} {σ : L2.St} {G H : Hp} {te ta tb : TE} {P : VP} {D : Ends}
/-- te returns a v with P at this very heap (what it lets out is met) -/
def TR (te : TE) (σ : L2.St) (G H : Hp) (P : VP) : Prop := ∀ Q : VK, (∀ v G' H', Gr G G' H H' → P v G' → Q v H') → te σ H Q
theorem st_told {s : Str} (h : TR te σ G H P) (k : ∀ q v G' H', Gr G G' H H' → P v G' → H' q = none → D.rt (.ref q) (upd H' q (.tup [.str s, v]))) : tRet (tTup (tCons (tC (.str s)) (tCons te tNil))) D σ H :=
  h (fun v H' => [V.str s, v].length ≤ sizeLine ∧ ∀ p, H' p = none → D.rt (.ref p) (upd H' p (.tup [.str s, v]))) fun v G' H' g p => ⟨by show 2 ≤ sizeLine; decide, fun q hq => k q v G' H' g p hq⟩
theorem tr_meth1 {C a : Addr} {m : Str} {sp : Sp} {E : L2.St → XK} {i j : Nat} {y : V} (hG : Ex G H) (ho : σ[i]? = some (some (.ref a))) (hI : ∃ dx fs, G a = some (.ins C dx fs) ∧ fs.lookup m = none) (hb : σ[j]? = some (some y)) (k : ∀ Q : VK, (∀ v G' H', Gr G G' H H' → P v G' → Q v H') → sp [.ref a, y] H Q (E σ)) :
    TR (tMethX C m sp [] E (tVar i) (tCons (tVar j) tNil)) σ G H P := fun Q q => by
  obtain ⟨dx, fs, h1, h2⟩ := hI
  exact ⟨.ref a, ho, a, dx, fs, rfl, hG _ _ h1, h2, y, hb, k Q q⟩
theorem tr_meth2 {C a : Addr} {m : Str} {sp : Sp} {E : L2.St → XK} {i j : Nat} {y z : V} (hG : Ex G H) (ho : σ[i]? = some (some (.ref a))) (hI : ∃ dx fs, G a = some (.ins C dx fs) ∧ fs.lookup m = none) (hb : σ[j]? = some (some y)) (hz : ∀ (H : Hp) (Q : VK), Q z H → tb σ H Q) (k : ∀ Q : VK, (∀ v G' H', Gr G G' H H' → P v G' → Q v H') → sp [.ref a, y, z] H Q (E σ)) :
    TR (tMethX C m sp [] E (tVar i) (tCons (tVar j) (tCons tb tNil))) σ G H P := fun Q q => by
  obtain ⟨dx, fs, h1, h2⟩ := hI
  exact ⟨.ref a, ho, a, dx, fs, rfl, hG _ _ h1, h2, y, hb, hz _ _ (k Q q)⟩
theorem tr_kw1 {C a : Addr} {m : Str} {sp : Sp} {gV : List V → List V → List V} {E : L2.St → XK} {i j : Nat} {y z : V} (hG : Ex G H) (ho : σ[i]? = some (some (.ref a))) (hI : ∃ dx fs, G a = some (.ins C dx fs) ∧ fs.lookup m = none) (hb : σ[j]? = some (some y)) (hz : ∀ (H : Hp) (Q : VK), Q z H → tb σ H Q) (k : ∀ Q : VK, (∀ v G' H', Gr G G' H H' → P v G' → Q v H') → sp (gV [.ref a, y] [z]) H Q (E σ)) :
    TR (tMethKX C m sp gV E (tVar i) (tCons (tVar j) tNil) (tCons tb tNil)) σ G H P := fun Q q => by
  obtain ⟨dx, fs, h1, h2⟩ := hI
  exact ⟨.ref a, ho, a, dx, fs, rfl, hG _ _ h1, h2, y, hb, hz _ _ (k Q q)⟩
theorem tr_kw0 {C a : Addr} {m : Str} {sp : Sp} {gV : List V → List V → List V} {E : L2.St → XK} {i : Nat} {y z : V} (hG : Ex G H) (ho : σ[i]? = some (some (.ref a))) (hI : ∃ dx fs, G a = some (.ins C dx fs) ∧ fs.lookup m = none) (hy : ∀ (H : Hp) (Q : VK), Q y H → ta σ H Q) (hz : ∀ (H : Hp) (Q : VK), Q z H → tb σ H Q) (k : ∀ Q : VK, (∀ v G' H', Gr G G' H H' → P v G' → Q v H') → sp (gV [.ref a] [y, z]) H Q (E σ)) :
    TR (tMethKX C m sp gV E (tVar i) tNil (tCons ta (tCons tb tNil))) σ G H P := fun Q q => by
  obtain ⟨dx, fs, h1, h2⟩ := hI
  exact ⟨.ref a, ho, a, dx, fs, rfl, hG _ _ h1, h2, hy _ _ (hz _ _ (k Q q))⟩
theorem ea_x {x : V} {tr : TA} {xs : List V} (ha : EF ta σ G (XV x)) (hr : EA tr σ G fun vs _ => vs = xs) : EA (tCons ta tr) σ G fun vs _ => vs = x :: xs := ea_cons (Pa := XV x) mo_XV (fun vs G G' e h => h) ha hr fun y ys G' _ hy hys => by rw [show y = _ from hy, hys]
/-- what a clause tells of an error with one int -/
def errD (nm : Str) (b : Int) (r1 r2 r3 : Bool) : PyData := .tuple [.str nm, .int b, .bool r1, .bool r2, .bool r3]
theorem st_err {nm f : Str} {C a d : Addr} {b : Int} {c1 c2 c3 : V} {v1 v2 v3 : Value} {r1 r2 r3 : Bool} {i : Nat} (hG : Ex G H) (hd : G d = some (.xd [(f, .int b)])) (hi : σ[i]? = some (some (.ref a)))
    (h1 : ∀ u, RelV c1 u → u = v1) (h2 : ∀ u, RelV c2 u → u = v2) (h3 : ∀ u, RelV c3 u → u = v3) (k1 : PySem.W.kitOne K (.ref C) v1 = some r1) (k2 : PySem.W.kitOne K (.ref C) v2 = some r2) (k3 : PySem.W.kitOne K (.ref C) v3 = some r3)
    (k : ∀ v G' H', Gr G G' H H' → Dp K G' v (errD nm b r1 r2 r3) → D.rt v H') :
    tRet (tTup (tCons (tC (.str nm)) (tCons (tXf a (.ref C) (some d) C f (tVar i)) (tCons (tCB (rIsX K C a (.ref C) (some d)) (tCons (tVar i) (tCons (tC c1) tNil))) (tCons (tCB (rIsX K C a (.ref C) (some d)) (tCons (tVar i) (tCons (tC c2) tNil))) (tCons (tCB (rIsX K C a (.ref C) (some d)) (tCons (tVar i) (tCons (tC c3) tNil))) tNil)))))) D σ H := by
  have hl : List.lookup f [(f, V.int b)] = some (.int b) := by simp [List.lookup]
  refine st_ret (P := DV K (errD nm b r1 r2 r3)) hG (ef_tup (ea_x ex_c (ea_x (ef_xf (ex_var hi) hd hl) (ea_x (ef_isX (ex_var hi) hd ex_c h1 k1) (ea_x (ef_isX (ex_var hi) hd ex_c h2 k2) (ea_x (ef_isX (ex_var hi) hd ex_c h3 k3) ea_nil))))) (fun vs _ h => by rw [h]; simp) fun q vs G' _ _ _ ev => ?_) fun v G' H' g p => k v G' H' g p
  exact dp_mkT upd_same (by rw [ev]; exact .cons (.str _) (.cons (.int _) (.cons (.bl _) (.cons (.bl _) (.cons (.bl _) .nil)))))
end
end Lw

set_option Elab.async false
set_option linter.all false
set_option maxRecDepth 100000
set_option maxHeartbeats 4000000
/-! tracks that are changed; slices, sums of lists, lists of ranges -/
namespace Lw
open PySem L2
open Evl (Ex)
theorem JOk.most {n : Int} {parks : List Int} {js : List (Int × Int)} (h : JOk n parks js) : ∀ b, b ∉ parks → (eo js b).length ≤ 2 ∧ (wo js b).length ≤ 2 := by
  induction h with
  | nil => intro b _; exact ⟨by simp [eo], by simp [wo]⟩
  | snoc hj hn ih =>
    rename_i js w e
    intro b hb
    obtain ⟨h1, h2⟩ := ih b hb
    constructor
    · by_cases c : w = b
      · subst c
        rw [eo_snoc_same, List.length_append, List.length_singleton]
        have := hn.ew hb
        omega
      · rw [eo_snoc_ne js c]; exact h1
    · by_cases c : e = b
      · subst c
        rw [wo_snoc_same, List.length_append, List.length_singleton]
        have := hn.we hb
        omega
      · rw [wo_snoc_ne js c]; exact h2
theorem eo_sub {js ks : List (Int × Int)} (h : js.Sublist ks) (b : Int) : (eo js b).length ≤ (eo ks b).length := by
  unfold eo
  rw [List.length_map, List.length_map]
  exact (h.filter _).length_le
theorem wo_sub {js ks : List (Int × Int)} (h : js.Sublist ks) (b : Int) : (wo js b).length ≤ (wo ks b).length := by
  unfold wo
  rw [List.length_map, List.length_map]
  exact (h.filter _).length_le
theorem JOk.sub {n : Int} {parks : List Int} {js : List (Int × Int)} (h : JOk n parks js) : ∀ {ks : List (Int × Int)}, ks.Sublist js → JOk n parks ks := by
  induction h with
  | nil => intro ks hs; rw [List.sublist_nil.mp hs]; exact .nil
  | snoc hj hn ih =>
    rename_i js w e
    intro ks hs
    obtain ⟨l1, l2, rfl, h1, h2⟩ := List.sublist_append_iff.mp hs
    have c : l2 = [] ∨ l2 = [(w, e)] := by
      cases l2 with
      | nil => exact .inl rfl
      | cons x r =>
        have hl := h2.length_le
        have hr : r = [] := by
          cases r with
          | nil => rfl
          | cons y r => simp at hl
        subst hr
        have m := h2.subset (List.mem_cons_self (a := x) (l := []))
        right
        simpa using m
    rcases c with rfl | rfl
    · rw [List.append_nil]; exact ih h1
    · refine .snoc (ih h1) ⟨hn.lo, hn.lt, hn.hi, fun m => hn.new (h1.subset m), fun z => ?_, fun z => ?_⟩
      · have a := hn.ew z
        have b := (hj.most w z).1
        have c := eo_sub h1 w
        omega
      · have a := hn.we z
        have b := (hj.most e z).2
        have c := wo_sub h1 e
        omega
theorem JOk.parks {n : Int} {parks parks2 : List Int} {js : List (Int × Int)} (h : JOk n parks js) (hs : ∀ b, 0 ≤ b → b < n → b ∈ parks → b ∈ parks2) : JOk n parks2 js := by
  induction h with
  | nil => exact .nil
  | snoc hj hn ih =>
    have l1 := hn.lo
    have l2 := hn.lt
    have l3 := hn.hi
    exact .snoc ih ⟨hn.lo, hn.lt, hn.hi, hn.new, fun z => hn.ew fun y => z (hs _ (by omega) (by omega) y), fun z => hn.we fun y => z (hs _ (by omega) (by omega) y)⟩
def mnI (a b : Int) : Int := if b < a then b else a
def mxI (a b : Int) : Int := if b > a then b else a
/-- a block joined to all others: the joints to the first i blocks -/
def nwJ (hub : Int) : Nat → List (Int × Int)
  | 0 => []
  | i + 1 => nwJ hub i ++ (if (i : Int) = hub then [] else [(mnI hub (i : Int), mxI hub (i : Int))])
theorem nwJ_len (hub : Int) : ∀ i, (nwJ hub i).length ≤ i
  | 0 => Nat.le_refl _
  | i + 1 => by
    have := nwJ_len hub i
    unfold nwJ
    rw [List.length_append]
    split
    · simp; omega
    · simp; omega
theorem throat_ok {n : Nat} {parks : List Int} {kept : List (Int × Int)} {hub : Int} (hk : JOk (n : Int) parks kept) (hh : hub ∈ parks) (h0 : 0 ≤ hub) (h1 : hub < (n : Int)) (no : ∀ p ∈ kept, p.1 ≠ hub ∧ p.2 ≠ hub)
    (hc : (hub = 0 ∧ ∀ b : Int, 0 ≤ b → b < (n : Int) → b ∉ parks → (wo kept b).length ≠ 2) ∨ (hub = (n : Int) - 1 ∧ ∀ b : Int, 0 ≤ b → b < (n : Int) → b ∉ parks → (eo kept b).length ≠ 2)) :
    ∀ i : Nat, i ≤ n → JOk (n : Int) parks (kept ++ nwJ hub i) ∧ ∀ p ∈ nwJ hub i, (p.1 = hub ∧ p.2 < (i : Int)) ∨ (p.2 = hub ∧ p.1 < (i : Int)) := by
  intro i
  induction i with
  | zero =>
    intro _
    refine ⟨?_, fun p m => ?_⟩
    · show JOk (n : Int) parks (kept ++ [])
      rw [List.append_nil]; exact hk
    · cases m
  | succ i ih =>
    intro hi
    obtain ⟨q1, q2⟩ := ih (by omega)
    unfold nwJ
    by_cases c : (i : Int) = hub
    · rw [if_pos c, List.append_nil]
      exact ⟨q1, fun p m => by have := q2 p m; omega⟩
    · rw [if_neg c, ← List.append_assoc]
      refine ⟨?_, fun p m => ?_⟩
      · rcases hc with ⟨rfl, hw⟩ | ⟨rfl, he⟩
        · have e1 : mnI 0 (i : Int) = 0 := by unfold mnI; split <;> omega
          have e2 : mxI 0 (i : Int) = (i : Int) := by unfold mxI; split <;> omega
          rw [e1, e2]
          refine .snoc q1 ⟨by omega, by omega, by omega, fun m => ?_, fun z => absurd hh z, fun z => ?_⟩
          · rcases List.mem_append.mp m with m | m
            · exact (no _ m).1 rfl
            · have := q2 _ m
              simp only at this
              omega
          · have e3 : wo (nwJ 0 i) (i : Int) = [] := by
              unfold wo
              rw [List.map_eq_nil_iff, List.filter_eq_nil_iff]
              intro p m hp
              have e4 := of_decide_eq_true hp
              have := q2 p m
              omega
            have e5 : wo (kept ++ nwJ 0 i) (i : Int) = wo kept (i : Int) := by
              have : wo (kept ++ nwJ 0 i) (i : Int) = wo kept (i : Int) ++ wo (nwJ 0 i) (i : Int) := by
                unfold wo
                rw [List.filter_append, List.map_append]
              rw [this, e3, List.append_nil]
            rw [e5]
            exact hw _ (by omega) (by omega) z
        · have e1 : mnI ((n : Int) - 1) (i : Int) = (i : Int) := by unfold mnI; split <;> omega
          have e2 : mxI ((n : Int) - 1) (i : Int) = (n : Int) - 1 := by unfold mxI; split <;> omega
          rw [e1, e2]
          refine .snoc q1 ⟨by omega, by omega, by omega, fun m => ?_, fun z => ?_, fun z => absurd hh z⟩
          · rcases List.mem_append.mp m with m | m
            · exact (no _ m).2 rfl
            · have := q2 _ m
              simp only at this
              omega
          · have e3 : eo (nwJ ((n : Int) - 1) i) (i : Int) = [] := by
              unfold eo
              rw [List.map_eq_nil_iff, List.filter_eq_nil_iff]
              intro p m hp
              have e4 := of_decide_eq_true hp
              have := q2 p m
              omega
            have e5 : eo (kept ++ nwJ ((n : Int) - 1) i) (i : Int) = eo kept (i : Int) := by
              have : eo (kept ++ nwJ ((n : Int) - 1) i) (i : Int) = eo kept (i : Int) ++ eo (nwJ ((n : Int) - 1) i) (i : Int) := by
                unfold eo
                rw [List.filter_append, List.map_append]
              rw [this, e3, List.append_nil]
            rw [e5]
            exact he _ (by omega) (by omega) z
      · rcases List.mem_append.mp m with m | m
        · have := q2 p m
          omega
        · have e : p = (mnI hub (i : Int), mxI hub (i : Int)) := by simpa using m
          subst e
          simp only
          unfold mnI mxI
          split <;> split <;> omega
section
variable {K : PySem.W.Frag} {C : Addr} {σ : L2.St} {G G' H H' : Hp} {ta tb te tc tr : TE} {P : VP} {D : Ends}
/-- a drawn track with few joints -/
def TVB (K : PySem.W.Frag) (m : Int) : VP := fun v G => ∃ t, TrkOk t ∧ (t.lens.length : Int) ≤ m ∧ t.joints.length ≤ 2 * t.lens.length ∧ Dp K G v (dT t)
def spTrackB (K : PySem.W.Frag) : Sp := fun vs H Q _ => ∃ (G : Hp) (c : Int) (m : Int), Ex G H ∧ vs = [.int c, .int m] ∧ 2 ≤ m ∧ m ≤ 60 ∧ Ret G H (TVB K m) Q
theorem sa_trackB {c m : Int} (h1 : 2 ≤ m) (h2 : m ≤ 60) : SA (spTrackB K) [.int c, .int m] G (TVB K m) := fun H e Q _ q => ⟨G, c, m, e, rfl, h1, h2, q⟩
theorem mo_TVB {m} : Mo (TVB K m) := fun _ _ _ e ⟨t, h, l, b, d⟩ => ⟨t, h, l, b, dpx d e⟩
/-- x in, x not in a tuple of two ints -/
theorem eqV_int (a b : Int) : eqV (.int a) (.int b) = decide (a = b) := by
  by_cases h : a = b
  · subst h; simp [eqV]
  · simp [eqV, h]
theorem ex_niP {q : Int × Int} {v : V} {z : Int} (ha : EF ta σ G (XV (.int z))) (hb : EF tb σ G (XV v)) (hv : Dp K G v (dP q)) : EF (tOp (rIn K true) ta tb) σ G (XV (.bl (!decide (z = q.1 ∨ z = q.2)))) := by
  obtain ⟨t, xs, rfl, hs, hd⟩ := dp_tup hv
  have ex := dpa_ints_eq (zs := [q.1, q.2]) hd
  subst ex
  refine ef_op mo_XV mo_XV ha hb fun x y G' e hx hy => ?_
  cases (show x = _ from hx)
  cases (show y = _ from hy)
  refine fun H e2 Q k => ⟨t, _, rfl, .inr (Evl.ex_t (e.trans e2) hs), rfl, rfl, k _ G' H (.refl e2) ?_⟩
  show V.bl _ = V.bl _
  rw [if_pos rfl]
  unfold inV
  simp only [List.map_cons, List.map_nil, List.any_cons, List.any_nil, eqV_int, Bool.or_false]
  have e3 : (decide (q.1 = z) || decide (q.2 = z)) = decide (z = q.1 ∨ z = q.2) := by
    rw [Bool.eq_iff_iff]
    simp only [Bool.or_eq_true, decide_eq_true_eq]
    exact ⟨fun h => h.elim (fun h => .inl h.symm) fun h => .inr h.symm, fun h => h.elim (fun h => .inl h.symm) fun h => .inr h.symm⟩
  rw [e3]
/-- a list that stands in the heap as such -/
def LS (K : PySem.W.Frag) (ds : List PyData) : VP := fun v G => ∃ l xs, v = .ref l ∧ G l = some (.lst xs) ∧ DpAll K G xs ds
theorem mo_LS {ds : List PyData} : Mo (LS K ds) := fun v G G' e ⟨l, xs, ev, h, d⟩ => ⟨l, xs, ev, e _ _ h, dpax d e⟩
theorem LS.dp {ds : List PyData} {v : V} (h : LS K ds v G) : Dp K G v (.list ds) := by
  obtain ⟨l, xs, rfl, h, d⟩ := h
  exact dp_mkL h d
theorem EF.ls_dv {ds : List PyData} (h : EF te σ G (LS K ds)) : EF te σ G (DV K (.list ds)) := h.imp fun v G' _ p => p.dp
theorem el_cat {ls ms : List PyData} (ha : EF ta σ G (LS K ls)) (hb : EF tb σ G (LS K ms)) (hz : ls.length + ms.length ≤ 100000) : EF (tOp rCat ta tb) σ G (LS K (ls ++ ms)) :=
  ef_op mo_LS mo_LS ha hb fun x y G' e ⟨l, xs, ex, h1, d1⟩ ⟨b, ys, ey, h2, d2⟩ => fun H e2 Q k => by
    refine ⟨l, b, xs, ys, ex, ey, e2 _ _ h1, e2 _ _ h2, ?_, fun p hp => k _ _ _ (.new e2 hp) ⟨p, _, rfl, upd_same, ?_⟩⟩
    · rw [dpa_len d1, dpa_len d2]
      exact Nat.le_trans hz (by decide)
    · have e3 := ex_in (o := .lst (xs ++ ys)) (none_back e2 hp)
      exact dpa_app (dpax d1 e3) (dpax d2 e3)
where
  dpa_app {G : Hp} : ∀ {vs us : List V} {ds es : List PyData}, DpAll K G vs ds → DpAll K G us es → DpAll K G (vs ++ us) (ds ++ es)
    | _, _, _, _, .nil, h => h
    | _, _, _, _, .cons a r, h => .cons a (dpa_app r h)
theorem el_list {ds : List PyData} (ha : EF ta σ G (DV K (.list ds))) : EF (tCB (Evl.rListS K) (tCons ta tNil)) σ G (LS K ds) := (ed_list ha).imp fun v G' _ ⟨p, xs, ev, _, hp, hd⟩ => ⟨p, xs, ev, hp, hd⟩
theorem el_lst {ta : TA} {R : List V → Hp → Prop} {ds : List PyData} (h : EA ta σ G R) (hl : ds.length ≤ 1000) (hR : ∀ vs G', Ex G G' → R vs G' → DpAll K G' vs ds) : EF (tLst ta) σ G (LS K ds) := fun H e Q q =>
  h H e _ fun vs G1 H1 g1 p1 => by
    have d := hR vs G1 g1.up p1
    exact ⟨by rw [dpa_len d]; exact Nat.le_trans hl (by decide), fun p hp => q _ _ _ (g1.trans (.new g1.ok hp)) ⟨p, vs, rfl, upd_same, dpax d (ex_in (none_back g1.ok hp))⟩⟩
def rgI (n : Nat) : List Int := (List.range n).map fun b => ((b : Nat) : Int)
/-- list(range(n)) -/
theorem el_rg {n : Nat} (ha : EF ta σ G (XV (.int (n : Int)))) (hn : n ≤ 100000) : EF (tLstRg (tRg1 ta)) σ G (LS K ((rgI n).map PyData.int)) := fun H e Q q => ha H e _ fun x G1 H1 g1 hx => by
  refine ⟨(n : Int), hx, ⟨by omega, by omega, by omega, by omega, by omega⟩, fun p hp => ?_⟩
  refine q _ _ _ (g1.trans (.new g1.ok hp)) ⟨p, _, rfl, upd_same, ?_⟩
  have ev : rgV 0 (n : Int) = (rgI n).map V.int := by
    unfold rgV rgI
    have e0 : ((n : Int) - 0).toNat = n := by omega
    rw [e0, List.map_map]
    refine List.map_congr_left fun b _ => ?_
    show V.int _ = V.int _
    rw [Int.zero_add]
  rw [ev]
  exact dpa_ints _
theorem mem_rgI {n : Nat} {b : Int} : b ∈ rgI n ↔ 0 ≤ b ∧ b < (n : Int) := by
  unfold rgI
  rw [List.mem_map]
  constructor
  · rintro ⟨a, m, rfl⟩
    have := List.mem_range.mp m
    omega
  · intro h
    exact ⟨b.toNat, List.mem_range.mpr (by omega), by omega⟩
theorem rgI_len {n : Nat} : (rgI n).length = n := by unfold rgI; rw [List.length_map, List.length_range]
/-- xs[k:], k written -/
theorem cutV_from {xs : List V} {k : Nat} : cutV xs (some (k : Int)) none = xs.drop k := by
  unfold cutV
  rw [HT.sIx_nat, HT.sIx_none, List.take_of_length_le (by rw [List.length_drop]; exact Nat.le_refl _)]
  by_cases h : k ≤ xs.length
  · rw [Nat.min_eq_left h]
  · rw [Nat.min_eq_right (by omega), List.drop_of_length_le (Nat.le_refl _), List.drop_of_length_le (by omega)]
theorem cutV_to {xs : List V} {k : Nat} : cutV xs none (some (k : Int)) = xs.take k := by
  unfold cutV
  rw [HT.sIx_nat, HT.sIx_none, List.drop_zero, Nat.sub_zero]
  by_cases h : k ≤ xs.length
  · rw [Nat.min_eq_left h]
  · rw [Nat.min_eq_right (by omega), List.take_of_length_le (Nat.le_refl _), List.take_of_length_le (by omega)]
theorem dpa_drop {G : Hp} : ∀ {vs : List V} {ds : List PyData} (k : Nat), DpAll K G vs ds → DpAll K G (vs.drop k) (ds.drop k)
  | _, _, 0, h => h
  | _, _, k + 1, .nil => .nil
  | _, _, k + 1, .cons _ r => dpa_drop k r
theorem dpa_take {G : Hp} : ∀ {vs : List V} {ds : List PyData} (k : Nat), DpAll K G vs ds → DpAll K G (vs.take k) (ds.take k)
  | _, _, 0, h => .nil
  | _, _, k + 1, .nil => .nil
  | _, _, k + 1, .cons a r => .cons a (dpa_take k r)
theorem el_from {ds : List PyData} {k : Nat} (ha : EF ta σ G (DV K (.list ds))) (hb : EF tb σ G (XV (.int (k : Int)))) : EF (tSl (rSlL K) ta (tPart tb) tNoPart) σ G (LS K (ds.drop k)) := fun H e Q q => ha H e _ fun x G1 H1 g1 hx => hb H1 (g1.up.trans g1.ok) _ fun y G2 H2 g2 hy => by
  obtain ⟨a, xs, rfl, hs, hall⟩ := dp_lst hx
  obtain ⟨G3, e1, e2, g3⟩ := g1.join g2
  refine ⟨(k : Int), hy, a, xs, rfl, Evl.ex_l (e1.trans g3.ok) hs, fun p hp => ?_⟩
  refine q _ _ _ (g3.trans (.new g3.ok hp)) ⟨p, _, rfl, upd_same, ?_⟩
  rw [cutV_from]
  exact dpa_drop k (dpax hall (e1.trans (ex_in (none_back g3.ok hp))))
theorem el_to {ds : List PyData} {k : Nat} (ha : EF ta σ G (DV K (.list ds))) (hb : EF tb σ G (XV (.int (k : Int)))) : EF (tSl (rSlL K) ta tNoPart (tPart tb)) σ G (LS K (ds.take k)) := fun H e Q q => ha H e _ fun x G1 H1 g1 hx => hb H1 (g1.up.trans g1.ok) _ fun y G2 H2 g2 hy => by
  obtain ⟨a, xs, rfl, hs, hall⟩ := dp_lst hx
  obtain ⟨G3, e1, e2, g3⟩ := g1.join g2
  refine ⟨(k : Int), hy, a, xs, rfl, Evl.ex_l (e1.trans g3.ok) hs, fun p hp => ?_⟩
  refine q _ _ _ (g3.trans (.new g3.ok hp)) ⟨p, _, rfl, upd_same, ?_⟩
  rw [cutV_to]
  exact dpa_take k (dpax hall (e1.trans (ex_in (none_back g3.ok hp))))
end
end Lw

set_option Elab.async false
set_option linter.all false
set_option maxRecDepth 100000
set_option maxHeartbeats 4000000
/-! over a list that is made; lists of ints that are mapped; rows of tracks -/
namespace Lw
open PySem L2
open Evl (Ex)
section
variable {K : PySem.W.Frag} {C : Addr} {σ : L2.St} {G G' H H' : Hp} {ta tb te tc tr tl : TE} {P : VP} {D : Ends} {tu : TS} {g : TG}
theorem st_forD {xs : List V} (hG : Ex G H) (h : EF tl σ G fun v G' => ∃ a, v = .ref a ∧ SqL K G' a xs) (W : Nat → L2.St → Hp → Prop) (h0 : ∀ H', Ex H H' → W 0 σ H')
    (hs : ∀ i x σ' H' H1, xs[i]? = some x → W i σ' H' → Ex H1 H' → g x σ' H' fun σ2 H2 => tu { D with nx := fun s h => W (i + 1) s h ∧ Ex H1 h, ct := fun s h => W (i + 1) s h ∧ Ex H1 h, bk := D.nx } σ2 H2) (hd : ∀ σ' H', W xs.length σ' H' → D.nx σ' H') : tFor (iList K tl) g tu D σ H :=
  h H hG _ fun v G1 H1 g1 ⟨a, e, hx⟩ => ⟨a, e, ⟨xs, Evl.ex_l g1.ok hx⟩, for_list (fun i s h => W i s h ∧ Ex H1 h) ⟨h0 H1 g1.hp, Ex.refl _⟩ (fun i σ' H' _ w => Evl.ex_l (g1.ok.trans w.2) hx) (fun i x σ' H' hi w => hs i x σ' H' H1 hi w.1 w.2) fun σ' H' w => hd σ' H' w.1⟩
theorem el_mapI {ns : List Int} {g : Int → Int} {j : Nat} (h : EF tl σ G (DV K (dI ns))) (hn : ns.length ≤ 40000) (hw : ∀ x, wipe ((wipe σ [j]).set j (some x)) [j] = wipe σ [j]) (hs : ∀ G' z, Ex G G' → z ∈ ns → EF te ((wipe σ [j]).set j (some (.int z))) G' (XV (.int (g z)))) :
    EF (tLc (iList K tl) (gName j) tYes te [j]) σ G (LS K ((ns.map g).map PyData.int)) := by
  refine ef_lcL (xs := ns.map V.int) (fun i acc G' => DpAll K G' acc (((ns.take i).map g).map PyData.int)) (h.imp fun v G' e p => ?_) (by rw [List.length_map]; exact hn) hw (fun G' _ => .nil) (fun i x acc G' e1 hi hI => ?_) (fun p acc G' h1 h2 _ _ hI => ⟨p, acc, rfl, upd_same, ?_⟩)
  · obtain ⟨a, xs, rfl, hs, hd⟩ := dp_lst p
    have e := dpa_ints_eq hd
    subst e
    exact ⟨a, rfl, hs⟩
  · rw [List.getElem?_map] at hi
    obtain ⟨z, hz, rfl⟩ := Option.map_eq_some_iff.mp hi
    refine ec_all ((hs G' z e1 (List.mem_of_getElem? hz)).imp fun v G2 e2 p => ?_)
    rw [take_next hz, List.map_append, List.map_append]
    rw [show v = _ from p]
    exact dpa_snoc (dpax hI e2) (.int _)
  · rw [List.length_map, List.take_length] at hI
    exact dpax hI (ex_in h2)
theorem ed_t0 {t : Trk} {i : Nat} {v : V} (h : σ[i]? = some (some v)) (d : Dp K G v (dT t)) : EF (tOp (rIxT K) (tVar i) (tC (.int 0))) σ G (DV K (dI t.lens)) := ed_ixT (q := (· = 0)) (ef_var h d) (EF.iv ex_c) fun i hi => ⟨0, _, hi, rfl, fun v G' d => d⟩
theorem ed_t1 {t : Trk} {i : Nat} {v : V} (h : σ[i]? = some (some v)) (d : Dp K G v (dT t)) : EF (tOp (rIxT K) (tVar i) (tC (.int 1))) σ G (DV K (dPs t.joints)) := ed_ixT (q := (· = 1)) (ef_var h d) (EF.iv ex_c) fun i hi => ⟨1, _, hi, rfl, fun v G' d => d⟩
theorem ed_t2 {t : Trk} {i : Nat} {v : V} (h : σ[i]? = some (some v)) (d : Dp K G v (dT t)) : EF (tOp (rIxT K) (tVar i) (tC (.int 2))) σ G (DV K (dI t.parks)) := ed_ixT (q := (· = 2)) (ef_var h d) (EF.iv ex_c) fun i hi => ⟨2, _, hi, rfl, fun v G' d => d⟩
theorem ex_pow {a b : Int} (ha : EF ta σ G (XV (.int a))) (hb : EF tb σ G (XV (.int b))) (hc : CPow a b) : EF (tOp (rI CPow fun i j => .int (i ^ j.toNat)) ta tb) σ G (XV (.int (a ^ b.toNat))) := ef_op mo_XV mo_XV ha hb fun x y G' _ hx hy => by
  cases (show x = _ from hx)
  cases (show y = _ from hy)
  exact ro_I hc rfl
theorem ex_sub {a b : Int} (ha : EF ta σ G (XV (.int a))) (hb : EF tb σ G (XV (.int b))) : EF (tOp (rI0 fun i j => .int (i - j)) ta tb) σ G (XV (.int (a - b))) := ef_op mo_XV mo_XV ha hb fun x y G' _ hx hy => by
  cases (show x = _ from hx)
  cases (show y = _ from hy)
  exact ro_I0 rfl
theorem ex_mul {a b : Int} (ha : EF ta σ G (XV (.int a))) (hb : EF tb σ G (XV (.int b))) (hc : CMul a b) : EF (tOp (rI CMul fun i j => .int (i * j)) ta tb) σ G (XV (.int (a * b))) := ef_op mo_XV mo_XV ha hb fun x y G' _ hx hy => by
  cases (show x = _ from hx)
  cases (show y = _ from hy)
  exact ro_I hc rfl
theorem et_orD {t u : TT} {a b : Prop} [Decidable a] [Decidable b] (h1 : ET t σ G (· = decide a)) (h2 : ET u σ G (· = decide b)) : ET (tOr t u) σ G (· = decide (a ∨ b)) := et_or (p := (· = decide a)) (q := (· = decide b)) h1 (fun _ => h2) (fun h => (decide_eq_true (.inl (of_decide_eq_true h.symm))).symm) (fun h c hc => by
  have := of_decide_eq_false h.symm
  rw [hc]
  by_cases q : b
  · rw [decide_eq_true q, decide_eq_true (.inr q)]
  · rw [decide_eq_false q, decide_eq_false fun z => z.elim this q])
theorem et_andD {t u : TT} {a b : Prop} [Decidable a] [Decidable b] (h1 : ET t σ G (· = decide a)) (h2 : a → ET u σ G (· = decide b)) : ET (tAnd t u) σ G (· = decide (a ∧ b)) := et_and (p := (· = decide a)) (q := (· = decide b)) h1 (fun h => h2 (of_decide_eq_true h.symm)) (fun h c hc => by
  have := of_decide_eq_true h.symm
  rw [hc]
  by_cases q : b
  · rw [decide_eq_true q, decide_eq_true ⟨this, q⟩]
  · rw [decide_eq_false q, decide_eq_false fun z => q z.2]) (fun h => (decide_eq_false fun z => of_decide_eq_false h.symm z.1).symm)
theorem et_inI {a : Int} {l : List Int} (ha : EF ta σ G (XV (.int a))) (hb : EF tb σ G (DV K (dI l))) : ET (tTest (tOp (rInD K) ta tb)) σ G (· = decide (a ∈ l)) :=
  et_test ((ed_inD (d := .int a) (ds := l.map PyData.int) (EF.dv ha (.int a)) hb (sh_int _) (sh_ints _)).imp fun v _ _ ⟨b, e, hb⟩ => ⟨b, e, by rw [hb, any_int]⟩)
theorem et_ltI {a b : Int} (ha : EF ta σ G (XV (.int a))) (hb : EF tb σ G (XV (.int b))) : ET (tTest (tOp (rI0 fun i j => .bl (decide (i < j))) ta tb)) σ G (· = decide (a < b)) := et_test (ec_int (f := fun i j => decide (i < j)) (EF.iv ha) (EF.iv hb) fun x y hx hy => by rw [hx, hy])
theorem et_leI {a b : Int} (ha : EF ta σ G (XV (.int a))) (hb : EF tb σ G (XV (.int b))) : ET (tTest (tOp (rI0 fun i j => .bl (decide (i ≤ j))) ta tb)) σ G (· = decide (a ≤ b)) := et_test (ec_int (f := fun i j => decide (i ≤ j)) (EF.iv ha) (EF.iv hb) fun x y hx hy => by rw [hx, hy])
theorem et_gtI {a b : Int} (ha : EF ta σ G (XV (.int a))) (hb : EF tb σ G (XV (.int b))) : ET (tTest (tOp (rI0 fun i j => .bl (decide (i > j))) ta tb)) σ G (· = decide (a > b)) := et_test (ec_int (f := fun i j => decide (i > j)) (EF.iv ha) (EF.iv hb) fun x y hx hy => by rw [hx, hy])
theorem et_geI {a b : Int} (ha : EF ta σ G (XV (.int a))) (hb : EF tb σ G (XV (.int b))) : ET (tTest (tOp (rI0 fun i j => .bl (decide (i ≥ j))) ta tb)) σ G (· = decide (a ≥ b)) := et_test (ec_int (f := fun i j => decide (i ≥ j)) (EF.iv ha) (EF.iv hb) fun x y hx hy => by rw [hx, hy])
/-- len of data that is a list -/
theorem ex_lenD {ds : List PyData} (ha : EF ta σ G (DV K (.list ds))) : EF (tCB (Evl.rLenS K) (tCons ta tNil)) σ G (XV (.int (ds.length : Int))) := (ed_lenL ha).imp fun v _ _ ⟨z, ez, hz⟩ => by rw [ez, hz]; rfl
end
end Lw

set_option Elab.async false
set_option linter.all false
set_option maxRecDepth 100000
set_option maxHeartbeats 4000000
/-! a try with several clauses, each of which names its error -/
namespace Lw
open PySem L2
open PySem.Spec PyProof.Rows
/-- what stands behind a clause whose name is in slot i -/
def goneE (i : Nat) (D : Ends) : Ends := ⟨fun st h => D.nx (List.set st i none) h, D.rt, fun st h => D.bk (List.set st i none) h, fun st h => D.ct (List.set st i none) h⟩
/-- class, slot and suite of a clause -/
abbrev Cla := Value × Nat × (Addr → Value → Option Addr → TS)
def wCla (K : PySem.W.Frag) (W0 : WX) (D : Ends) : List Cla → WX
  | [] => W0
  | q :: r => fun c1 d1 st h1 => ∃ b, PySem.W.exmOne K c1 q.1 = some b ∧ (b = false → wCla K W0 D r c1 d1 st h1) ∧
      (b = true → ∀ e, h1 e = none → q.2.2 e c1 d1 (goneE q.2.1 D) (List.set st q.2.1 (some (.ref e))) h1)
inductive ClaOk (X : Cx) : List ExceptHandler → List Cla → Prop
  | nil : ClaOk X [] []
  | cons {x n : Str} {c : Value} {i : Nat} {ts : Addr → Value → Option Addr → TS} {b1 : Stmt} {bs : List Stmt} {p1 p2 : Pos} {hr : List ExceptHandler} {lr : List Cla}
      (hN : X.N[i]? = some n) (hL : X.env.kindOf n = some .local) (hC : Names X x c) (rest : ClaOk X hr lr)
      (hS : ∀ (e : Addr) (oe : Obj) (c1 : Value) (d1 : Option Addr) (pn : List (Addr × Obj)), Zc c1 d1 oe → (∃ vs, oe.data = .fields vs) → PSs (X.suite e ((e, oe) :: pn)) (b1 :: bs) (ts e c1 d1)) :
      ClaOk X (.ExceptHandler (some (.Name x p1)) (some n) (b1 :: bs) p2 :: hr) ((c, i, ts) :: lr)
theorem ps_tryN {X : Cx} {bd : List Stmt} {g0 : ExceptHandler} {gs : List ExceptHandler} {lr : List Cla} {pos : Pos} {tb : WX → TS} {W0 : WX} (st0 : X.stack = X.env :: X.outer) (fr0 : X.env.frame = some X.env.locals) (nd : X.N.Nodup) (tk : Takes X W0)
    (hB : ∀ (W : WX) (pn : List (Addr × Obj)) (xe : Value → Shared → Prop), Takes (X.tr pn xe) W → PassesOwn (model X.prog X.w) X.A X.env xe → PSs (X.tr pn xe) bd (tb W)) (hH : ClaOk X (g0 :: gs) lr) :
    PS X (.Try bd (g0 :: gs) [] [] pos) (fun D st h => tb (wCla X.K W0 D lr) D st h) := by
  constructor
  intro pins s0 st h D I q0
  have okX := I.ok
  have frs0 : X.A.frames = some (X.env :: X.outer) := okX.frames.trans (congrArg some st0)
  apply wpAny_Try_except
  have body := (hB (wCla X.K W0 D lr) (X.pn ++ pins) (fun e s₁ => wpAny (model X.prog X.w) X.A (noteFrame e X.env) (fun _ s₂ => wpAny (model X.prog X.w) X.A (setFlight e none) (fun _ s₃ => wpAny (model X.prog X.w) X.A (handleBy e X.env (g0 :: gs)) (SP X pins D) X.xe s₃) X.xe s₂) X.xe s₁)
    (fun u t xx => ?caught) PassesOwn.looking).run [] s0 st h D (I.toTry _) q0
  case caught =>
    obtain ⟨e, B, tI, pins1, st1, h1, c1, d1, rfl, I0, nb, up1, sky1, na, os1, ag1, w1⟩ := xx
    have I1 : Inv X pins st1 h1 tI := I0.ofTry okX
    rw [st0] at sky1
    show wpAny (model X.prog X.w) X.A (noteFrame (.ref e) X.env) _ _ _
    refine Sky.land Zc.steady frs0 fr0 sky1 fun t3 fl3 up3 => ?_
    have I3 : Inv X pins st1 h1 { t with heap := t3 } := I1.landed nb fl3.1 (up1.trans up3) os1 ag1
    obtain ⟨o3, f3, g3, z3, e3⟩ := fl3.there
    have off : e ∉ frs (X.env :: X.outer) := fun hm => by
      obtain ⟨_, o', g', no⟩ := fl3.2.2.1.mem hm
      exact no _ (by rw [g3] at g'; cases g'; exact e3)
    have eL : e ≠ X.env.locals := fun z => off (by rw [z]; exact List.mem_filterMap.mpr ⟨X.env, .head _, fr0⟩)
    have eF : e ∉ X.fs := fun hm => by
      obtain ⟨v, hv, qv⟩ := List.mem_filterMap.mp hm
      exact off (List.mem_filterMap.mpr ⟨v, .tail _ hv, qv⟩)
    have go : ∀ {hs : List ExceptHandler} {ls : List Cla}, ClaOk X hs ls → wCla X.K W0 D ls c1 d1 st1 h1 → wpAny (model X.prog X.w) X.A (handleBy (.ref e) X.env hs) (SP X pins D) X.xe { t with heap := t3 } := fun {hs ls} hk => by
      induction hk with
      | nil =>
        intro w
        apply wpAny_handleBy_nil
        obtain ⟨_, _, _, o, vs, T, oT, ts', gE, gZ, gD, gT, _⟩ := id fl3
        have fin : wpAny (model X.prog X.w) X.A (setFlight (.ref e) X.env.frame) (fun _ s4 => wpAny (model X.prog X.w) X.A (throw (.ref e) : Sem Flow) (SP X pins D) X.xe s4) X.xe { t with heap := t3 } := by
          rw [fr0]
          refine HandSPX.setFlight_upZ fl3 fun t4 k4 up4 => wpAny_throw (tk _ _ ⟨e, B, tI, pins, st1, h1, c1, d1, rfl, I1, nb, (up1.trans up3).trans up4, ?_, na, os1, ag1, w⟩)
          right; right
          rw [st0]
          exact k4
        unfold PySem.passOn
        refine wpAny_bind (wpAny_field gE gD gT ?_)
        rw [if_neg (by simp)]
        first
          | exact wpAny_bind (wpAny_pure (wpAny_bind fin))
          | exact wpAny_bind fin
      | @cons x n c i ts b1 bs p1 p2 hr lr hN hL hC rest hS ih =>
        rintro ⟨b, eb, kno, kyes⟩
        have S3 := I3.suite g3 e3 na eL eF
        have typ : PySem.W.Looks (model X.prog X.w) t3 (typeOf (.ref e)) c1 := fun A Q E s k q => wpAny_typeOf_ref (k _ _ g3) (z3.1 ▸ q)
        have mat := PySem.W.exm_one (M := model X.prog X.w) I3.kIn typ eb
        refine wpAny_handleBy_cons (codeAny_handlers_test ?_) (by intro q; cases q)
        have nm : ∀ {Q E : Value → Shared → Prop}, Q c { t with heap := t3 } → wpAny (model X.prog X.w) (X.A.mark (some (.ref e))) (eval (.Name x p1) X.env) Q E { t with heap := t3 } := by
          intro Q E q
          rcases hC with ⟨k1, k2, k3 | ⟨k3, k4, k5⟩⟩
          · exact ld_glob (X := X.suite e ((e, o3) :: (X.pn ++ pins))) S3 k1 k3 q k2
          · exact ld_blt (X := X.suite e ((e, o3) :: (X.pn ++ pins))) S3 k1 k3 k4 q k5 k2
        refine nm (mat.here ?_)
        match b, eb, kno, kyes with
        | false, _, kno, _ => exact ih (kno rfl)
        | true, _, _, kyes =>
          apply codeAny_handlers_suite_as
          refine HandSPX.lands_againZ fl3 fun t4 fl4 up4 => ?_
          obtain ⟨o4, f4, g4, z4, e4⟩ := fl4.there
          have S4 := (I1.landed nb fl4.1 ((up1.trans up3).trans up4) os1 ag1 : Inv X pins st1 h1 { t with heap := t4 }).suite g4 e4 na eL eF
          refine store_ok (X := X.suite e ((e, o4) :: (X.pn ++ pins))) (v := .ref e) S4 nd hN (.inl hL) rfl (fun t5 S5 => ?_) (.inr hL)
          have gone : ∀ {t6 : Shared} {st6 : L2.St} {h6 : Hp} {Q : Shared → Prop}, Inv (X.suite e ((e, o4) :: (X.pn ++ pins))) [] st6 h6 t6 → (∀ t7, Inv X pins (st6.set i none) h6 t7 → Q t7) →
              wpAny (model X.prog X.w) X.A (do bindName X.env n .none; unbindBehindTheSuite X.env n p2) (fun _ t7 => Q t7) X.xe t6 := fun S6 k => gone_ok (S6.unsuite okX) nd hN hL k
          refine wpAny_mono ((hS e o4 c1 d1 (X.pn ++ pins) z4 ⟨_, e4⟩).run [] t5 _ h1 _ S5 (kyes rfl e na)) (fun f t6 hsp => ?_) (fun _ _ z => z.elim)
          match f, hsp with
          | .next, ⟨st6, h6, S6, q6⟩ => exact gone S6 fun t7 I7 => ⟨_, _, I7, q6⟩
          | .brk, ⟨st6, h6, S6, q6⟩ => exact gone S6 fun t7 I7 => ⟨_, _, I7, q6⟩
          | .cont, ⟨st6, h6, S6, q6⟩ => exact gone S6 fun t7 I7 => ⟨_, _, I7, q6⟩
          | .ret u, ⟨v6, st6, h6, S6, r6, q6⟩ => exact gone S6 fun t7 I7 => ⟨_, _, _, I7, r6, q6⟩
    exact go hH w1
  refine wpAny_mono body (fun f t hsp => ?_) fun _ _ z => z
  match f, hsp with
  | .next, ⟨st1, h1, J, q⟩ => exact wpAny_execs_nil ⟨st1, h1, J.ofTry okX, q⟩
  | .brk, ⟨st1, h1, J, q⟩ => exact ⟨st1, h1, J.ofTry okX, q⟩
  | .cont, ⟨st1, h1, J, q⟩ => exact ⟨st1, h1, J.ofTry okX, q⟩
  | .ret u, ⟨v, st1, h1, J, r, q⟩ => exact ⟨v, st1, h1, J.ofTry okX, r, q⟩
/-- an error that is let out, met by the first clause -/
theorem rse_cla0 {K : PySem.W.Frag} {G H : Hp} {σ : L2.St} {D : Ends} {C : Addr} {q : Cla} {lr : List Cla} {fs : List (Str × V)} {W0 : WX} (hx : PySem.W.exmOne K (.ref C) q.1 = some true)
    (k : ∀ G' H' d a, Gr G G' H H' → H' d = none → (upd H' d (.xd fs)) a = none → q.2.2 a (.ref C) (some d) (goneE q.2.1 D) (List.set σ q.2.1 (some (.ref a))) (upd H' d (.xd fs))) : Rse C fs G H (WE (wCla K W0 D (q :: lr)) σ) :=
  fun G' H' d g hd => ⟨true, hx, (fun z => nomatch z), fun _ a ha => k G' H' d a g hd ha⟩
/-- .. by a later one -/
theorem rse_claS {K : PySem.W.Frag} {G H : Hp} {σ : L2.St} {D : Ends} {C : Addr} {q : Cla} {lr : List Cla} {fs : List (Str × V)} {W0 : WX} (hx : PySem.W.exmOne K (.ref C) q.1 = some false)
    (k : Rse C fs G H (WE (wCla K W0 D lr) σ)) : Rse C fs G H (WE (wCla K W0 D (q :: lr)) σ) :=
  fun G' H' d g hd => ⟨false, hx, (fun _ => k G' H' d g hd), fun z => nomatch z⟩
end Lw

set_option Elab.async false
set_option linter.all false
set_option maxRecDepth 100000
set_option maxHeartbeats 4000000
/-! what heading tells of a list; promises with two errors -/
namespace Lw
open PySem L2
open Evl (Ex)
inductive HR where
  | way (c : Bool)
  | bad (i : Int)
  | no (b : Int)
/-- the first number that is no block -/
def badB (n : Int) (row : List Int) : Option Int := row.find? fun b => !decide (0 ≤ b ∧ b < n)
theorem badB_none {n : Int} {row : List Int} (h : ∀ b ∈ row, 0 ≤ b ∧ b < n) : badB n row = none := by
  unfold badB
  rw [List.find?_eq_none]
  intro b m
  simp [h b m]
theorem badB_no {n : Int} {row : List Int} (h : badB n row = none) : ∀ b ∈ row, 0 ≤ b ∧ b < n := fun b m => by
  have := List.find?_eq_none.mp h b m
  simpa using this
theorem badB_at {n : Int} {row : List Int} {i : Nat} {b : Int} (hi : row[i]? = some b) (h : ∀ x ∈ row.take i, 0 ≤ x ∧ x < n) (hb : ¬ (0 ≤ b ∧ b < n)) : badB n row = some b := by
  unfold badB
  rw [List.find?_eq_some_iff_append]
  refine ⟨by simp only [Bool.not_eq_true', decide_eq_false_iff_not]; exact hb, row.take i, row.drop (i + 1), ?_, fun a m => by simp [h a m]⟩
  have hl := (List.getElem?_eq_some_iff.mp hi)
  obtain ⟨hl, e⟩ := hl
  rw [← e, ← List.drop_eq_getElem_cons hl, List.take_append_drop]
/-- the entries i and i + 1 are joined on this side -/
def okB (js : List (Int × Int)) (c : Bool) (row : List Int) (i : Nat) : Bool := match row[i]?, row[i + 1]? with
  | some a, some b => decide (b ∈ ends js a c)
  | _, _ => true
theorem okB_eq {js : List (Int × Int)} {c : Bool} {row : List Int} {i : Nat} {a b : Int} (ha : row[i]? = some a) (hb : row[i + 1]? = some b) : okB js c row i = decide (b ∈ ends js a c) := by
  unfold okB
  rw [ha, hb]
def brk (js : List (Int × Int)) (c : Bool) (row : List Int) : Option Nat := (List.range (row.length - 1)).find? fun i => !okB js c row i
theorem brk_at {js : List (Int × Int)} {c : Bool} {row : List Int} {i : Nat} (hi : i + 1 < row.length) (h0 : ∀ j, j < i → okB js c row j = true) (h : okB js c row i = false) : brk js c row = some i := by
  unfold brk
  rw [List.find?_range_eq_some]
  exact ⟨by simp [h], by simp; omega, fun j hj => by simp [h0 j hj]⟩
theorem brk_none {js : List (Int × Int)} {c : Bool} {row : List Int} (h : ∀ j, j + 1 < row.length → okB js c row j = true) : brk js c row = none := by
  unfold brk
  rw [List.find?_eq_none]
  intro j m
  have := List.mem_range.mp m
  simp [h j (by omega)]
def headC (js : List (Int × Int)) : List Int → Bool
  | a :: b :: _ => !decide ((b, a) ∈ js)
  | _ => true
def headR (n : Int) (js : List (Int × Int)) (row : List Int) : HR :=
  if row = [] then .bad 0 else match badB n row with
  | some b => .no b
  | none => match brk js (headC js row) row with
    | some i => .bad (i : Int)
    | none => .way (headC js row)
theorem headR_nil {n : Int} {js : List (Int × Int)} : headR n js [] = .bad 0 := by simp [headR]
theorem headR_no {n : Int} {js : List (Int × Int)} {row : List Int} {b : Int} (h0 : row ≠ []) (h : badB n row = some b) : headR n js row = .no b := by simp [headR, h0, h]
theorem headR_bad {n : Int} {js : List (Int × Int)} {row : List Int} {i : Nat} (h0 : row ≠ []) (h : badB n row = none) (hb : brk js (headC js row) row = some i) : headR n js row = .bad (i : Int) := by simp [headR, h0, h, hb]
theorem headR_way {n : Int} {js : List (Int × Int)} {row : List Int} (h0 : row ≠ []) (h : badB n row = none) (hb : brk js (headC js row) row = none) : headR n js row = .way (headC js row) := by simp [headR, h0, h, hb]
section
variable {K : PySem.W.Frag} {C : Addr} {σ : L2.St} {G G' H H' : Hp} {ta tb te tc tr to : TE} {P : VP} {D : Ends}
def HRet (CN CW : Addr) (G H : Hp) (r : HR) (P : Bool → VP) (Q : VK) (E : XK) : Prop := match r with
  | .way c => Ret G H (P c) Q
  | .bad i => Rse CW [("at", .int i)] G H E
  | .no b => Rse CN [("block", .int b)] G H E
/-- check_blocks, with its error -/
def spChecksX (K : PySem.W.Frag) (C CN : Addr) : Sp := fun vs H Q E => ∃ (G : Hp) (p : Addr) (n : Int) (a : Addr) (bs : List Int), Ex G H ∧ vs = [.ref p, .ref a] ∧ SizeAt C G p n ∧ SqL K G a (bs.map V.int) ∧ (badB n bs = none → Ret G H (XV .non) Q) ∧ (∀ b, badB n bs = some b → Rse CN [("block", .int b)] G H E)
def oInt : Option Nat → V
  | some i => .int (i : Int)
  | none => .non
def spFirst (K : PySem.W.Frag) (C : Addr) : Sp := fun vs H Q _ => ∃ (G : Hp) (p : Addr) (n : Nat) (parks : List Int) (js : List (Int × Int)) (a : Addr) (row : List Int) (c : Bool), Ex G H ∧ vs = [.ref p, .ref a, .str (sd c)] ∧ LayAt K C G p n parks js ∧ SqL K G a (row.map V.int) ∧ row.length ≤ 1000 ∧ (∀ b ∈ row, 0 ≤ b ∧ b < (n : Int)) ∧ Ret G H (XV (oInt (brk js c row))) Q
theorem sa_first {G : Hp} {p : Addr} {n : Nat} {parks : List Int} {js : List (Int × Int)} {a : Addr} {row : List Int} {c : Bool} (hL : LayAt K C G p n parks js) (hs : SqL K G a (row.map V.int)) (hl : row.length ≤ 1000) (hb : ∀ b ∈ row, 0 ≤ b ∧ b < (n : Int)) : SA (spFirst K C) [.ref p, .ref a, .str (sd c)] G (XV (oInt (brk js c row))) := fun H e Q _ q => ⟨G, p, n, parks, js, a, row, c, e, rfl, hL, hs, hl, hb, q⟩
def spHead (K : PySem.W.Frag) (C CN CW : Addr) : Sp := fun vs H Q E => ∃ (G : Hp) (p : Addr) (n : Nat) (parks : List Int) (js : List (Int × Int)) (a : Addr) (row : List Int), Ex G H ∧ vs = [.ref p, .ref a] ∧ LayAt K C G p n parks js ∧ SqL K G a (row.map V.int) ∧ row.length ≤ 1000 ∧ HRet CN CW G H (headR (n : Int) js row) (fun c => XV (.str (sd c))) Q E
def lenOf (lens : List Int) (b : Int) : Int := lens.getD b.toNat 0
def spWayL (K : PySem.W.Frag) (C CN CW : Addr) : Sp := fun vs H Q E => ∃ (G : Hp) (p : Addr) (lens parks : List Int) (js : List (Int × Int)) (a : Addr) (row : List Int), Ex G H ∧ vs = [.ref p, .ref a] ∧ LayL K C G p lens parks js ∧ SqL K G a (row.map V.int) ∧ row.length ≤ 1000 ∧ HRet CN CW G H (headR (lens.length : Int) js row) (fun _ => XV (.int ((row.map (lenOf lens)).sum))) Q E
theorem HRet.up {CN CW : Addr} {r : HR} {P : Bool → VP} {Q : VK} {E : XK} {G0 G1 H0 H1 : Hp} (h : HRet CN CW G0 H0 r P Q E) (g : Gr G0 G1 H0 H1) : HRet CN CW G1 H1 r P Q E := by
  cases r with
  | way c => exact fun v G' H' g' p => h v G' H' (g.trans g') p
  | bad i => exact Rse.up h g
  | no b => exact Rse.up h g
/-! statements -/
theorem st_drop2 {sp : Sp} {E : L2.St → XK} {x y : V} (hG : Ex G H) (ha : EF ta σ G (XV x)) (hb : EF tb σ G (XV y)) (k : ∀ G' H', Gr G G' H H' → sp [x, y] H' (fun _ H2 => D.nx σ H2) (E σ)) : tDrop (tCallSD sp [] E (tCons ta (tCons tb tNil))) D σ H := by
  unfold tDrop tCallSD
  refine (ea_two mo_XV mo_XV ha hb) H hG _ fun vs G1 H1 g1 ⟨u, v, ev, hu, hv⟩ => ?_
  subst ev
  rw [show u = _ from hu, show v = _ from hv]
  exact k G1 H1 g1
theorem ef_methX {C : Addr} {m : Str} {sp : Sp} {dvs : List V} {E : L2.St → XK} {tl : TA} {R : List V → Hp → Prop} {a : Addr} (ho : EF to σ G (XV (.ref a))) (hI : ∃ dx fs, G a = some (.ins C dx fs) ∧ fs.lookup m = none) (h : EA tl σ G R)
    (hr : ∀ vs G', Ex G G' → R vs G' → SA sp (.ref a :: (vs ++ dvs)) G' P) : EF (tMethX C m sp dvs E to tl) σ G P := fun H e Q q =>
  ho H e _ fun x G1 H1 g1 p1 => by
    obtain ⟨dx, fs, h1, h2⟩ := hI
    cases (show x = .ref a from p1)
    refine ⟨a, dx, fs, rfl, g1.hp _ _ (e _ _ h1), h2, h H1 (g1.up.trans g1.ok) _ fun vs G2 H2 g2 p2 => ?_⟩
    exact hr vs G2 g2.up p2 H2 g2.ok Q (E σ) fun v G3 H3 g3 p3 => q v G3 H3 ((g2.low g1.hp).trans g3) p3
theorem et_notN {v : V} (ha : EF ta σ G (XV v)) (hb : EF tb σ G (XV .non)) : ET (tTest (tOp (fun x y H Q => y = .non ∧ Q (.bl (!decide (x = .non))) H) ta tb)) σ G (· = !decide (v = .non)) := et_test (ef_op mo_XV mo_XV ha hb fun x y G' _ hx hy => by
  cases (show x = v from hx)
  cases (show y = .non from hy)
  exact fun H e Q k => ⟨rfl, k _ G' H (.refl e) ⟨_, rfl, rfl⟩⟩)
theorem mo_PLs {l : List Int} : Mo (PLs K l) := fun v G G' e ⟨m, h1, h2, h3⟩ => ⟨m, h1, h2, dpx h3 e⟩
theorem ex_niPL {z : Int} {l : List Int} (ha : EF ta σ G (XV (.int z))) (hb : EF tb σ G (PLs K l)) : EF (tOp (rNotInD K) ta tb) σ G (BV (· = !decide (z ∈ l))) := ef_op mo_XV mo_PLs ha hb fun x y G' _ hx hy => by
  cases (show x = _ from hx)
  obtain ⟨m, h1, _, h3⟩ := hy
  refine fun H e Q k => ⟨.int z, m.map PyData.int, .int _, dpx h3 e, sh_int _, sh_ints _, k _ G' H (.refl e) ⟨_, rfl, ?_⟩⟩
  rw [any_int]
  congr 1
  exact decide_eq_decide.mpr h1.mem_iff
end
end Lw

set_option Elab.async false
set_option linter.all false
set_option maxRecDepth 100000
set_option maxHeartbeats 4000000
/-! lists that are cut and turned; pairs in lists of pairs -/
namespace Lw
open PySem L2
open Evl (Ex)
theorem headC_at {js : List (Int × Int)} {row : List Int} (h : 1 < row.length) : ∃ x y, row[0]? = some x ∧ row[1]? = some y ∧ headC js row = !decide ((y, x) ∈ js) := by
  match row, h with
  | x :: y :: r, _ => exact ⟨x, y, rfl, rfl, rfl⟩
theorem headC_short {js : List (Int × Int)} {row : List Int} (h : ¬ 1 < row.length) : headC js row = true := by
  match row, h with
  | [], _ => rfl
  | [x], _ => rfl
  | x :: y :: r, h => exact absurd (by simp) h
section
variable {K : PySem.W.Frag} {C : Addr} {σ : L2.St} {G G' H H' : Hp} {ta tb te tc tr to : TE} {P : VP} {D : Ends}
theorem ef_pairI {a b : Int} (ha : EF ta σ G (XV (.int a))) (hb : EF tb σ G (XV (.int b))) : EF (tTup (tCons ta (tCons tb tNil))) σ G (DV K (dP (a, b))) := ef_tup (ea_two mo_XV mo_XV ha hb) (fun vs G' ⟨x, y, ev, _⟩ => by rw [ev]; simp) fun q vs G' _ _ _ ⟨x, y, ev, hx, hy⟩ => dp_mkT upd_same (by rw [ev, hx, hy]; exact .cons (.int _) (.cons (.int _) .nil))
theorem et_inP {p : Int × Int} {js : List (Int × Int)} (ha : EF ta σ G (DV K (dP p))) (hb : EF tb σ G (DV K (dPs js))) : ET (tTest (tOp (rInD K) ta tb)) σ G (· = decide (p ∈ js)) :=
  et_test ((ed_inD (d := dP p) (ds := js.map dP) ha hb (sh_pair _) (sh_pairs _)).imp fun v _ _ ⟨b, e, hb⟩ => ⟨b, e, by rw [hb, any_pair]⟩)
theorem et_niP {p : Int × Int} {js : List (Int × Int)} (ha : EF ta σ G (DV K (dP p))) (hb : EF tb σ G (DV K (dPs js))) : ET (tTest (tOp (rNotInD K) ta tb)) σ G (· = !decide (p ∈ js)) :=
  et_test ((ed_niD (d := dP p) (ds := js.map dP) ha hb (sh_pair _) (sh_pairs _)).imp fun v _ _ ⟨b, e, hb⟩ => ⟨b, e, by rw [hb, any_pair]⟩)
/-- what a clause tells, as it is wanted -/
theorem ef_errD {nm : Str} {b : Int} {r1 r2 r3 : Bool} (hb : EF tb σ G (XV (.int b))) : EF (tTup (tCons (tC (.str nm)) (tCons tb (tCons (tC (.bl r1)) (tCons (tC (.bl r2)) (tCons (tC (.bl r3)) tNil)))))) σ G (DV K (errD nm b r1 r2 r3)) :=
  ef_tup (ea_x ex_c (ea_x hb (ea_x ex_c (ea_x ex_c (ea_x ex_c ea_nil))))) (fun vs _ h => by rw [h]; simp) fun q vs G' _ _ _ ev => dp_mkT upd_same (by rw [ev]; exact .cons (.str _) (.cons (.int _) (.cons (.bl _) (.cons (.bl _) (.cons (.bl _) .nil)))))
/-- list(reversed(a list)) -/
theorem el_rev {ds : List PyData} (ha : EF ta σ G (DV K (.list ds))) : EF (tLstRev K ta) σ G (LS K ds.reverse) := fun H e Q q => ha H e _ fun x G1 H1 g1 hx => by
  obtain ⟨a, xs, rfl, hs, hd⟩ := dp_lst hx
  refine ⟨a, xs, rfl, Evl.ex_l g1.ok hs, fun p2 h2 => q _ _ _ (g1.trans (.new g1.ok h2)) ⟨p2, xs.reverse, rfl, upd_same, dpa_rev (dpax hd (ex_in (none_back g1.ok h2)))⟩⟩
where
  dpa_rev {G : Hp} : ∀ {vs : List V} {ds : List PyData}, DpAll K G vs ds → DpAll K G vs.reverse ds.reverse
    | _, _, .nil => .nil
    | _, _, .cons (v := v) (d := d) a r => by
      rw [List.reverse_cons, List.reverse_cons]
      exact dpa_snoc (dpa_rev r) a
/-- a list of ints that is in the heap, of which p holds -/
def RL (K : PySem.W.Frag) (p : List Int → Prop) : VP := fun v G => ∃ row : List Int, p row ∧ LS K (row.map PyData.int) v G
theorem mo_RL {p : List Int → Prop} : Mo (RL K p) := fun v G G' e ⟨row, h, l⟩ => ⟨row, h, mo_LS _ _ _ e l⟩
theorem LS.rl {p : List Int → Prop} {row : List Int} (h : EF te σ G (LS K (row.map PyData.int))) (hp : p row) : EF te σ G (RL K p) := h.imp fun v _ _ l => ⟨row, hp, l⟩
theorem RL.sq {p : List Int → Prop} {v : V} (h : RL K p v G) : ∃ a row, v = .ref a ∧ p row ∧ SqL K G a (row.map V.int) := by
  obtain ⟨row, hp, l, xs, rfl, hl, hd⟩ := h
  exact ⟨l, row, rfl, hp, by rw [← dpa_ints_eq hd]; exact Evl.sq_of hl⟩
/-- a list of ints, of which p holds -/
def WL (K : PySem.W.Frag) (p : List Int → Prop) : VP := fun v G => ∃ a row, v = .ref a ∧ p row ∧ SqL K G a (row.map V.int)
theorem mo_WL {p : List Int → Prop} : Mo (WL K p) := fun v G G' e ⟨a, row, ev, hp, hs⟩ => ⟨a, row, ev, hp, Evl.ex_l e hs⟩
theorem EF.wl {p : List Int → Prop} (h : EF te σ G (RL K p)) : EF te σ G (WL K p) := h.imp fun v _ _ l => l.sq
theorem dv_row {a : Addr} {row : List Int} (h : SqL K G a (row.map V.int)) : Dp K G (.ref a) (dI row) := .lst h (dpa_ints row)
/-- two lists of ints behind one another -/
theorem er_cat {p q s : List Int → Prop} (ha : EF ta σ G (RL K p)) (hb : EF tb σ G (RL K q)) (h : ∀ x y, p x → q y → s (x ++ y)) (hz : ∀ x y, p x → q y → x.length + y.length ≤ 10000) : EF (tOp rCat ta tb) σ G (RL K s) :=
  ef_op mo_RL mo_RL ha hb fun u v G' e ⟨x, px, l, xs, ex, h1, d1⟩ ⟨y, py, b, ys, ey, h2, d2⟩ => fun H e2 Q k => by
    have z := hz x y px py
    refine ⟨l, b, xs, ys, ex, ey, e2 _ _ h1, e2 _ _ h2, ?_, fun r hr => k _ _ _ (.new e2 hr) ⟨x ++ y, h _ _ px py, r, _, rfl, upd_same, ?_⟩⟩
    · rw [dpa_len d1, dpa_len d2, List.length_map, List.length_map]
      exact Nat.le_trans z (by decide)
    · have e3 := ex_in (o := .lst (xs ++ ys)) (none_back e2 hr)
      rw [List.map_append]
      rw [dpa_ints_eq d1, dpa_ints_eq d2, ← List.map_append, ← List.map_append]
      exact dpa_ints _
theorem er_from {row : List Int} {k : Nat} {p : List Int → Prop} (ha : EF ta σ G (DV K (dI row))) (hb : EF tb σ G (XV (.int (k : Int)))) (hp : p (row.drop k)) : EF (tSl (rSlL K) ta (tPart tb) tNoPart) σ G (RL K p) := LS.rl (by have h := el_from (k := k) ha hb; rw [← List.map_drop] at h; exact h) hp
theorem er_to {row : List Int} {k : Nat} {p : List Int → Prop} (ha : EF ta σ G (DV K (dI row))) (hb : EF tb σ G (XV (.int (k : Int)))) (hp : p (row.take k)) : EF (tSl (rSlL K) ta tNoPart (tPart tb)) σ G (RL K p) := LS.rl (by have h := el_to (k := k) ha hb; rw [← List.map_take] at h; exact h) hp
theorem er_rev {p q : List Int → Prop} (ha : EF ta σ G (RL K p)) (h : ∀ x, p x → q x.reverse) : EF (tLstRev K ta) σ G (RL K q) := fun H e Q k => ha H e _ fun v G1 H1 g1 ⟨row, hp, l, xs, ev, hl, hd⟩ => by
  subst ev
  refine ⟨l, xs, rfl, Evl.sq_of (g1.ok _ _ hl), fun p2 h2 => k _ _ _ (g1.trans (.new g1.ok h2)) ⟨row.reverse, h _ hp, p2, xs.reverse, rfl, upd_same, ?_⟩⟩
  rw [dpa_ints_eq hd, ← List.map_reverse]
  exact dpa_ints _
/-- a display of ints that are known only somewhat -/
theorem er_lst1 {p : Int → Prop} {q : List Int → Prop} (ha : EF ta σ G (IV p)) (h : ∀ z, p z → q [z]) : EF (tLst (tCons ta tNil)) σ G (RL K q) := ef_lst (ea_one ha) (fun vs _ ⟨x, ev, _⟩ => by rw [ev]; simp) fun r vs G' _ _ _ ⟨x, ev, z, ez, pz⟩ => ⟨[z], h z pz, r, vs, rfl, upd_same, by rw [ev, ez]; exact dpa_ints [z]⟩
theorem er_lst2 {p p' : Int → Prop} {q : List Int → Prop} (ha : EF ta σ G (IV p)) (hb : EF tb σ G (IV p')) (h : ∀ z w, p z → p' w → q [z, w]) : EF (tLst (tCons ta (tCons tb tNil))) σ G (RL K q) := ef_lst (ea_two mo_IV mo_IV ha hb) (fun vs _ ⟨x, y, ev, _⟩ => by rw [ev]; simp) fun r vs G' _ _ _ ⟨x, y, ev, ⟨z, ez, pz⟩, ⟨u, eu, pu⟩⟩ => ⟨[z, u], h z u pz pu, r, vs, rfl, upd_same, by rw [ev, ez, eu]; exact dpa_ints [z, u]⟩
theorem er_nil {q : List Int → Prop} (h : q []) : EF (tLst tNil) σ G (RL K q) := ef_lst ea_nil (fun vs _ ev => by rw [ev]; simp) fun r vs G' _ _ _ ev => ⟨[], h, r, vs, rfl, upd_same, by rw [ev]; exact .nil⟩
end
end Lw

set_option Elab.async false
set_option linter.all false
set_option maxRecDepth 100000
set_option maxHeartbeats 4000000
/-! a track in which each block is joined to the next -/
namespace Lw
open PySem L2
open Evl (Ex)
def lineJ (m : Nat) : List (Int × Int) := (List.range m).map fun b : Nat => ((b : Int), (b : Int) + 1)
theorem lineJ_succ (m : Nat) : lineJ (m + 1) = lineJ m ++ [((m : Int), (m : Int) + 1)] := by
  unfold lineJ
  rw [List.range_succ, List.map_append]
  rfl
theorem lineJ_len (m : Nat) : (lineJ m).length = m := by unfold lineJ; rw [List.length_map, List.length_range]
theorem lineJ_mem {m : Nat} {p : Int × Int} (h : p ∈ lineJ m) : p.1 < (m : Int) ∧ p.2 ≤ (m : Int) := by
  unfold lineJ at h
  obtain ⟨b, hb, rfl⟩ := List.mem_map.mp h
  have := List.mem_range.mp hb
  constructor
  · show (b : Int) < m
    omega
  · show (b : Int) + 1 ≤ m
    omega
theorem lineJ_ok (n : Int) (parks : List Int) : ∀ m : Nat, (m : Int) < n → JOk n parks (lineJ m) := by
  intro m
  induction m with
  | zero => intro _; exact .nil
  | succ m ih =>
    intro h
    rw [lineJ_succ]
    refine .snoc (ih (by omega)) ⟨by omega, by omega, by omega, fun z => ?_, fun _ => ?_, fun _ => ?_⟩
    · have := (lineJ_mem z).1
      simp only at this
      omega
    · have : eo (lineJ m) (m : Int) = [] := by
        unfold eo
        rw [List.map_eq_nil_iff, List.filter_eq_nil_iff]
        intro p hp hd
        have e := of_decide_eq_true hd
        have := (lineJ_mem hp).1
        omega
      rw [this]
      simp
    · have : wo (lineJ m) ((m : Int) + 1) = [] := by
        unfold wo
        rw [List.map_eq_nil_iff, List.filter_eq_nil_iff]
        intro p hp hd
        have e := of_decide_eq_true hd
        have := (lineJ_mem hp).2
        omega
      rw [this]
      simp
section
variable {K : PySem.W.Frag} {C : Addr} {σ : L2.St} {G G' H H' : Hp} {ta tb te tc tr to : TE} {P : VP} {D : Ends}
theorem ex_negX {a : Int} (ha : EF ta σ G (XV (.int a))) : EF (tUn (rU fun i => .int (-i)) ta) σ G (XV (.int (-a))) := fun H e Q q => ha H e _ fun x G1 H1 g1 p => ⟨a, p, q _ G1 H1 g1 rfl⟩
theorem ef_lineJ {ta : TA} {j : Nat} {n : Int} {te : TE} (h : EA ta σ G fun us _ => us = [.int n]) (hn : 0 ≤ n ∧ n ≤ 900) (hw : ∀ x, wipe ((wipe σ [j]).set j (some x)) [j] = wipe σ [j]) (he : ∀ (i : Nat) G', Ex G G' → (i : Int) < n → EF te ((wipe σ [j]).set j (some (.int (i : Int)))) G' (DV K (dP ((i : Int), (i : Int) + 1)))) :
    EF (tLc (iRng1 ta) (gName j) tYes te [j]) σ G (DV K (dPs (lineJ n.toNat))) :=
  ef_lcR1 (n := n) (fun i xs G' => DpAll K G' xs ((lineJ i).map dP)) h ⟨hn.1, by omega⟩ hw (fun G' _ => .nil) (fun i xs G' e1 hi hx => ec_all ((he i G' e1 hi).imp fun v G2 e2 hv => by rw [lineJ_succ, List.map_append]; exact dpa_snoc (dpax hx e2) hv)) fun p xs G' h1 h2 _ _ hx => dp_mkL upd_same (dpax hx (ex_in h2))
end
end Lw

set_option Elab.async false
set_option linter.all false
set_option maxRecDepth 100000
set_option maxHeartbeats 4000000
/-! a new object whose __init__ may let an error out, at the caller's slots -/
namespace Lw
open PySem L2
open Evl (Ex)
/-- the heap with a new object without fields -/
def newO (H : Hp) (C x dx : Addr) : Hp := upd (upd H dx (.own x)) x (.ins C dx [])
/-- C(..), args read: the promise of __init__ at a new object -/
def askX (C : Addr) (sp : Sp) (vs : V → List V) (Er : XK) (H : Hp) (Q : VK) : Prop := ∀ x dx, H x = none → H dx = none → dx ≠ x → sp (vs (.ref x)) (newO H C x dx) (fun v H2 => v = .non ∧ Q (.ref x) H2) Er
section
variable {X : Cx} {CX : CXT} {k : Nat} {f C : Addr} {fd : FuncData} {ps : List Str} {sp : Sp} {σ : L2.St} {H : Hp}
theorem made_X {Er : XK} {pins : List (Addr × Obj)} {s : Shared} {Q : VK} {us : List Value} {kw : List (Str × Value)} {gU : Value → List Value} {gW : V → List V} (M : Mk X.K C f) (F : FnOk X.prog X.w X.K X.mg X.base CX k f fd ps sp) (hr : Room (k + 1) X.A)
    (hB : ∀ (t : Shared) (o : Value), X.K.In t.heap → BindsTo t fd ⟨o :: us, kw⟩ (ps.zip (gU o))) (hR : ∀ a : Addr, Vals (gW (.ref a)) (gU (.ref a))) (px : PassesAt CX X σ Er) (I : Inv X pins σ H s) (h : askX C sp gW Er H Q) :
    wpAny (model X.prog X.w) X.A (call (.ref C) us kw) (EP X pins σ Q) X.xe s := by
  have asked := h (s.heap.objs.size + 1) (s.heap.objs.size) (I.hok.fresh (Nat.le_succ _)) (I.hok.fresh (Nat.le_refl _)) (Nat.ne_of_lt (Nat.lt_succ_self _))
  have In := Inv.made (C := C) I
  have ran := F.run _ X.stack _ _ ⟨Value.ref (s.heap.objs.size + 1) :: us, kw⟩ (gU (.ref (s.heap.objs.size + 1))) (gW (.ref (s.heap.objs.size + 1))) _ Er (hr.make C us kw) (In.env0.make C us kw) (hB _ _ In.kIn) (hR _) asked
  apply wpAny_call
  refine make_map (f := f) I.kIn M.makes M.init (beq_iff_eq.mp M.fn) (codeAny_mono ran fun out t ho => ?_)
  match out, ho with
  | .error e, ho => exact px pins _ _ e t In ho
  | .ok (.ret u), ho =>
    obtain ⟨v, H', I3, rv, ev, q3⟩ := In.after ho
    subst ev
    exact ⟨rv, ⟨V.ref (s.heap.objs.size + 1), H', I3, rfl, q3⟩⟩
  | .ok .next, ho => exact ho.elim
  | .ok .brk, ho => exact ho.elim
  | .ok .cont, ho => exact ho.elim
variable {E : L2.St → XK} {x : Str} {p pos : Pos} {e : Expr} {es : List Expr} {t tk : TA}
/-- C(e, ..), what is left out having the values dvs -/
def tNewX (C : Addr) (sp : Sp) (dvs : List V) (E : L2.St → XK) (t : TA) : TE := fun σ H Q => t σ H fun vs H1 => askX C sp (fun o => o :: (vs ++ dvs)) (E σ) H1 Q
theorem pe_newX {n : Nat} {dvs : List V} {ds : List Value} (M : Mk X.K C f) (F : FnOk X.prog X.w X.K X.mg X.base CX k f fd ps sp) (hr : Room (k + 1) X.A) (hg : Gl X x) (hm : X.mg x = some (.ref C)) (hb : Binds X.K fd ps ds) (hd : Vals dvs ds) (px : ∀ σ, PassesAt CX X σ (E σ)) (ha : PA X (e :: es) t)
    (h1 : (x == ("__debug__" : Str)) = false := by decide) (h2 : starEach (e :: es) X.env = (false, eval e X.env) :: starEach es X.env := by rfl) (h3 : (backTo pos (starEach es X.env)).any (·.1) = false := by rfl) : PE X (.Call (.Name x p) (e :: es) [] pos) (tNewX C sp dvs E t) := by
  constructor
  intro pins s σ H Q I h
  refine wpAny_Call_Name_kw (ld_glob I hg hm ?_ h1)
  refine PySem.W.callWith_K (h₀ := X.base) I.ok.mod.kin M.kp (thn (ha.run pos pins s σ H _ I h) ?_) h2 h3
  rintro us s1 ⟨vs, H1, I1, r, q⟩
  have ask0 := q (s1.heap.objs.size + 1) (s1.heap.objs.size) (I1.hok.fresh (Nat.le_succ _)) (I1.hok.fresh (Nat.le_refl _)) (Nat.ne_of_lt (Nat.lt_succ_self _))
  have hl := F.len _ _ _ _ ask0
  have rl := r.length
  have dl := hd.length
  refine ⟨I1.kIn, made_X (gU := fun o => o :: (us ++ ds)) M F hr (fun t o hk => hb t (o :: us) hk ?_) (gW := fun o => o :: (vs ++ dvs)) (fun a => .cons (show RelV (.ref a) (.ref a) from rfl) (r.append hd)) (px σ) I1 q⟩
  simp only [List.length_cons, List.length_append] at hl ⊢
  omega
/-- C(e, .., k = v, ..) -/
def tNewKX (C : Addr) (n m : Nat) (sp : Sp) (gV : List V → List V → List V) (E : L2.St → XK) (t tk : TA) : TE := fun σ H Q => t σ H fun vs H1 => tk σ H1 fun zs H2 => vs.length = n ∧ zs.length = m ∧ askX C sp (fun o => gV (o :: vs) zs) (E σ) H2 Q
theorem pe_newKX {n : Nat} {ks : List Str} {kws : List Keyword} {g : List Value → List Value → List Value} {gV : List V → List V → List V} (M : Mk X.K C f) (F : FnOk X.prog X.w X.K X.mg X.base CX k f fd ps sp) (hr : Room (k + 1) X.A) (hg : Gl X x) (hm : X.mg x = some (.ref C)) (hb : KBn X.K fd ps (n + 1) ks g gV)
    (px : ∀ σ, PassesAt CX X σ (E σ)) (ha : PA X (e :: es) t) (hkw : PK X kws tk) (h0 : (backToKw pos (keywordEach kws X.env)).all (·.1.isSome) = true := by rfl) (hks : (backToKw pos (keywordEach kws X.env)).filterMap (·.1) = ks := by rfl)
    (h1 : (x == ("__debug__" : Str)) = false := by decide) (h2 : starEach (e :: es) X.env = (false, eval e X.env) :: starEach es X.env := by rfl)
    (h3 : ((backTo pos (starEach (e :: es) X.env)).any (·.1) || (backToKw pos (keywordEach kws X.env)).any (·.1.isNone)) = false := by rfl) : PE X (.Call (.Name x p) (e :: es) kws pos) (tNewKX C n ks.length sp gV E t tk) := by
  constructor
  intro pins s σ H Q I h
  refine wpAny_Call_Name_kw (ld_glob I hg hm ?_ h1)
  refine PySem.W.callWith_KW (h₀ := X.base) I.ok.mod.kin M.kp h0 (thn (ha.run pos pins s σ H _ I h) ?_) h3 h2
  rintro us s1 ⟨vs, H1, I1, r, q⟩
  refine thn (hkw.run pos pins s1 σ H1 _ I1 q) ?_
  rintro ws s2 ⟨zs, H2, I2, rz, l1, l2, q2⟩
  refine ⟨I2.kIn, ?_⟩
  rw [hks]
  exact made_X (gU := fun o => g (o :: us) ws) M F hr (fun t o hk => hb.to t (o :: us) ws hk (by rw [List.length_cons, ← r.length, l1]) (rz.length.symm.trans l2)) (gW := fun o => gV (o :: vs) zs) (fun a => hb.rel (.cons (show RelV (.ref a) (.ref a) from rfl) r) rz) (px σ) I2 q2
end
end Lw

set_option Elab.async false
set_option linter.all false
set_option maxRecDepth 100000
set_option maxHeartbeats 4000000
/-! what the checks of a layout say; yards as a list or as a tuple -/
namespace Lw
open PySem L2
open Evl (Ex)
inductive LV where
  | ok
  | len (z : Int)
  | no (b : Int)
  | bad (w e : Int)
  | crowd (b : Int) (c : Bool)
/-- what is wrong with the next joint -/
def jbad (n : Int) (parks : List Int) (js : List (Int × Int)) (p : Int × Int) : LV :=
  if ¬ (0 ≤ p.1 ∧ p.1 < n) then .no p.1 else if ¬ (0 ≤ p.2 ∧ p.2 < n) then .no p.2 else if p.1 ≥ p.2 ∨ p ∈ js then .bad p.1 p.2
  else if p.1 ∉ parks ∧ (eo js p.1).length = 2 then .crowd p.1 true else if p.2 ∉ parks ∧ (wo js p.2).length = 2 then .crowd p.2 false else .ok
def jver (n : Int) (parks : List Int) (js : List (Int × Int)) : List (Int × Int) → LV
  | [] => .ok
  | p :: r => match jbad n parks js p with
    | .ok => jver n parks (js ++ [p]) r
    | v => v
def ver (lens : List Int) (parks : List Int) (js : List (Int × Int)) : LV := match lens.find? fun z => decide (z < 1) with
  | some z => .len z
  | none => match badB (lens.length : Int) parks with
    | some b => .no b
    | none => jver (lens.length : Int) parks [] js
theorem find_at {p : Int → Bool} {row : List Int} {i : Nat} {b : Int} (hi : row[i]? = some b) (h : ∀ x ∈ row.take i, p x = false) (hb : p b = true) : row.find? p = some b := by
  rw [List.find?_eq_some_iff_append]
  refine ⟨hb, row.take i, row.drop (i + 1), ?_, fun a m => by simp [h a m]⟩
  obtain ⟨hl, e⟩ := List.getElem?_eq_some_iff.mp hi
  rw [← e, ← List.drop_eq_getElem_cons hl, List.take_append_drop]
theorem find_no {p : Int → Bool} {row : List Int} (h : ∀ x ∈ row, p x = false) : row.find? p = none := by
  rw [List.find?_eq_none]
  intro b m
  simp [h b m]
theorem jbad_new {n : Int} {parks : List Int} {js : List (Int × Int)} {p : Int × Int} (h : jbad n parks js p = .ok) : JNew n parks js p.1 p.2 := by
  unfold jbad at h
  split at h
  · cases h
  · split at h
    · cases h
    · split at h
      · cases h
      · split at h
        · cases h
        · split at h
          · cases h
          · rename_i h1 h2 h3 h4 h5
            have h1 := Classical.not_not.mp h1
            have h2 := Classical.not_not.mp h2
            exact ⟨h1.1, by omega, h2.2, fun z => h3 (.inr z), fun z y => h4 ⟨z, y⟩, fun z y => h5 ⟨z, y⟩⟩
theorem jver_step {n : Int} {parks : List Int} {js : List (Int × Int)} {i : Nat} {p : Int × Int} (hp : js[i]? = some p) : jver n parks (js.take i) (js.drop i) = match jbad n parks (js.take i) p with
    | .ok => jver n parks (js.take (i + 1)) (js.drop (i + 1))
    | v => v := by
  obtain ⟨hl, e⟩ := List.getElem?_eq_some_iff.mp hp
  have e1 : js.drop i = p :: js.drop (i + 1) := by rw [← e]; exact List.drop_eq_getElem_cons hl
  have e2 : js.take (i + 1) = js.take i ++ [p] := by rw [← e, List.take_succ_eq_append_getElem hl]
  rw [e1, e2]
  show (match jbad n parks (js.take i) p with | .ok => jver n parks (js.take i ++ [p]) (js.drop (i + 1)) | v => v) = _
  rfl
theorem jver_ok {n : Int} {parks : List Int} : ∀ {r js : List (Int × Int)}, JOk n parks js → jver n parks js r = .ok → JOk n parks (js ++ r)
  | [], js, h, _ => by rw [List.append_nil]; exact h
  | p :: r, js, h, e => by
    have e' : (match jbad n parks js p with | .ok => jver n parks (js ++ [p]) r | v => v) = .ok := e
    cases hb : jbad n parks js p with
    | ok =>
      rw [hb] at e'
      have := jver_ok (r := r) (.snoc h (jbad_new hb)) e'
      rw [List.append_assoc] at this
      exact this
    | len z => rw [hb] at e'; cases e'
    | no z => rw [hb] at e'; cases e'
    | bad z y => rw [hb] at e'; cases e'
    | crowd z y => rw [hb] at e'; cases e'
theorem ver_ok {lens parks : List Int} {js : List (Int × Int)} (h : ver lens parks js = .ok) : (∀ z ∈ lens, 1 ≤ z) ∧ (∀ b ∈ parks, 0 ≤ b ∧ b < (lens.length : Int)) ∧ JOk (lens.length : Int) parks js := by
  unfold ver at h
  cases hl : lens.find? fun z => decide (z < 1) with
  | some z => rw [hl] at h; cases h
  | none =>
    rw [hl] at h
    cases hb : badB (lens.length : Int) parks with
    | some b => simp only [hb] at h; cases h
    | none =>
      simp only [hb] at h
      refine ⟨fun z m => ?_, badB_no hb, ?_⟩
      · have := List.find?_eq_none.mp hl z m
        simp at this
        omega
      · have := jver_ok (r := js) (.nil (n := (lens.length : Int)) (parks := parks)) h
        rwa [List.nil_append] at this
/-- yards: a list or a tuple -/
def YdAt (K : PySem.W.Frag) (G : Hp) (a : Addr) (parks : List Int) : Prop := SqL K G a (parks.map V.int) ∨ SqT K G a (parks.map V.int)
theorem YdAt.ex {K : PySem.W.Frag} {G G' : Hp} {a : Addr} {parks : List Int} (h : YdAt K G a parks) (e : Ex G G') : YdAt K G' a parks := h.imp (Evl.ex_l e) (Evl.ex_t e)
/-- an error let out, whatever is known -/
def RseH (C : Addr) (fs : List (Str × V)) (H : Hp) (E : XK) : Prop := ∀ H' d, Ex H H' → H' d = none → E (.ref C) (some d) (upd H' d (.xd fs))
theorem RseH.rse {C : Addr} {fs : List (Str × V)} {G H : Hp} {E : XK} (h : RseH C fs H E) : Rse C fs G H E := fun G' H' d g hd => h H' d g.hp hd
theorem Rse.rh {C : Addr} {fs : List (Str × V)} {G H : Hp} {E : XK} (h : Rse C fs G H E) (e : Ex G H) : RseH C fs H E := fun H' d e' hd => h G H' d (.same e e') hd
theorem RseH.up {C : Addr} {fs : List (Str × V)} {H H' : Hp} {E : XK} (h : RseH C fs H E) (e : Ex H H') : RseH C fs H' E := fun H2 d e' hd => h H2 d (e.trans e') hd
/-- the addresses of the four classes -/
structure CCs where
  L : Addr
  N : Addr
  J : Addr
  E : Addr
def LV.rse (cc : CCs) (H : Hp) (E : XK) : LV → Prop
  | .ok => True
  | .len z => RseH cc.L [("length", .int z)] H E
  | .no b => RseH cc.N [("block", .int b)] H E
  | .bad w e => RseH cc.J [("east", .int e), ("west", .int w)] H E
  | .crowd b c => RseH cc.E [("side", .str (sd c)), ("block", .int b)] H E
theorem LV.rse.up {cc : CCs} {H H' : Hp} {E : XK} {v : LV} (h : v.rse cc H E) (e : Ex H H') : v.rse cc H' E := by
  cases v with
  | ok => trivial
  | len z => exact RseH.up h e
  | no z => exact RseH.up h e
  | bad w z => exact RseH.up h e
  | crowd w z => exact RseH.up h e
/-- an own __init__ that stores two fields -/
def spIni2 (C : Addr) (f1 f2 : Str) : Sp := fun vs H Q _ => ∃ (a : Addr) (y1 y2 : V), vs = [.ref a, y1, y2] ∧ H a = some (exo a C none) ∧ ∀ d, H d = none → d ≠ a → Q .non (upd (upd H d (exd d [(f2, y2), (f1, y1)])) a (exo a C (some d)))
section
variable {K : PySem.W.Frag} {C : Addr} {σ : L2.St} {G G' H H' : Hp} {ta tb te tc tr to : TE} {P : VP} {D : Ends} {tl : TE} {g : TG} {tu : TS}
/-- raise C(e1, e2) -/
theorem mk_two {f1 f2 : Str} {y1 y2 : V} {Q : XK} (hG : Ex G H) (h1 : EF ta σ G (XV y1)) (h2 : EF tb σ G (XV y2)) (k : RseH C [(f2, y2), (f1, y1)] H Q) : tMkO C (spIni2 C f1 f2) [] (tCons ta (tCons tb tNil)) σ H Q :=
  (ea_two mo_XV mo_XV h1 h2) H hG _ fun vs G1 H1 g1 ⟨x, y, ev, hx, hy⟩ => by
    subst ev
    rw [show x = y1 from hx, show y = y2 from hy]
    refine ⟨by simp, fun a ha => ⟨a, y1, y2, rfl, upd_same, fun d hd hn => ⟨rfl, d, [(f2, y2), (f1, y1)], upd_same, ?_, ?_, ?_⟩⟩⟩
    · rw [upd_ne hn]
      exact upd_same
    · rw [upd_ne hn] at hd
      exact hd
    · rw [heap_new ha hn]
      rw [upd_ne hn] at hd
      exact k H1 d g1.hp hd
/-- raise C(e) -/
theorem mk_oneH {f1 : Str} {y1 : V} {Q : XK} (hG : Ex G H) (h1 : EF ta σ G (XV y1)) (k : RseH C [(f1, y1)] H Q) : tMkO C (spIni1 C f1) [] (tCons ta tNil) σ H Q := mk_one hG h1 fun G' H' d g hd => k H' d g.hp hd
theorem st_forT {xs : List V} {a : Addr} (hG : Ex G H) (h : EF tl σ G (XV (.ref a))) (hx : SqT K G a xs) (W : Nat → L2.St → Hp → Prop) (h0 : ∀ H', Ex H H' → W 0 σ H') (hl : ∀ i σ' H', W i σ' H' → Ex G H')
    (hs : ∀ i x σ' H', xs[i]? = some x → W i σ' H' → g x σ' H' fun σ2 H2 => tu { D with nx := W (i + 1), ct := W (i + 1), bk := D.nx } σ2 H2) (hd : ∀ σ' H', W xs.length σ' H' → D.nx σ' H') : tFor (iTup K tl) g tu D σ H :=
  h H hG _ fun v G1 H1 g1 e => ⟨a, e, ⟨xs, Evl.ex_t (hG.trans g1.hp) hx⟩, for_tup W (h0 H1 g1.hp) (fun i σ' H' _ w => Evl.ex_t (hl i σ' H' w) hx) hs hd⟩
/-- x in yards -/
theorem inV_ints (b : Int) : ∀ l : List Int, inV (.int b) (l.map V.int) = decide (b ∈ l) := fun l => by
  unfold inV
  induction l with
  | nil => rfl
  | cons x l ih =>
    rw [List.map_cons, List.any_cons, ih, Lw.eqV_int]
    rw [Bool.eq_iff_iff]
    simp only [Bool.or_eq_true, decide_eq_true_eq, List.mem_cons]
    exact ⟨fun h => h.elim (fun h => .inl h.symm) .inr, fun h => h.elim (fun h => .inl h.symm) .inr⟩
theorem ex_inY {a : Addr} {b : Int} {parks : List Int} (ha : EF ta σ G (XV (.int b))) (hb : EF tb σ G (XV (.ref a))) (hy : YdAt K G a parks) : EF (tOp (rIn K false) ta tb) σ G (XV (.bl (decide (b ∈ parks)))) :=
  ef_op mo_XV mo_XV ha hb fun x y G' e1 hx hz => by
    cases (show x = _ from hx)
    cases (show y = _ from hz)
    refine fun H e2 Q k => ⟨a, parks.map V.int, rfl, hy.ex (e1.trans e2), rfl, ?_, k _ G' H (.refl e2) ?_⟩
    · rw [List.all_eq_true]
      intro v m
      obtain ⟨z, _, rfl⟩ := List.mem_map.mp m
      rfl
    · show V.bl _ = V.bl _
      rw [if_neg (by simp), inV_ints]
end
/-- check_blocks of yards, with its error -/
def spChecksY (K : PySem.W.Frag) (C CN : Addr) : Sp := fun vs H Q E => ∃ (G : Hp) (p : Addr) (n : Int) (a : Addr) (bs : List Int), Ex G H ∧ vs = [.ref p, .ref a] ∧ SizeAt C G p n ∧ YdAt K G a bs ∧ (badB n bs = none → Ret G H (XV .non) Q) ∧ (∀ b, badB n bs = some b → RseH CN [("block", .int b)] H E)
def spAddX (C : Addr) (cc : CCs) : Sp := fun vs H Q E => ∃ (x : Addr) (n : Nat) (parks : List Int) (js : List (Int × Int)) (dx : Addr) (fs : List (Str × V)) (l ym e w : Addr) (ea wa : List Addr) (u v : Int), vs = [.ref x, .int u, .int v] ∧ AddSt C H x n parks js dx fs l ym e w ea wa ∧ js.length ≤ 900 ∧ (jbad (n : Int) parks js (u, v)).rse cc H E ∧
  (jbad (n : Int) parks js (u, v) = .ok → ∀ H', AddSt C H' x n parks (js ++ [(u, v)]) dx fs l ym e w ea wa → (∀ a o, a ∉ ea → a ∉ wa → H a = some o → H' a = some o) → Q .non H')
def spInitY (K : PySem.W.Frag) (C : Addr) (cc : CCs) : Sp := fun vs H Q E => ∃ (G : Hp) (x dx : Addr) (lens : List Int) (js : List (Int × Int)) (parks : List Int) (a1 a2 a3 : Addr), vs = [.ref x, .ref a1, .ref a2, .ref a3] ∧ Ex G H ∧ G x = none ∧ H x = some (.ins C dx []) ∧
  Dp K G (.ref a1) (dI lens) ∧ Dp K G (.ref a2) (dPs js) ∧ YdAt K G a3 parks ∧ lens.length ≤ 200 ∧ js.length ≤ 900 ∧ (ver lens parks js).rse cc (outH H x) E ∧
  (ver lens parks js = .ok → ∀ G' H', Gr G G' (outH H x) H' → LayL K C G' x lens parks js → Q .non H')
end Lw

set_option Elab.async false
set_option linter.all false
set_option maxRecDepth 100000
set_option maxHeartbeats 4000000
/-! a layout that may be refused, made; tuples of data -/
namespace Lw
open PySem L2
open Evl (Ex)
section
variable {K : PySem.W.Frag} {C : Addr} {σ : L2.St} {G G' H H' : Hp} {ta tb te tc tr to : TE} {P : VP} {D : Ends} {cc : CCs}
theorem ex_newO {H : Hp} {C x dx : Addr} (hx : H x = none) (hd : H dx = none) : Ex H (outH (newO H C x dx) x) := fun a o ha => by
  unfold newO
  rw [out_ne (ne_of_none ha hx), upd_ne (ne_of_none ha hx), upd_ne (ne_of_none ha hd)]
  exact ha
theorem nw_ask {E : XK} {lens parks : List Int} {js : List (Int × Int)} {a1 a2 a3 : Addr} {Q : VK} (hG : Ex G H) (d1 : Dp K G (.ref a1) (dI lens)) (d2 : Dp K G (.ref a2) (dPs js)) (d3 : YdAt K G a3 parks) (n2 : lens.length ≤ 200) (hj : js.length ≤ 900) (kE : (ver lens parks js).rse cc H E)
    (kok : ver lens parks js = .ok → ∀ x G' H', Gr G G' H H' → LayL K C G' x lens parks js → Q (.ref x) H') : askX C (spInitY K C cc) (fun o => [o, .ref a1, .ref a2, .ref a3]) E H Q := fun x dx hx hd hn => by
  have ex2 := ex_newO (C := C) hx hd
  refine ⟨G, x, dx, lens, js, parks, a1, a2, a3, rfl, hG.trans (ex2.trans out_ex), none_back hG hx, upd_same, d1, d2, d3, n2, hj, kE.up ex2, fun hok G' H' g hL => ⟨rfl, kok hok x G' H' (g.low ex2) hL⟩⟩
/-- Layout(a, b, yards=c) -/
theorem nw_kx {E : L2.St → XK} {lens parks : List Int} {js : List (Int × Int)} {a1 a2 : Addr} {Q : VK} (hG : Ex G H) (h1 : EF ta σ G (XV (.ref a1))) (h2 : EF tb σ G (XV (.ref a2))) (h3 : EF tc σ G fun v G' => ∃ a3, v = .ref a3 ∧ YdAt K G' a3 parks) (d1 : Dp K G (.ref a1) (dI lens)) (d2 : Dp K G (.ref a2) (dPs js)) (n2 : lens.length ≤ 200) (hj : js.length ≤ 900)
    (kE : (ver lens parks js).rse cc H (E σ)) (kok : ver lens parks js = .ok → ∀ x G' H', Gr G G' H H' → LayL K C G' x lens parks js → Q (.ref x) H') : tNewKX C 2 1 (spInitY K C cc) (fun vs zs => vs ++ zs) E (tCons ta (tCons tb tNil)) (tCons tc tNil) σ H Q :=
  (ea_two mo_XV mo_XV h1 h2) H hG _ fun vs G1 H1 g1 ⟨x, y, ev, hx, hy⟩ => (ea_one h3) H1 (hG.trans g1.hp) _ fun zs G2 H2 g2 ⟨z, ez, a3, ea, hz⟩ => by
    subst ev ez ea
    rw [show x = _ from hx, show y = _ from hy]
    have gg := g2.low g1.hp
    exact ⟨rfl, rfl, nw_ask g2.ok (dpx d1 g2.up) (dpx d2 g2.up) hz n2 hj (kE.up gg.hp) fun hok x G' H' g hL => kok hok x G' H' (gg.trans g) hL⟩
/-- Layout(a, b) -/
theorem nw_x {E : L2.St → XK} {lens : List Int} {js : List (Int × Int)} {a1 a2 aY : Addr} {Q : VK} (hG : Ex G H) (h1 : EF ta σ G (XV (.ref a1))) (h2 : EF tb σ G (XV (.ref a2))) (hY : ∀ G, SqT K G aY []) (d1 : Dp K G (.ref a1) (dI lens)) (d2 : Dp K G (.ref a2) (dPs js)) (n2 : lens.length ≤ 200) (hj : js.length ≤ 900)
    (kE : (ver lens [] js).rse cc H (E σ)) (kok : ver lens [] js = .ok → ∀ x G' H', Gr G G' H H' → LayL K C G' x lens [] js → Q (.ref x) H') : tNewX C (spInitY K C cc) [.ref aY] E (tCons ta (tCons tb tNil)) σ H Q :=
  (ea_two mo_XV mo_XV h1 h2) H hG _ fun vs G1 H1 g1 ⟨x, y, ev, hx, hy⟩ => by
    subst ev
    rw [show x = _ from hx, show y = _ from hy]
    exact nw_ask (parks := []) (hG.trans g1.hp) d1 d2 (.inr (hY G)) n2 hj (kE.up g1.hp) fun hok x G' H' g hL => kok hok x G' H' (g.low g1.hp) hL
def rTupOf (K : PySem.W.Frag) : List V → Hp → VK → Prop := fun xs H Q => ∃ p ys, xs = [.ref p] ∧ ((SqL K H p ys ∧ ∀ l, H l = none → Q (.ref l) (upd H l (.tup ys))) ∨ (SqT K H p ys ∧ Q (.ref p) H))
theorem call_tupK {X : Cx} {K : PySem.W.Frag} (h : X.K = K) : CallR X (.type "tuple") (rTupOf K) := by subst h; exact call_tuple_of
theorem call_lenK {X : Cx} {K : PySem.W.Frag} (h : X.K = K) : CallR X (.builtin "len") (Evl.rLenS K) := by subst h; exact call_len_seq
/-- tuple(a list) -/
theorem ef_tupOf {a : Addr} {parks : List Int} (ha : EF ta σ G (XV (.ref a))) (hs : SqL K G a (parks.map V.int)) : EF (tCB (rTupOf K) (tCons ta tNil)) σ G fun v G' => ∃ a3, v = .ref a3 ∧ YdAt K G' a3 parks := fun H e Q q => ha H e _ fun x G1 H1 g1 p => by
  cases (show x = _ from p)
  exact ⟨a, parks.map V.int, rfl, .inl ⟨Evl.ex_l (g1.up.trans g1.ok) hs, fun l hl => q _ _ _ (g1.trans (.new g1.ok hl)) ⟨l, rfl, .inr (Evl.st_of upd_same)⟩⟩⟩
/-- t + u, tuples -/
theorem ef_catT {xs ys : List V} (ha : EF ta σ G fun v G' => ∃ p, v = .ref p ∧ G' p = some (.tup xs)) (hb : EF tb σ G fun v G' => ∃ p, v = .ref p ∧ G' p = some (.tup ys)) (h1 : xs ≠ []) (h2 : ys ≠ []) (h3 : xs.length + ys.length ≤ 1000) (h : ∀ p G', G' p = some (.tup (xs ++ ys)) → P (.ref p) G') : EF (tOp (rCatT K) ta tb) σ G P :=
  ef_op (Pa := fun v G' => ∃ p, v = .ref p ∧ G' p = some (.tup xs)) (Pb := fun v G' => ∃ p, v = .ref p ∧ G' p = some (.tup ys)) (fun v G G' e ⟨p, ev, hp⟩ => ⟨p, ev, e _ _ hp⟩) (fun v G G' e ⟨p, ev, hp⟩ => ⟨p, ev, e _ _ hp⟩) ha hb fun x y G' e ⟨p, ex, hp⟩ ⟨q, ey, hq⟩ => fun H e2 Q k =>
    ⟨p, q, xs, ys, ex, ey, Evl.st_of (e2 _ _ hp), Evl.st_of (e2 _ _ hq), h1, Nat.le_trans h3 (by decide), fun z => absurd z h2, fun _ r hr => k _ _ _ (.new e2 hr) (h r _ upd_same)⟩
/-- data in a row -/
theorem ea_dnil {α : Type} {p : α → Prop} {l : α} (h : p l) : EA tNil σ G fun vs G' => ∃ l, p l ∧ DpAll K G' vs [] := fun H e _ q => q [] G H (.refl e) ⟨l, h, .nil⟩
theorem ea_done {α : Type} {p : α → Prop} {f : α → PyData} (ha : EF ta σ G fun v G' => ∃ l, p l ∧ Dp K G' v (f l)) : EA (tCons ta tNil) σ G fun vs G' => ∃ l, p l ∧ DpAll K G' vs [f l] := (ea_one ha).imp fun vs G' _ ⟨x, ev, l, hl, hd⟩ => ⟨l, hl, by rw [ev]; exact .cons hd .nil⟩
theorem ea_dcons {α : Type} {p : α → Prop} {ds : α → List PyData} {d : PyData} {tl : TA} (ha : EF ta σ G (DV K d)) (hr : EA tl σ G fun vs G' => ∃ l, p l ∧ DpAll K G' vs (ds l)) : EA (tCons ta tl) σ G fun vs G' => ∃ l, p l ∧ DpAll K G' vs (d :: ds l) :=
  ea_cons mo_DV (fun vs G G' e ⟨l, hl, hd⟩ => ⟨l, hl, dpax hd e⟩) ha hr fun x xs G' _ hx ⟨l, hl, hd⟩ => ⟨l, hl, .cons hx hd⟩
theorem ef_tupD {α : Type} {p : α → Prop} {ds : α → List PyData} {tl : TA} (h : EA tl σ G fun vs G' => ∃ l, p l ∧ DpAll K G' vs (ds l)) (hl : ∀ l, (ds l).length ≤ 1000) : EF (tTup tl) σ G fun v G' => ∃ l, p l ∧ Dp K G' v (.tuple (ds l)) :=
  ef_tup h (fun vs G' ⟨l, _, hd⟩ => by rw [dpa_len hd]; exact hl l) fun q vs G' _ _ hq ⟨l, hl, hd⟩ => ⟨l, hl, dp_mkT upd_same (dpax hd (ex_in hq))⟩
end
/-- what is told of a layout, or of its error -/
def vD (lens parks : List Int) (l : List (Int × Int)) : LV → PyData
  | .ok => .tuple [.str "layout", .int (lens.length : Int), dI lens, .list ((marksOf lens.length parks).map PyData.bool), dPs l]
  | .len z => errD "BadLength" z true true false
  | .no b => errD "NoBlock" b true true false
  | .bad w e => .tuple [.str "BadJoint", .int w, .int e, .bool true, .bool true, .bool false]
  | .crowd b c => .tuple [.str "CrowdedEnd", .int b, .str (sd c), .bool true, .bool true, .bool false]
def TD (K : PySem.W.Frag) (lens parks : List Int) (js : List (Int × Int)) : VP := fun v G => ∃ l : List (Int × Int), (ver lens parks js = .ok → l.Perm js ∧ l.Pairwise lexLe) ∧ Dp K G v (vD lens parks l (ver lens parks js))
theorem mo_TD {K : PySem.W.Frag} {lens parks : List Int} {js : List (Int × Int)} : Mo (TD K lens parks js) := fun v G G' e ⟨l, h, d⟩ => ⟨l, h, dpx d e⟩
theorem td_same {K : PySem.W.Frag} {lens parks : List Int} {js : List (Int × Int)} {v w : V} {G : Hp} (n2 : lens.length ≤ 200) (hj : js.length ≤ 900) (h1 : TD K lens parks js v G) (h2 : TD K lens parks js w G) : ∃ d, Dp K G v d ∧ Dp K G w d ∧ Okb 3 d := by
  obtain ⟨l, hl, d1⟩ := h1
  obtain ⟨m, hm, d2⟩ := h2
  cases hv : ver lens parks js with
  | ok =>
    rw [hv] at d1 d2
    have e : l = m := sort_uniq ((hl hv).1.trans (hm hv).1.symm) (hl hv).2 (hm hv).2
    subst e
    refine ⟨_, d1, d2, ?_⟩
    have ll := (hl hv).1.length_eq
    unfold vD Okb
    refine ⟨by simp, fun d m => ?_⟩
    simp only [List.mem_cons, List.not_mem_nil, or_false] at m
    rcases m with rfl | rfl | rfl | rfl | rfl
    · simp [Okb]
    · simp [Okb]
    · unfold dI Okb
      refine ⟨by rw [List.length_map]; omega, fun d m => ?_⟩
      obtain ⟨q, _, rfl⟩ := List.mem_map.mp m
      simp [Okb]
    · unfold Okb
      refine ⟨by rw [List.length_map, marks_len]; omega, fun d m => ?_⟩
      obtain ⟨q, _, rfl⟩ := List.mem_map.mp m
      simp [Okb]
    · unfold dPs Okb
      refine ⟨by rw [List.length_map]; omega, fun d m => ?_⟩
      obtain ⟨q, _, rfl⟩ := List.mem_map.mp m
      unfold dP Okb
      exact ⟨by simp, fun d m => by simp at m; rcases m with rfl | rfl <;> simp [Okb]⟩
  | len z => rw [hv] at d1 d2; exact ⟨_, d1, d2, by unfold vD errD Okb; exact ⟨by simp, fun d m => by simp at m; rcases m with rfl | rfl | rfl | rfl <;> simp [Okb]⟩⟩
  | no z => rw [hv] at d1 d2; exact ⟨_, d1, d2, by unfold vD errD Okb; exact ⟨by simp, fun d m => by simp at m; rcases m with rfl | rfl | rfl | rfl <;> simp [Okb]⟩⟩
  | bad z y => rw [hv] at d1 d2; exact ⟨_, d1, d2, by unfold vD Okb; exact ⟨by simp, fun d m => by simp at m; rcases m with rfl | rfl | rfl | rfl | rfl <;> simp [Okb]⟩⟩
  | crowd z y => rw [hv] at d1 d2; exact ⟨_, d1, d2, by unfold vD Okb; exact ⟨by simp, fun d m => by simp at m; rcases m with rfl | rfl | rfl | rfl | rfl <;> simp [Okb]⟩⟩
end Lw

set_option Elab.async false
set_option linter.all false
set_option maxRecDepth 100000
set_option maxHeartbeats 4000000
/-! three new lists that are changed -/
namespace Lw
open PySem L2
open Evl (Ex)
def rIns : V → List V → Hp → VK → Prop := fun x vs H Q => ∃ (l : Addr) (xs : List V) (i : Int) (y : V), x = .ref l ∧ vs = [.int i, y] ∧ H l = some (.lst xs) ∧ xs.length < sizeLine ∧ 0 ≤ i ∧ i < 2 ^ 63 ∧ Q .non (upd H l (.lst (xs.take i.toNat ++ [y] ++ xs.drop i.toNat)))
structure Fr3 (H : Hp) (la ja pa : Addr) : Prop where
  l : H la = none
  j : H ja = none
  p : H pa = none
  lj : la ≠ ja
  lp : la ≠ pa
  jp : ja ≠ pa
/-- lengths, joints and yards as they stand now -/
structure C3 (K : PySem.W.Frag) (G H : Hp) (la ja pa : Addr) (n J0 P0 b : Nat) (H1 Gk : Hp) (ls : List Int) (vj : List V) (js : List (Int × Int)) (ps : List Int) : Prop where
  g : Gr G Gk H H1
  kl : Gk la = none
  kj : Gk ja = none
  kp : Gk pa = none
  hl : H1 la = some (.lst (ls.map V.int))
  hj : H1 ja = some (.lst vj)
  hp : H1 pa = some (.lst (ps.map V.int))
  d : DpAll K Gk vj (js.map dP)
  ln : ls.length = n
  j0 : J0 ≤ js.length
  j1 : js.length ≤ J0 + b
  p0 : P0 ≤ ps.length
  p1 : ps.length ≤ P0 + b
def CS (K : PySem.W.Frag) (G H : Hp) (la ja pa : Addr) (n J0 P0 b : Nat) (H1 : Hp) : Prop := ∃ Gk ls vj js ps, C3 K G H la ja pa n J0 P0 b H1 Gk ls vj js ps
section
variable {K : PySem.W.Frag} {σ : L2.St} {G G' H H' H1 H2 Gk : Hp} {la ja pa : Addr} {n J0 P0 b b' : Nat} {ls ps : List Int} {vj : List V} {js : List (Int × Int)} {ta tb te ti tc : TE} {P : VP} {D : Ends}
theorem C3.up (h : C3 K G H la ja pa n J0 P0 b H1 Gk ls vj js ps) (e : Ex H1 H2) : C3 K G H la ja pa n J0 P0 b H2 Gk ls vj js ps := { h with g := h.g.then e, hl := e _ _ h.hl, hj := e _ _ h.hj, hp := e _ _ h.hp }
theorem CS.up (h : CS K G H la ja pa n J0 P0 b H1) (e : Ex H1 H2) : CS K G H la ja pa n J0 P0 b H2 := by
  obtain ⟨Gk, ls, vj, js, ps, h⟩ := h
  exact ⟨Gk, ls, vj, js, ps, h.up e⟩
theorem CS.wide (h : CS K G H la ja pa n J0 P0 b H1) (e : b ≤ b') : CS K G H la ja pa n J0 P0 b' H1 := by
  obtain ⟨Gk, ls, vj, js, ps, h⟩ := h
  exact ⟨Gk, ls, vj, js, ps, { h with j1 := by have := h.j1; omega, p1 := by have := h.p1; omega }⟩
theorem C3.lenJ (h : C3 K G H la ja pa n J0 P0 b H1 Gk ls vj js ps) : vj.length = js.length := by rw [dpa_len h.d, List.length_map]
theorem C3.exJ (h : C3 K G H la ja pa n J0 P0 b H1 Gk ls vj js ps) : Ex (upd Gk ja (.lst vj)) H1 := ex_know h.g.ok h.hj
theorem C3.exP (h : C3 K G H la ja pa n J0 P0 b H1 Gk ls vj js ps) : Ex (upd Gk pa (.lst (ps.map V.int))) H1 := ex_know h.g.ok h.hp
/-- a pair put into the joints -/
theorem st_insJ {at' : Int} (fr : Fr3 H la ja pa) (h : C3 K G H la ja pa n J0 P0 b H1 Gk ls vj js ps) (h0 : 0 ≤ at') (h1 : at' < 100000) (hz : J0 + b < 900) (ho : σ[3]? = some (some (.ref ja))) (hat : σ[10]? = some (some (.int at'))) (hT : TR te σ Gk H1 fun v G' => ∃ p, Dp K G' v (dP p))
    (k : ∀ H2, CS K G H la ja pa n J0 P0 (b + 1) H2 → D.nx σ H2) : tDrop (tBM K "list" rIns (tVar 3) (tCons (tVar 10) (tCons te tNil))) D σ H1 := by
  refine ⟨.ref ja, ho, .inl ⟨rfl, vj, Evl.sq_of h.hj⟩, .int at', hat, hT _ fun v G2 H2 g ⟨p, hp⟩ => ?_⟩
  have h2j := g.hp _ _ h.hj
  have lv := h.lenJ
  have j1 := h.j1
  refine ⟨ja, vj, at', v, rfl, rfl, h2j, Nat.lt_of_le_of_lt (m := 900) (by omega) (by decide), h0, by omega, ?_⟩
  have gA := h.g.trans g
  have kj := g.2.2.2 ja (ne_none_of h.hj) h.kj
  refine k _ ⟨G2, ls, vj.take at'.toNat ++ [v] ++ vj.drop at'.toNat, js.take at'.toNat ++ [p] ++ js.drop at'.toNat, ps, gA.put fr.j kj, g.2.2.2 la (ne_none_of h.hl) h.kl, kj, g.2.2.2 pa (ne_none_of h.hp) h.kp, by rw [upd_ne fr.lj]; exact g.hp _ _ h.hl, upd_same, by rw [upd_ne fr.jp.symm]; exact g.hp _ _ h.hp, ?_, h.ln, ?_, ?_, h.p0, ?_⟩
  · have d2 := dpax h.d g.up
    rw [List.map_append, List.map_append, List.map_take, List.map_drop]
    exact dpa_cat (dpa_cat (dpa_take _ d2) (.cons hp .nil)) (dpa_drop _ d2)
  · have := h.j0
    simp only [List.length_append, List.length_take, List.length_drop, List.length_singleton]
    omega
  · simp only [List.length_append, List.length_take, List.length_drop, List.length_singleton]
    omega
  · have := h.p1
    omega
where
  dpa_cat {G : Hp} : ∀ {vs us : List V} {ds es : List PyData}, DpAll K G vs ds → DpAll K G us es → DpAll K G (vs ++ us) (ds ++ es)
    | _, _, _, _, .nil, h => h
    | _, _, _, _, .cons a r, h => .cons a (dpa_cat r h)
/-- an int put into the yards -/
theorem st_insP {z : Int} (fr : Fr3 H la ja pa) (h : C3 K G H la ja pa n J0 P0 b H1 Gk ls vj js ps) (hz : P0 + b < 900) (ho : σ[4]? = some (some (.ref pa))) (hT : TR ti σ Gk H1 (IV fun z => 0 ≤ z ∧ z < 100000)) (hv : ∀ G, EF te σ G (XV (.int z)))
    (k : ∀ H2, CS K G H la ja pa n J0 P0 (b + 1) H2 → D.nx σ H2) : tDrop (tBM K "list" rIns (tVar 4) (tCons ti (tCons te tNil))) D σ H1 := by
  refine ⟨.ref pa, ho, .inl ⟨rfl, _, Evl.sq_of h.hp⟩, hT _ fun v G2 H2 g ⟨i, ei, hi⟩ => hv G2 H2 g.ok _ fun u G3 H3 g3 pu => ?_⟩
  subst ei
  rw [show u = _ from pu]
  have g := g.trans g3
  have p1 := h.p1
  refine ⟨pa, ps.map V.int, i, .int z, rfl, rfl, g.hp _ _ h.hp, Nat.lt_of_le_of_lt (m := 900) (by rw [List.length_map]; omega) (by decide), hi.1, by omega, ?_⟩
  have gA := h.g.trans g
  have kp := g.2.2.2 pa (ne_none_of h.hp) h.kp
  refine k _ ⟨G3, ls, vj, js, ps.take i.toNat ++ [z] ++ ps.drop i.toNat, gA.put fr.p kp, g.2.2.2 la (ne_none_of h.hl) h.kl, g.2.2.2 ja (ne_none_of h.hj) h.kj, kp, by rw [upd_ne fr.lp]; exact g.hp _ _ h.hl, by rw [upd_ne fr.jp]; exact g.hp _ _ h.hj, ?_, dpax h.d g.up, h.ln, h.j0, by have := h.j1; omega, ?_, ?_⟩
  · rw [upd_same, List.map_append, List.map_append, List.map_take, List.map_drop]
    rfl
  · have := h.p0
    simp only [List.length_append, List.length_take, List.length_drop, List.length_singleton]
    omega
  · simp only [List.length_append, List.length_take, List.length_drop, List.length_singleton]
    omega
/-- a length put to another one -/
theorem st_setL {i : Nat} (fr : Fr3 H la ja pa) (h : C3 K G H la ja pa n J0 P0 b H1 Gk ls vj js ps) (hi : i < n) (ho : σ[2]? = some (some (.ref la))) (h7 : σ[7]? = some (some (.int (i : Int)))) (hT : EF te σ Gk (IV fun _ => True)) (k : ∀ H2, CS K G H la ja pa n J0 P0 b H2 → D.nx σ H2) :
    tAsg te (gSub (tVar 2) (tVar 7) rSetL) D σ H1 := hT H1 h.g.ok _ fun v G2 H2 g ⟨z, ez, _⟩ => by
  subst ez
  refine ⟨.ref la, ho, .int (i : Int), h7, la, ls.map V.int, (i : Int), i, rfl, rfl, g.hp _ _ h.hl, ixN_nat (by rw [List.length_map, h.ln]; exact hi), ?_⟩
  have gA := h.g.trans g
  have kl := g.2.2.2 la (ne_none_of h.hl) h.kl
  exact k _ ⟨G2, ls.set i z, vj, js, ps, gA.put fr.l kl, kl, g.2.2.2 ja (ne_none_of h.hj) h.kj, g.2.2.2 pa (ne_none_of h.hp) h.kp, by rw [upd_same, List.map_set], by rw [upd_ne fr.lj.symm]; exact g.hp _ _ h.hj, by rw [upd_ne fr.lp.symm]; exact g.hp _ _ h.hp, dpax h.d g.up, by rw [List.length_set]; exact h.ln, h.j0, h.j1, h.p0, h.p1⟩
theorem EF.tr {P : VP} (h : EF te σ Gk P) (e : Ex Gk H1) : TR te σ Gk H1 P := fun Q q => h H1 e Q q
/-- .. what is known of a list being of no use later -/
theorem EF.trJ {P P' : VP} (h : EF te σ (upd Gk ja (.lst vj)) P') (e : Ex Gk H1) (e2 : Ex (upd Gk ja (.lst vj)) H1) (hP : ∀ v G', P' v G' → P v Gk) : TR te σ Gk H1 P := fun Q q => h H1 e2 Q fun v G2 H2 g p => q v Gk H2 (.same e g.hp) (hP v G2 p)
end
end Lw

set_option Elab.async false
set_option linter.all false
set_option maxRecDepth 100000
set_option maxHeartbeats 4000000
/-! len(set(..)), list.count, any, or; f(.., k = v) with errors; a list that is changed -/
namespace Lw
open PySem PySem.Spec PyProof.Rows L2
open Evl (Ex)
def metN (ns : List Int) : Nat := (firstMet (fun i => ns.getD i 0) ns.length).length
def tLenSetD (K : PySem.W.Frag) (ta : TE) : TE := fun σ H Q => ta σ H fun x H1 => ∃ (l : Addr) (ns : List Int), x = .ref l ∧ SqL K H1 l (ns.map V.int) ∧ ns.length ≤ 4000 ∧ Q (.int (metN ns : Nat)) H1
theorem pe_lenSetD {X : Cx} {a : Expr} {ta : TE} {p p2 q pos : Pos} (hg : Gl X "len") (hm : X.mg "len" = none) (hg2 : Gl X "set") (hm2 : X.mg "set" = none) (ha : PE X a ta) (hc : X.calm = true := by rfl)
    (na : starEach [a] X.env = (false, eval a X.env) :: starEach [] X.env := by rfl) : PE X (.Call (.Name "len" p) [.Call (.Name "set" p2) [a] [] q] [] pos) (tLenSetD X.K ta) := by
  refine ⟨fun pins s σ H Q I h => ?_⟩
  refine Call_ (ld_blt I hg hm boot_len ?_)
  refine PyProof.Rows.callWith_builtin1 (PyProof.Rows.args_cons ?_ rfl) rfl rfl
  refine Call_ (ld_blt I hg2 hm2 boot_set ?_)
  refine PyProof.Rows.callWith_type1 (PyProof.Rows.args_cons (thn (ha.run pins s σ H _ I h) fun v s1 ⟨x, H1, I1, r1, q1⟩ => PyProof.Rows.args_nil ?_) na) na rfl
  obtain ⟨l, ns, rfl, hq, hl, q1⟩ := q1
  cases r1
  obtain ⟨its, r, pl, hz⟩ := I1.list hq
  have hlen : its.toArray.size = ns.length := by rw [List.size_toArray, ← r.length, List.length_map]
  refine call_set_list (I1.ok.hd hc) pl.isList (by simpa using RZ.intsAre_vals r) (by rw [hlen]; unfold scanBound; omega) fun h' tk hS hk => ?_
  refine PyProof.Rows.args_nil ?_
  rw [hlen] at hS
  have hle := firstMet_length_le (fun i => ns.getD i 0) ns.length
  obtain ⟨o, es, ep, t, ho, hex, hd, _, _, _, hf, hn⟩ := hS
  have I2 : Inv X pins σ H1 { s1 with heap := h', toks := tk } := I1.kept fun b o e => hk b o (Heap.lt_size e) e
  exact call_len_set ho hex hd hf (by rw [hn] <;> omega) ⟨.int (metN ns : Nat), H1, I2.tok _, ⟨_, by rw [hn]; rfl⟩, q1⟩
theorem met_nd (ns : List Int) : ∀ i, i ≤ ns.length → ((firstMet (fun i => ns.getD i 0) i).length = i ↔ (ns.take i).Nodup)
  | 0, _ => by simp [firstMet_zero]
  | i + 1, h => by
    have ih := met_nd ns i (by omega)
    have hle := firstMet_length_le (fun i => ns.getD i 0) i
    have e1 : ns.getD i 0 = ns[i] := by rw [List.getD_eq_getElem?_getD, List.getElem?_eq_getElem (by omega)]; rfl
    have e2 : ns.take (i + 1) = ns.take i ++ [ns[i]] := by rw [List.take_add_one, List.getElem?_eq_getElem (by omega)]; rfl
    have e3 : (List.range i).map (fun i => ns.getD i 0) = ns.take i := by
      apply List.ext_getElem
      · simp; omega
      · intro k h1 h2
        simp only [List.length_map, List.length_range] at h1
        simp only [List.getElem_map, List.getElem_range, List.getElem_take]
        rw [List.getD_eq_getElem?_getD, List.getElem?_eq_getElem (by omega)]; rfl
    have an := firstMet_any (fun i => ns.getD i 0) i ns[i]
    rw [e3] at an
    rw [firstMet_succ, e2]
    unfold step_dedup
    simp only [e1]
    rw [an]
    by_cases hb : ((ns.take i).any (· == ns[i])) = true
    · rw [if_pos hb]
      refine ⟨fun z => by omega, fun z => ?_⟩
      obtain ⟨y, hy, ey⟩ := List.any_eq_true.mp hb
      have ey2 : y = ns[i] := eq_of_beq ey
      rw [List.nodup_append] at z
      exact absurd ey2 (z.2.2 y hy ns[i] (by simp))
    · rw [if_neg hb, List.length_append, List.length_singleton, List.nodup_append]
      have hno : ∀ a ∈ ns.take i, ∀ b ∈ [ns[i]], a ≠ b := fun a ha b hb2 e => hb (List.any_eq_true.mpr ⟨a, ha, by rw [e, List.mem_singleton.mp hb2]; exact beq_self_eq_true _⟩)
      refine ⟨fun z => ⟨ih.mp (by omega), List.nodup_cons.mpr ⟨List.not_mem_nil, List.nodup_nil⟩, hno⟩, fun z => by have := ih.mpr z.1; omega⟩
theorem metN_iff (ns : List Int) : metN ns = ns.length ↔ ns.Nodup := by
  have h := met_nd ns ns.length (Nat.le_refl _)
  rw [List.take_length] at h
  exact h
theorem count_nd (ns : List Int) : (ns.filter fun z => decide (1 < ((ns.count z : Nat) : Int))).length = 0 ↔ ns.Nodup := by
  rw [List.length_eq_zero_iff, List.filter_eq_nil_iff, List.nodup_iff_count]
  refine ⟨fun h z => ?_, fun h z _ => by have := h z; simp; omega⟩
  by_cases m : z ∈ ns
  · have := h z m
    simp at this
    omega
  · rw [List.count_eq_zero_of_not_mem m]; omega
section
variable {X : Cx} {CX : CXT} {k : Nat} {f C : Addr} {fd : FuncData} {ps ks : List Str} {sp : Sp} {E : L2.St → XK} {x : Str} {p pos : Pos} {e o : Expr} {es : List Expr} {kws : List Keyword} {ta : TE} {t tk : TA} {g : List Value → List Value → List Value} {gV : List V → List V → List V}
def tCallKX (sp : Sp) (gV : List V → List V → List V) (E : L2.St → XK) (t tk : TA) : TE := fun σ H Q => t σ H fun vs H1 => tk σ H1 fun zs H2 => sp (gV vs zs) H2 Q (E σ)
theorem pe_callKX (F : FnOk X.prog X.w X.K X.mg X.base CX k f fd ps sp) (hr : Room k X.A) (hg : Gl X x) (hm : X.mg x = some (.ref f)) (hk : PySem.W.keepIn X.K (.ref f) = true) (hb : KBinds X.K fd ps ks g gV) (hx : ∀ σ, PassesAt CX X σ (E σ)) (ha : PA X (e :: es) t) (hkw : PK X kws tk)
    (hall : (backToKw pos (keywordEach kws X.env)).all (·.1.isSome) = true := by rfl) (hks : (backToKw pos (keywordEach kws X.env)).filterMap (·.1) = ks := by rfl) (hst : starEach (e :: es) X.env = (false, eval e X.env) :: starEach es X.env := by rfl) (hdb : (x == ("__debug__" : Str)) = false := by decide)
    (hpl : ((backTo pos (starEach (e :: es) X.env)).any (·.1) || (backToKw pos (keywordEach kws X.env)).any (·.1.isNone)) = false := by rfl) :
    PE X (.Call (.Name x p) (e :: es) kws pos) (tCallKX sp gV E t tk) := by
  refine ⟨fun pins s σ H Q I h => wpAny_Call_Name_kw (ld_glob I hg hm ?_ hdb)⟩
  refine PySem.W.callWith_KW (first := []) (h₀ := X.base) I.ok.mod.kin hk hall (thn (ha.run pos pins s σ H _ I h) fun us s2 ⟨vs, H2, I2, r, q2⟩ => ?_) hpl hst
  refine thn (hkw.run pos pins s2 σ H2 _ I2 q2) fun ws s3 ⟨zs, H3, I3, rz, q3⟩ => ⟨I3.kIn, ?_⟩
  rw [hks]
  exact run_kwX F hr hb (hx σ) I3 r rz q3
end
section
variable {K : PySem.W.Frag} {σ : L2.St} {G G' H H' H1 H2 Gk : Hp} {q : Addr} {b : Nat} {ta tb te ti tc tl tl0 : TE} {P : VP} {D : Ends}
theorem eb_or {p r s : Bool → Prop} (h1 : EF ta σ G (BV p)) (h2 : p false → EF tb σ G (BV r)) (ht : p true → s true) (hf : p false → ∀ b, r b → s b) : EF (tOrV ta tb) σ G (BV s) := fun H e Q k => h1 H e _ fun v G1 H1 g1 hv => by
  obtain ⟨z, ez, pz⟩ := hv
  refine ⟨z, ez, ?_⟩
  cases z
  · rw [if_neg Bool.false_ne_true]
    exact h2 pz H1 (g1.up.trans g1.ok) _ fun u G2 H2 g2 ⟨c, ec, hc⟩ => k u G2 H2 (((Gr.same e g1.hp).trans g2)) ⟨c, ec, hf pz c hc⟩
  · rw [if_pos rfl]
    exact k _ G1 H1 g1 ⟨true, rfl, ht pz⟩
theorem ex_any {bs : List Bool} (h : EF ta σ G (DV K (.list (bs.map PyData.bool)))) : EF (tCB (rAny K) (tCons ta tNil)) σ G (BV (· = bs.any id)) := fun H e Q k => h H e _ fun v G1 H1 g1 d => by
  obtain ⟨a, xs, rfl, hs, hd⟩ := dp_lst d
  rw [dpa_bls_eq hd] at hs
  exact ⟨a, bs, rfl, Evl.ex_l g1.ok hs, k _ G1 H1 g1 ⟨_, rfl, rfl⟩⟩
theorem ex_count {ns : List Int} {z : Int} {a : Addr} (ha : EF ta σ G (XV (.ref a))) (hs : SqL K G a (ns.map V.int)) (hz : EF tb σ G (XV (.int z))) : EF (tBM K "list" (rCntI K) ta (tCons tb tNil)) σ G (XV (.int (ns.count z : Nat))) := fun H e Q k => ha H e _ fun v G1 H1 g1 p1 => by
  cases (show v = _ from p1)
  refine ⟨.inl ⟨rfl, _, Evl.ex_l (g1.up.trans g1.ok) hs⟩, hz H1 (g1.up.trans g1.ok) _ fun u G2 H2 g2 p2 => ?_⟩
  cases (show u = _ from p2)
  exact ⟨a, ns, z, rfl, rfl, Evl.ex_l (g2.up.trans g2.ok) hs, k _ G2 H2 ((Gr.same e g1.hp).trans g2) rfl⟩
theorem ex_lenSet {ns : List Int} (h : EF ta σ G (DV K (dI ns))) (hl : ns.length ≤ 4000) : EF (tLenSetD K ta) σ G (XV (.int (metN ns : Nat))) := fun H e Q k => h H e _ fun v G1 H1 g1 d => by
  obtain ⟨a, xs, rfl, hs, hd⟩ := dp_lst d
  rw [dpa_ints_eq hd] at hs
  exact ⟨a, ns, rfl, Evl.ex_l g1.ok hs, hl, k _ G1 H1 g1 rfl⟩
/-- an int that is read, whatever else the heap holds -/
def EH (te : TE) (σ : L2.St) (H1 : Hp) (p : Int → Prop) : Prop := ∀ H2, Ex H1 H2 → ∀ Q : VK, (∀ z H3, Ex H2 H3 → p z → Q (.int z) H3) → te σ H2 Q
theorem EF.eh {p : Int → Prop} (h : EF te σ G (IV p)) (e : Ex G H1) : EH te σ H1 p := fun H2 e2 Q q => h H2 (e.trans e2) Q fun v G' H' g ⟨z, ez, pz⟩ => by rw [ez]; exact q z H' g.hp pz
/-- a new list of ints as it stands now -/
structure OX (G H : Hp) (q : Addr) (b : Nat) (H1 Gk : Hp) (ls : List Int) : Prop where
  g : Gr G Gk H H1
  kq : Gk q = none
  hq : H1 q = some (.lst (ls.map V.int))
  len : ls.length ≤ b
def OW (G H : Hp) (q : Addr) (b : Nat) (H1 : Hp) : Prop := ∃ Gk ls, OX G H q b H1 Gk ls
theorem OW.up (h : OW G H q b H1) (e : Ex H1 H2) : OW G H q b H2 := by
  obtain ⟨Gk, ls, h⟩ := h
  exact ⟨Gk, ls, h.g.then e, h.kq, e _ _ h.hq, h.len⟩
theorem OW.wide {b' : Nat} (h : OW G H q b H1) (e : b ≤ b') : OW G H q b' H1 := by
  obtain ⟨Gk, ls, h⟩ := h
  exact ⟨Gk, ls, h.g, h.kq, h.hq, Nat.le_trans h.len e⟩
theorem OX.ex {ls : List Int} (h : OX G H q b H1 Gk ls) : Ex (upd Gk q (.lst (ls.map V.int))) H1 := ex_know h.g.ok h.hq
theorem st_ins1 {i : Nat} {p : Int → Prop} (fr : H q = none) (h : OW G H q b H1) (hb : b < 900) (ho : σ[i]? = some (some (.ref q))) (hi : ∀ Gk ls, OX G H q b H1 Gk ls → EH ti σ H1 fun z => 0 ≤ z ∧ z < 100000) (hv : ∀ Gk ls, OX G H q b H1 Gk ls → EH te σ H1 p)
    (k : ∀ H2, OW G H q (b + 1) H2 → D.nx σ H2) : tDrop (tBM K "list" rIns (tVar i) (tCons ti (tCons te tNil))) D σ H1 := by
  obtain ⟨Gk, ls, h⟩ := h
  refine ⟨.ref q, ho, .inl ⟨rfl, _, Evl.sq_of h.hq⟩, hi Gk ls h H1 (Ex.refl _) _ fun z H2 e2 hz => hv Gk ls h H2 e2 _ fun y H3 e3 _ => ?_⟩
  have e13 := e2.trans e3
  have hl := h.len
  refine ⟨q, ls.map V.int, z, .int y, rfl, rfl, e13 _ _ h.hq, Nat.lt_of_le_of_lt (m := 900) (by rw [List.length_map]; omega) (by decide), hz.1, by omega, ?_⟩
  refine k _ ⟨Gk, ls.take z.toNat ++ [y] ++ ls.drop z.toNat, (h.g.then e13).put fr h.kq, h.kq, ?_, ?_⟩
  · rw [upd_same, List.map_append, List.map_append, List.map_take, List.map_drop]
    rfl
  · simp only [List.length_append, List.length_take, List.length_drop, List.length_singleton]
    omega
/-- the list's own facts, once it is handed on -/
theorem OW.know (hG : Ex G H) (fr : H q = none) (h : OW G H q b H1) : ∃ (G' : Hp) (ls : List Int), Gr G G' H H1 ∧ G' q = some (.lst (ls.map V.int)) ∧ ls.length ≤ b := by
  obtain ⟨Gk, ls, h⟩ := h
  exact ⟨_, ls, h.g.know hG fr h.hq, upd_same, h.len⟩
/-- two for's over a list of lists -/
theorem ef_lc2L {j j1 : Nat} {vs vs1 : List Nat} (xs0 : List V) (ys : Nat → List V) (I : Nat → Nat → List V → Hp → Prop) (h : EF tl0 σ G fun v G' => ∃ a, v = .ref a ∧ SqL K G' a xs0)
    (hw : ∀ x, wipe ((wipe σ vs).set j (some x)) vs = wipe σ vs) (hw1 : ∀ x y, wipe ((wipe ((wipe σ vs).set j (some x)) vs1).set j1 (some y)) vs1 = wipe ((wipe σ vs).set j (some x)) vs1) (h0 : ∀ G', Ex G G' → I 0 0 [] G')
    (hx : ∀ (i : Nat) xs G', i < xs0.length → I i (ys i).length xs G' → I (i + 1) 0 xs G')
    (hl : ∀ (i : Nat) x G', Ex G G' → xs0[i]? = some x → EF tl ((wipe σ vs).set j (some x)) G' fun v G'' => ∃ a, v = .ref a ∧ SqL K G'' a (ys i))
    (hm : ∀ i k xs G' G'', Ex G' G'' → I i k xs G' → I i k xs G'')
    (hs : ∀ (i k : Nat) x y xs G', Ex G G' → xs0[i]? = some x → (ys i)[k]? = some y → I i k xs G' → EF te ((wipe ((wipe σ vs).set j (some x)) vs1).set j1 (some y)) G' fun y G' => I i (k + 1) (xs ++ [y]) G')
    (hc : ∀ i k xs G', I i k xs G' → xs.length ≤ 1000000)
    (hP : ∀ p xs G', G p = none → G' p = none → Ex G G' → I xs0.length 0 xs G' → P (.ref p) (upd G' p (.lst xs))) : EF (tLc2 (iList K tl0) (gName j) tYes (iList K tl) (gName j1) tYes te vs vs1) σ G P := fun H0 e Q q => h H0 e _ fun v G1 H1 g1 ⟨a0, ev, hs0⟩ => by
  refine ⟨a0, ev, ⟨xs0, Evl.ex_l g1.ok hs0⟩, fun Dl hD => ?_⟩
  refine ⟨fun i m H' => m = xs0.length - i ∧ i ≤ xs0.length ∧ CX2 G1 H1 Dl (I i 0) H', ⟨xs0.length, by simp, Nat.zero_le _, ?_⟩, ?_⟩
  · exact ⟨G1, [], Ex.refl _, ex_off g1.ok (none_back g1.ok hD), none_back g1.ok hD, upd_same, h0 G1 g1.up, Ex.new hD, fun _ _ h => h⟩
  · rintro i m H' ⟨rfl, hi, p⟩
    obtain ⟨G', xs, e1, e2, gD, hd, hI, e3, hcc⟩ := p
    have hs1 := Evl.ex_l (e1.trans e2) hs0
    by_cases hlt : i < xs0.length
    · refine .inr ⟨⟨xs0, xs0[i], hs1, by simp [hlt]⟩, fun H'' => CX2 G1 H1 Dl (I (i + 1) 0) H'', fun H'' p' => ⟨xs0.length - (i + 1), by omega, rfl, hlt, p'⟩, fun x H'' yy => ?_⟩
      obtain ⟨ey, yy⟩ := yy
      subst ey
      have hxi := yy xs0 hs1
      refine ⟨hw _, tyes_go (iteT ?_)⟩
      refine hl i x G' (g1.up.trans e1) hxi _ e2 _ fun v G2 H2 g2 ⟨a, ea, hsl⟩ => ?_
      refine ⟨a, ea, ⟨ys i, Evl.ex_l g2.ok hsl⟩, fun k m H' => m = (ys i).length - k ∧ k ≤ (ys i).length ∧ CX2 G1 H1 Dl (fun xs G3 => Ex G2 G3 ∧ I i k xs G3) H', ⟨(ys i).length, by simp, Nat.zero_le _, ?_⟩, ?_⟩
      · exact ⟨G2, xs, e1.trans g2.up, g2.ok, g2.2.2.2 Dl (ne_none_of hd) gD, g2.hp _ _ hd, ⟨Ex.refl _, hm _ _ _ _ _ g2.up hI⟩, e3.trans g2.hp, fun b hb gb => g2.2.2.2 b (exNe e3 hb) (hcc b hb gb)⟩
      · rintro k m H3 ⟨rfl, hk, p3⟩
        obtain ⟨G4, xs4, f1, f2, fD, fd, ⟨fe, fI⟩, f3, fc⟩ := p3
        have hsl3 := Evl.ex_l (fe.trans f2) hsl
        by_cases hkl : k < (ys i).length
        · refine .inr ⟨⟨ys i, (ys i)[k], hsl3, by simp [hkl]⟩, fun H'' => CX2 G1 H1 Dl (fun xs G3 => Ex G2 G3 ∧ I i (k + 1) xs G3) H'', fun H'' p' => ⟨(ys i).length - (k + 1), by omega, rfl, hkl, p'⟩, fun y H'' yy => ?_⟩
          obtain ⟨ey, yy⟩ := yy
          subst ey
          have hyk := yy (ys i) hsl3
          refine ⟨hw1 _ _, ?_⟩
          refine tyes_go (iteT ?_)
          refine hs i k x y xs4 G4 (g1.up.trans f1) hxi hyk fI _ f2 _ fun v5 G5 H5 g5 p5 => ?_
          have g5D : G5 Dl = none := g5.2.2.2 Dl (ne_none_of fd) fD
          exact ⟨xs4, g5.hp _ _ fd, Nat.lt_of_le_of_lt (hc _ _ _ _ fI) (by decide), ⟨G5, xs4 ++ [v5], f1.trans g5.up, ex_off g5.ok g5D, g5D, upd_same, ⟨fe.trans g5.up, p5⟩, ex_off (f3.trans g5.hp) hD, fun b hb gb => g5.2.2.2 b (exNe f3 hb) (fc b hb gb)⟩⟩
        · have ek : k = (ys i).length := by omega
          subst ek
          exact .inl ⟨⟨ys i, hsl3, Nat.le_refl _⟩, G4, xs4, f1, f2, fD, fd, hx _ _ _ hlt fI, f3, fc⟩
    · have ei : i = xs0.length := by omega
      subst ei
      refine .inl ⟨⟨xs0, hs1, Nat.le_refl _⟩, ?_⟩
      refine q _ (upd G' Dl (.lst xs)) H' (g1.trans ⟨e1.trans (ex_in gD), ex_know e2 hd, e3, fun a h g => ?_⟩) (hP Dl xs G' (none_back (g1.up.trans g1.ok) hD) gD (g1.up.trans e1) hI)
      rw [upd_ne (fun z => h (by rw [z]; exact hD))]
      exact hcc a h g
end
/-- a list that grows: its data -/
def DSt (K : PySem.W.Frag) (G H H' : Hp) (q : Addr) (L : List PyData) : Prop := ∃ G' vs, Gr G G' H H' ∧ G' q = none ∧ H' q = some (.lst vs) ∧ DpAll K G' vs L
theorem DSt.ok {K : PySem.W.Frag} {G H H1 : Hp} {q : Addr} {L : List PyData} (h : DSt K G H H1 q L) : Ex G H1 := by
  obtain ⟨G', vs, g, _⟩ := h
  exact g.up.trans g.ok
theorem DSt.up {K : PySem.W.Frag} {G H H1 H2 : Hp} {q : Addr} {L : List PyData} (h : DSt K G H H1 q L) (e : Ex H1 H2) : DSt K G H H2 q L := by
  obtain ⟨G', vs, g, gq, hq, hd⟩ := h
  exact ⟨G', vs, g.then e, gq, e _ _ hq, hd⟩
section
variable {K : PySem.W.Frag}
theorem st_dapp {σ : L2.St} {G H H1 : Hp} {D : Ends} {te : TE} {q : Addr} {L : List PyData} {x : PyData} {i : Nat} (hqH : H q = none) (hR : DSt K G H H1 q L) (hz : L.length < 1000) (ho : σ[i]? = some (some (.ref q))) (h : ∀ G', Ex G G' → EF te σ G' fun v G2 => Dp K G2 v x) (k : ∀ H2, DSt K G H H2 q (L ++ [x]) → D.nx σ H2) : tDrop (tBM K "list" rAppend (tVar i) (tCons te tNil)) D σ H1 := by
  obtain ⟨G', vs, g, gq, hq, hd⟩ := hR
  refine st_app (P := fun v G2 => Dp K G2 v x) g.ok hq (ex_var ho) (h G' g.up) (by rw [dpa_len hd]; exact hz) fun v Gb Hb gb pv => k _ ?_
  have gbq : Gb q = none := gb.2.2.2 q (ne_none_of hq) gq
  exact ⟨Gb, vs ++ [v], (g.trans gb).put hqH gbq, gbq, upd_same, dpa_snoc (dpax hd gb.up) pv⟩
end
end Lw

set_option Elab.async false
set_option linter.all false
set_option maxRecDepth 100000
set_option maxHeartbeats 4000000
/-! what can be reached; layouts that are good -/
namespace Lw
open PySem L2
open Evl (Ex)
def inR (js : List (Int × Int)) (heads shut prev : List Int) (b : Int) : Bool := (decide (b ∈ heads) || (wo js b).any fun w => decide (w ∈ prev)) && !decide (b ∈ shut)
def rchN (js : List (Int × Int)) (heads shut : List Int) : Nat → List Int
  | 0 => []
  | i + 1 => rchN js heads shut i ++ (if inR js heads shut (rchN js heads shut i) (i : Int) = true then [(i : Int)] else [])
theorem rch_lt (js : List (Int × Int)) (heads shut : List Int) : ∀ i, ∀ b ∈ rchN js heads shut i, 0 ≤ b ∧ b < (i : Int)
  | 0, b, m => nomatch m
  | i + 1, b, m => by
    unfold rchN at m
    rcases List.mem_append.mp m with m | m
    · have := rch_lt js heads shut i b m; omega
    · split at m
      · have := List.mem_singleton.mp m; omega
      · exact nomatch m
theorem rch_len (js : List (Int × Int)) (heads shut : List Int) : ∀ i, (rchN js heads shut i).length ≤ i
  | 0 => Nat.le_refl _
  | i + 1 => by
    unfold rchN
    have := rch_len js heads shut i
    rw [List.length_append]
    split <;> simp <;> omega
def cutR (n : Nat) (js : List (Int × Int)) (hs es sh : List Int) : Bool := !(es.any fun g => decide (g ∈ rchN js hs sh n))
def cutD (n : Nat) (js : List (Int × Int)) (hs es sh : List Int) : PyData := match badB (n : Int) (hs ++ es ++ sh) with
  | some b => errD "NoBlock" b true true false
  | none => .tuple [.str "told", .bool (cutR n js hs es sh)]
theorem badB_app (n : Int) (a b : List Int) : badB n (a ++ b) = (badB n a).or (badB n b) := by
  unfold badB
  rw [List.find?_append]
theorem marks_set {n i : Nat} {R : List Int} {v : Bool} (hi : i < n) (hR : ∀ b ∈ R, b < (i : Int)) : (marksOf n R).set i v = marksOf n (R ++ (if v = true then [(i : Int)] else [])) := by
  apply List.ext_getElem?
  intro k
  rw [List.getElem?_set]
  by_cases hk : k < n
  · rw [marks_at hk]
    by_cases e : i = k
    · subst e
      rw [if_pos rfl, if_pos (by rw [marks_len]; exact hi)]
      have hn : (i : Int) ∉ R := fun m => by have := hR _ m; omega
      cases v <;> simp [hn, marks_at hk]
    · rw [if_neg e, marks_at hk]
      have e2 : ¬ (k : Int) = (i : Int) := by omega
      cases v <;> simp [e2, marks_at hk]
  · by_cases e : i = k
    · omega
    · rw [if_neg e, List.getElem?_eq_none (by rw [marks_len]; omega), List.getElem?_eq_none (by rw [marks_len]; omega)]
theorem marks_nil (n : Nat) : marksOf n [] = List.replicate n false := by
  unfold marksOf
  apply List.ext_getElem
  · simp
  · intro k h1 h2
    simp
theorem marks_rch {n i : Nat} {js : List (Int × Int)} {hs sh : List Int} (hi : i < n) : (marksOf n (rchN js hs sh i)).set i (inR js hs sh (rchN js hs sh i) (i : Int)) = marksOf n (rchN js hs sh (i + 1)) := marks_set hi fun b m => (rch_lt _ _ _ _ b m).2
theorem jbad_of {n : Int} {parks : List Int} {js : List (Int × Int)} {p : Int × Int} (h : JNew n parks js p.1 p.2) : jbad n parks js p = .ok := by
  have h1 := h.lo
  have h2 := h.lt
  have h3 := h.hi
  unfold jbad
  rw [if_neg (fun z => z ⟨h1, by omega⟩), if_neg (fun z => z ⟨by omega, h3⟩), if_neg (fun z => z.elim (fun y => by omega) h.new), if_neg (fun z => h.ew z.1 z.2), if_neg (fun z => h.we z.1 z.2)]
theorem jver_of {n : Int} {parks : List Int} : ∀ {r js : List (Int × Int)}, JOk n parks (js ++ r) → jver n parks js r = .ok
  | [], js, _ => rfl
  | p :: r, js, h => by
    have hn : JNew n parks ((js ++ p :: r).take js.length) p.1 p.2 := h.at (i := js.length) (by simp)
    rw [List.take_left] at hn
    show (match jbad n parks js p with | .ok => jver n parks (js ++ [p]) r | v => v) = .ok
    rw [jbad_of hn]
    exact jver_of (r := r) (js := js ++ [p]) (by rw [List.append_assoc]; exact h)
theorem ver_of {lens parks : List Int} {js : List (Int × Int)} (h1 : ∀ z ∈ lens, 1 ≤ z) (h2 : ∀ b ∈ parks, 0 ≤ b ∧ b < (lens.length : Int)) (h3 : JOk (lens.length : Int) parks js) : ver lens parks js = .ok := by
  unfold ver
  rw [find_no (fun x m => by have := h1 x m; exact decide_eq_false (by omega)), badB_none h2]
  exact jver_of (js := []) h3
section
variable {K : PySem.W.Frag} {σ : L2.St} {G H : Hp} {C : Addr} {cc : CCs}
theorem ef_makeY {E : XK} {t tk : TA} {lens : List Int} {js : List (Int × Int)} {parks : List Int} (h : EA t σ G fun vs G' => ∃ a1 a2, vs = [.ref a1, .ref a2] ∧ Dp K G' (.ref a1) (dI lens) ∧ Dp K G' (.ref a2) (dPs js)) (hk : EA tk σ G fun zs G' => ∃ a3, zs = [.ref a3] ∧ YdAt K G' a3 parks)
    (n2 : lens.length ≤ 200) (hl : ∀ z ∈ lens, 1 ≤ z) (hp : ∀ b ∈ parks, 0 ≤ b ∧ b < (lens.length : Int)) (hJ : JOk (lens.length : Int) parks js) (hj : js.length ≤ 900) :
    EF (tMakeK C 2 1 (spInitY K C cc) (fun vs zs => vs ++ zs) E t tk) σ G fun v G' => ∃ x, v = .ref x ∧ LayL K C G' x lens parks js := fun H e Q q =>
  h H e _ fun vs G1 H1 g1 ⟨a1, a2, ev, d1, d2⟩ => hk H1 (g1.up.trans g1.ok) _ fun zs G2 H2 g2 ⟨a3, ez, d3⟩ => by
    obtain ⟨G3, f1, f2, g3⟩ := g1.join g2
    subst ev ez
    have hv := ver_of hl hp hJ
    refine ⟨rfl, rfl, fun x dx hx hdx hne => ?_⟩
    have ex2 : Ex H2 (outH (upd (upd H2 dx (.own x)) x (.ins C dx [])) x) := fun a o ha => by
      rw [out_ne (ne_of_none ha hx), upd_ne (ne_of_none ha hx), upd_ne (ne_of_none ha hdx)]
      exact ha
    refine ⟨G3, x, dx, lens, js, parks, a1, a2, a3, rfl, g3.ok.trans (ex2.trans out_ex), none_back g3.ok hx, upd_same, dpx d1 f1, dpx d2 f1, d3.ex f2, n2, hj, by rw [hv]; trivial, fun _ G' H' g hL => ⟨rfl, ?_⟩⟩
    exact q _ G' H' (g3.trans (g.low ex2)) ⟨x, rfl, hL⟩
theorem ef_makeN {E : XK} {t : TA} {lens : List Int} {js : List (Int × Int)} {aY : Addr} (hY : ∀ G, SqT K G aY []) (h : EA t σ G fun vs G' => ∃ a1 a2, vs = [.ref a1, .ref a2] ∧ Dp K G' (.ref a1) (dI lens) ∧ Dp K G' (.ref a2) (dPs js))
    (n2 : lens.length ≤ 200) (hl : ∀ z ∈ lens, 1 ≤ z) (hJ : JOk (lens.length : Int) [] js) (hj : js.length ≤ 900) :
    EF (tMake C (spInitY K C cc) [.ref aY] E t) σ G fun v G' => ∃ x, v = .ref x ∧ LayL K C G' x lens [] js := fun H e Q q =>
  h H e _ fun vs G1 H1 g1 ⟨a1, a2, ev, d1, d2⟩ => by
    subst ev
    have hv := ver_of (parks := []) hl (fun b m => nomatch m) hJ
    intro x dx hx hdx hne
    have ex2 : Ex H1 (outH (upd (upd H1 dx (.own x)) x (.ins C dx [])) x) := fun a o ha => by
      rw [out_ne (ne_of_none ha hx), upd_ne (ne_of_none ha hx), upd_ne (ne_of_none ha hdx)]
      exact ha
    refine ⟨G1, x, dx, lens, js, [], a1, a2, aY, rfl, g1.ok.trans (ex2.trans out_ex), none_back g1.ok hx, upd_same, d1, d2, .inr (hY _), n2, hj, by rw [hv]; trivial, fun _ G' H' g hL => ⟨rfl, ?_⟩⟩
    exact q _ G' H' (g1.trans (g.low ex2)) ⟨x, rfl, hL⟩
end
def skipJ (m : Nat) : List (Int × Int) := (List.range m).map fun b : Nat => ((b : Int), (b : Int) + 2)
theorem skipJ_succ (m : Nat) : skipJ (m + 1) = skipJ m ++ [((m : Int), (m : Int) + 2)] := by
  unfold skipJ
  rw [List.range_succ, List.map_append]; rfl
theorem skipJ_len (m : Nat) : (skipJ m).length = m := by unfold skipJ; rw [List.length_map, List.length_range]
theorem mem_skipJ {m : Nat} {a b : Int} : (a, b) ∈ skipJ m ↔ 0 ≤ a ∧ a < (m : Int) ∧ b = a + 2 := by
  unfold skipJ
  rw [List.mem_map]
  refine ⟨fun ⟨k, hk, e⟩ => ?_, fun ⟨h0, h1, h2⟩ => ⟨a.toNat, List.mem_range.mpr (by omega), ?_⟩⟩
  · have hk := List.mem_range.mp hk
    obtain ⟨rfl, rfl⟩ := Prod.mk.inj e
    exact ⟨by omega, by omega, rfl⟩
  · have : ((a.toNat : Nat) : Int) = a := by omega
    rw [this, h2]
theorem mem_lineJ {m : Nat} {a b : Int} : (a, b) ∈ lineJ m ↔ 0 ≤ a ∧ a < (m : Int) ∧ b = a + 1 := by
  unfold lineJ
  rw [List.mem_map]
  refine ⟨fun ⟨k, hk, e⟩ => ?_, fun ⟨h0, h1, h2⟩ => ⟨a.toNat, List.mem_range.mpr (by omega), ?_⟩⟩
  · have hk := List.mem_range.mp hk
    obtain ⟨rfl, rfl⟩ := Prod.mk.inj e
    exact ⟨by omega, by omega, rfl⟩
  · have : ((a.toNat : Nat) : Int) = a := by omega
    rw [this, h2]
theorem one_le {l : List Int} {c : Int} (hn : l.Nodup) (h : ∀ x ∈ l, x = c) : l.length ≤ 1 := by
  cases l with
  | nil => simp
  | cons x r =>
    cases r with
    | nil => simp
    | cons y r =>
      have e1 := h x (by simp)
      have e2 := h y (by simp)
      rw [List.nodup_cons] at hn
      exact absurd (by rw [e1, e2]; simp) hn.1
theorem eo_app (a b : List (Int × Int)) (z : Int) : eo (a ++ b) z = eo a z ++ eo b z := by simp [eo, List.filter_append]
theorem wo_app (a b : List (Int × Int)) (z : Int) : wo (a ++ b) z = wo a z ++ wo b z := by simp [wo, List.filter_append]
/-- the long layout's joints -/
def longJ (n : Nat) : List (Int × Int) := lineJ (n - 1) ++ skipJ (n - 2)
theorem long_ok (n : Nat) (parks : List Int) : JOk (n : Int) parks (longJ n) := by
  unfold longJ
  by_cases h2 : n = 0
  · subst h2
    exact .nil
  have hl : JOk (n : Int) parks (lineJ (n - 1)) := lineJ_ok _ _ _ (by omega)
  have all : ∀ m, m ≤ n - 2 → JOk (n : Int) parks (lineJ (n - 1) ++ skipJ m) := fun m => by
    induction m with
    | zero => intro _; rw [show skipJ 0 = [] from rfl, List.append_nil]; exact hl
    | succ m ih =>
      intro hm
      rw [skipJ_succ, ← List.append_assoc]
      have nd := fun b => jok_nd hl b
      refine .snoc (ih (by omega)) ⟨by omega, by omega, by omega, fun z => ?_, fun _ z => ?_, fun _ z => ?_⟩
      · rcases List.mem_append.mp z with z | z
        · have := mem_lineJ.mp z; omega
        · have := mem_skipJ.mp z; omega
      · rw [eo_app, List.length_append] at z
        have a1 : (eo (lineJ (n - 1)) (m : Int)).length ≤ 1 := one_le (c := (m : Int) + 1) (nd _).1 fun x hx => by have := mem_lineJ.mp (mem_eo.mp hx); omega
        have a2 : eo (skipJ m) (m : Int) = [] := List.eq_nil_iff_forall_not_mem.mpr fun x hx => by have := mem_skipJ.mp (mem_eo.mp hx); omega
        rw [a2] at z
        simp at z
        omega
      · rw [wo_app, List.length_append] at z
        have a1 : (wo (lineJ (n - 1)) ((m : Int) + 2)).length ≤ 1 := one_le (c := (m : Int) + 1) (nd _).2.1 fun x hx => by have := mem_lineJ.mp (mem_wo.mp hx); omega
        have a2 : wo (skipJ m) ((m : Int) + 2) = [] := List.eq_nil_iff_forall_not_mem.mpr fun x hx => by have := mem_skipJ.mp (mem_wo.mp hx); omega
        rw [a2] at z
        simp at z
        omega
  exact all _ (Nat.le_refl _)
theorem mem_longJ {n : Nat} {a b : Int} : (a, b) ∈ longJ n ↔ 0 ≤ a ∧ ((a < ((n - 1 : Nat) : Int) ∧ b = a + 1) ∨ (a < ((n - 2 : Nat) : Int) ∧ b = a + 2)) := by
  unfold longJ
  rw [List.mem_append, mem_lineJ, mem_skipJ]
  omega
theorem long_cut {n : Nat} {c : Int} (h0 : 1 ≤ c) (h1 : c + 1 < (n : Int) - 1) : cutR n (longJ n) [0] [(n : Int) - 1] [c, c + 1] = true := by
  have all : ∀ i, ∀ b ∈ rchN (longJ n) [0] [c, c + 1] i, b < c := fun i => by
    induction i with
    | zero => exact fun b m => nomatch m
    | succ i ih =>
      intro b m
      unfold rchN at m
      rcases List.mem_append.mp m with m | m
      · exact ih b m
      · split at m
        · rename_i hh
          have e := List.mem_singleton.mp m
          subst e
          unfold inR at hh
          simp only [Bool.and_eq_true, Bool.or_eq_true, decide_eq_true_eq, List.any_eq_true, Bool.not_eq_true', decide_eq_false_iff_not, List.mem_cons, List.not_mem_nil, or_false] at hh
          obtain ⟨h2, h3⟩ := hh
          rcases h2 with h2 | ⟨w, hw, hp⟩
          · omega
          · have := ih w hp
            have hj := mem_longJ.mp (mem_wo.mp hw)
            omega
        · exact nomatch m
  unfold cutR
  have hn : ((n : Int) - 1) ∉ rchN (longJ n) [0] [c, c + 1] n := fun m => by have := all n _ m; omega
  simp [hn]
theorem long_open {n : Nat} {c : Int} (h0 : 1 ≤ c) (h1 : c < (n : Int) - 1) : cutR n (longJ n) [0] [(n : Int) - 1] [c] = false := by
  have all : ∀ i, i ≤ n → ∀ b, 0 ≤ b → b < (i : Int) → b ≠ c → b ∈ rchN (longJ n) [0] [c] i := fun i => by
    induction i with
    | zero => exact fun _ b h1 h2 => by omega
    | succ i ih =>
      intro hi b hb0 hb1 hc
      unfold rchN
      by_cases e : b = (i : Int)
      · refine List.mem_append.mpr (.inr ?_)
        have hh : inR (longJ n) [0] [c] (rchN (longJ n) [0] [c] i) (i : Int) = true := by
          unfold inR
          simp only [Bool.and_eq_true, Bool.or_eq_true, decide_eq_true_eq, List.any_eq_true, Bool.not_eq_true', decide_eq_false_iff_not, List.mem_cons, List.not_mem_nil, or_false]
          refine ⟨?_, by omega⟩
          by_cases i0 : i = 0
          · exact .inl (by omega)
          · right
            by_cases ec : (i : Int) - 1 = c
            · exact ⟨(i : Int) - 2, mem_wo.mpr (mem_longJ.mpr (by omega)), ih (by omega) _ (by omega) (by omega) (by omega)⟩
            · exact ⟨(i : Int) - 1, mem_wo.mpr (mem_longJ.mpr (by omega)), ih (by omega) _ (by omega) (by omega) (by omega)⟩
        rw [if_pos hh, e]
        simp
      · exact List.mem_append.mpr (.inl (ih (by omega) b hb0 (by omega) hc))
  have hn : ((n : Int) - 1) ∈ rchN (longJ n) [0] [c] n := all n (Nat.le_refl _) _ (by omega) (by omega) (by omega)
  unfold cutR
  simp [hn]
end Lw

set_option Elab.async false
set_option linter.all false
set_option maxRecDepth 100000
set_option maxHeartbeats 4000000
/-! == by an own __eq__ that may say no -/
namespace Lw
open PySem PySem.Spec L2
open Evl (Ex)
/-- the type of the other side -/
inductive OTy (H : Hp) : V → Value → Prop where
  | non : OTy H .non (.type "NoneType")
  | bl (b : Bool) : OTy H (.bl b) (.type "bool")
  | int (i : Int) : OTy H (.int i) (.type "int")
  | str (x : Str) : OTy H (.str x) (.type "str")
  | lst {a : Addr} {xs : List V} (e : H a = some (.lst xs)) : OTy H (.ref a) (.type "list")
  | tup {a : Addr} {xs : List V} (e : H a = some (.tup xs)) : OTy H (.ref a) (.type "tuple")
  | ins {a C dx : Addr} {fs : List (Str × V)} (e : H a = some (.ins C dx fs)) : OTy H (.ref a) (.ref C)
def rEqOwn (K : PySem.W.Frag) (C : Addr) (sp : Sp) (E : XK) : R2 := fun x y H Q => ∃ a dx fs t, x = .ref a ∧ H a = some (.ins C dx fs) ∧ OTy H y t ∧ PySem.W.notFirst K C t = true ∧ sp [.ref a, y] H (fun v H2 => ∃ b, v = .bl b ∧ Q (.bl b) H2) E
section
variable {X : Cx} {CX : CXT} {k : Nat} {f C : Addr} {fd : FuncData} {ps : List Str} {sp : Sp} {E : XK}
theorem oty_looks {pins : List (Addr × Obj)} {σ : L2.St} {H : Hp} {s : Shared} {x : V} {u t : Value} (I : Inv X pins σ H s) (rx : RelV x u) (ty : OTy H x t) : PySem.W.Looks (model X.prog X.w) s.heap (typeOf u) t := by
  cases ty with
  | non => cases (show u = Value.none from rx); exact PySem.W.Looks.of_pure rfl
  | bl b => cases (show u = Value.bool b from rx); exact PySem.W.Looks.of_pure rfl
  | int i => obtain ⟨t, q⟩ := (show ∃ t, u = Value.int i t from rx); cases q; exact PySem.W.Looks.of_pure rfl
  | str y => obtain ⟨t, q⟩ := (show ∃ t, u = Value.str y t from rx); cases q; exact PySem.W.Looks.of_pure rfl
  | @lst a xs e =>
    cases (show u = Value.ref a from rx)
    obtain ⟨_, _, n, _, h1⟩ := (show ObjOk X.prog X.w H s.heap a (.lst xs) from I.hok a _ e)
    exact (PySem.W.Looks.ld h1).andThen .now
  | @tup a xs e =>
    cases (show u = Value.ref a from rx)
    obtain ⟨_, _, _, o, h1, h2, _⟩ := (show ObjOk X.prog X.w H s.heap a (.tup xs) from I.hok a _ e)
    exact h2 ▸ (PySem.W.Looks.ld h1).andThen .now
  | @ins a C dx fs e =>
    cases (show u = Value.ref a from rx)
    obtain ⟨m, J, _⟩ := ins_get I.hok e
    obtain ⟨od, J, _⟩ := J.look
    exact J.type
theorem op_eqOwn (hs : PySem.W.findIn X.K (.ref C) "__eq__" = some (some (.ref f))) (hf : PySem.W.isFn X.K (.ref f) = true) (F : FnOk X.prog X.w X.K X.mg X.base CX k f fd ps sp) (hr : Room k X.A) (hb : Binds X.K fd ps []) (hx : Passes CX X E) : OpR X (compareOp .Eq) (rEqOwn X.K C sp E) := by
  intro pins s σ H x y v u Q I rx ry h
  obtain ⟨a, dx, fs, t, rfl, ha, ty, hn, hsp⟩ := h
  cases rx
  show wpAny (model X.prog X.w) X.A (richCompare .Eq (.ref a) u) (EP X pins σ Q) X.xe s
  have lk := oty_looks I ry ty
  obtain ⟨mA, J, _⟩ := ins_get I.hok ha
  obtain ⟨od, J, _⟩ := J.look
  obtain ⟨m, hF⟩ := I.fr
  refine PySem.W.cmp_K (op := .Eq) (tb := t) hr.units0 hF I.ok.mod.kin J lk hn hs hf ?_
  have hl := F.len _ _ _ _ hsp
  have r2 : Vals [V.ref a, y] [Value.ref a, u] := .cons rfl (.cons ry .nil)
  refine wpAny_call (codeAny_mono (F.run X.A X.stack s H ⟨[.ref a, u], []⟩ [.ref a, u] [.ref a, y] _ E hr I.env0 (by
    have := hb s [.ref a, u] I.kIn (by simpa using hl)
    simpa using this) r2 hsp) fun r s' hq => ?_)
  cases r with
  | error e => exact hx pins σ H s e s' I hq
  | ok fl =>
    cases fl with
    | ret w =>
      obtain ⟨z, H', I', rz, b, ez, q⟩ := I.after hq
      subst ez
      cases rz
      exact ⟨.bl b, H', I', rfl, q⟩
    | next => exact False.elim hq
    | brk => exact False.elim hq
    | cont => exact False.elim hq
end
/-- lists of ints, in order, are one list -/
theorem int_uniq : ∀ {l m : List Int}, l.Perm m → l.Pairwise (· ≤ ·) → m.Pairwise (· ≤ ·) → l = m
  | [], m, h, _, _ => by simpa using h.symm
  | x :: l, [], h, _, _ => by simpa using h
  | x :: l, y :: m, h, hl, hm => by
    have e : x = y := by
      have h1 : y ∈ x :: l := h.mem_iff.mpr (by simp)
      have h2 : x ∈ y :: m := h.mem_iff.mp (by simp)
      rcases List.mem_cons.mp h1 with h1 | h1
      · exact h1.symm
      rcases List.mem_cons.mp h2 with h2 | h2
      · exact h2
      have a1 := (List.pairwise_cons.mp hl).1 y h1
      have a2 := (List.pairwise_cons.mp hm).1 x h2
      omega
    subst e
    rw [int_uniq (List.perm_cons x |>.mp h) (List.pairwise_cons.mp hl).2 (List.pairwise_cons.mp hm).2]
def srtI (l : List Int) : List Int := l.mergeSort fun a b => decide (a ≤ b)
theorem srtI_perm (l : List Int) : (srtI l).Perm l := List.mergeSort_perm l _
theorem srtI_sorted (l : List Int) : (srtI l).Pairwise (· ≤ ·) := by
  have := List.pairwise_mergeSort (le := fun a b : Int => decide (a ≤ b)) (fun a b c h1 h2 => by simp at *; omega) (fun a b => by simp; omega) l
  exact this.imp fun h => by simpa using h
theorem srtI_of {l m : List Int} (h : l.Perm m) (hs : l.Pairwise (· ≤ ·)) : l = srtI m := int_uniq (h.trans (srtI_perm m).symm) hs (srtI_sorted m)
theorem srtI_congr {l m : List Int} (h : l.Perm m) : srtI l = srtI m := srtI_of ((srtI_perm l).trans h) (srtI_sorted l)
/-- joints in any order -/
theorem jok_perm {n : Int} {parks : List Int} {js ks : List (Int × Int)} (h : JOk n parks js) (p : ks.Perm js) : JOk n parks ks := by
  have nd := jok_nd h
  have all : ∀ i, i ≤ ks.length → JOk n parks (ks.take i) := fun i => by
    induction i with
    | zero => exact fun _ => .nil
    | succ i ih =>
      intro hi
      obtain ⟨q, hq⟩ : ∃ q, ks[i]? = some q := ⟨ks[i], List.getElem?_eq_getElem (by omega)⟩
      obtain ⟨r, hr⟩ : ∃ r, r = ks.take i := ⟨_, rfl⟩
      obtain ⟨s, hs0⟩ : ∃ s, s = ks.drop (i + 1) := ⟨_, rfl⟩
      have hs : r ++ [q] ++ s = ks := by rw [hr, hs0, ← take_next hq, List.take_append_drop]
      rw [take_next hq]
      rw [← hr] at ih ⊢
      have hm : q ∈ js := p.mem_iff.mp (by rw [← hs]; simp)
      have hb := h.mem hm
      have p2 : (r ++ [q] ++ s).Perm js := by rw [hs]; exact p
      have eoP : (eo (r ++ [q] ++ s) q.1).Perm (eo js q.1) := (p2.filter _).map _
      have woP : (wo (r ++ [q] ++ s) q.2).Perm (wo js q.2) := (p2.filter _).map _
      have e1 : eo (r ++ [q]) q.1 = eo r q.1 ++ [q.2] := eo_snoc_same r q.1 q.2
      have e2 : wo (r ++ [q]) q.2 = wo r q.2 ++ [q.1] := wo_snoc_same r q.1 q.2
      rw [eo_app, e1] at eoP
      rw [wo_app, e2] at woP
      have n1 := eoP.nodup_iff.mpr (nd q.1).1
      have l1 := eoP.length_eq
      have l2 := woP.length_eq
      simp only [List.length_append, List.length_singleton] at l1 l2
      refine .snoc (w := q.1) (e := q.2) (ih (by omega)) ⟨hb.1, hb.2.1, hb.2.2, fun z => ?_, fun hp z => ?_, fun hp z => ?_⟩
      · have m1 : q.2 ∈ eo r q.1 := mem_eo.mpr z
        rw [List.append_assoc, List.nodup_append] at n1
        exact n1.2.2 q.2 m1 q.2 (by simp) rfl
      · have := ((nd q.1).2.2 hp).1; omega
      · have := ((nd q.2).2.2 hp).2; omega
  have := all ks.length (Nat.le_refl _)
  rwa [List.take_length] at this
end Lw

set_option Elab.async false
set_option linter.all false
set_option maxRecDepth 100000
set_option maxHeartbeats 4000000
/-! new lists, layouts over a smaller knowledge, equal layouts -/
namespace Lw
open PySem PySem.Spec L2
open Evl (Ex)
/-- a new list with these data -/
def NwD (K : PySem.W.Frag) (G0 : Hp) (ds : List PyData) : VP := fun v G => ∃ a xs, v = .ref a ∧ G0 a = none ∧ G a = some (.lst xs) ∧ DpAll K G xs ds
section
variable {K : PySem.W.Frag} {C CN : Addr} {σ : L2.St} {G G0 G' H : Hp}
theorem NwD.low {G1 : Hp} {ds : List PyData} {v : V} (e : Ex G0 G1) (h : NwD K G1 ds v G) : NwD K G0 ds v G := by
  obtain ⟨a, xs, ev, h0, h1, h2⟩ := h
  exact ⟨a, xs, ev, none_back e h0, h1, h2⟩
theorem NwD.dp {ds : List PyData} {v : V} (h : NwD K G0 ds v G) : Dp K G v (.list ds) := by
  obtain ⟨a, xs, rfl, _, h1, h2⟩ := h
  exact dp_mkL h1 h2
theorem NwD.ls {ds : List PyData} {v : V} (h : NwD K G0 ds v G) : LS K ds v G := by
  obtain ⟨a, xs, rfl, _, h1, h2⟩ := h
  exact ⟨a, xs, rfl, h1, h2⟩
theorem SA.imp {sp : Sp} {vs : List V} {P P' : VP} (h : SA sp vs G P) (k : ∀ v G', P v G' → P' v G') : SA sp vs G P' := fun H e Q E q => h H e Q E fun v G' H' g p => q v G' H' g (k v G' p)
def spAskG (K : PySem.W.Frag) (C CN : Addr) (P : Hp → Nat → List Int → List (Int × Int) → Int → VP) : Sp := fun vs H Q E => ∃ (G : Hp) (p : Addr) (n : Nat) (parks : List Int) (js : List (Int × Int)) (b : Int), Ex G H ∧ vs = [.ref p, .int b] ∧ LayAt K C G p n parks js ∧ (0 ≤ b ∧ b < (n : Int) → Ret G H (P G n parks js b) Q) ∧ (¬ (0 ≤ b ∧ b < (n : Int)) → Rse CN [("block", .int b)] G H E)
theorem sa_askG {P : Hp → Nat → List Int → List (Int × Int) → Int → VP} {p : Addr} {n : Nat} {parks : List Int} {js : List (Int × Int)} {b : Int} (h : LayAt K C G p n parks js) (h0 : 0 ≤ b) (h1 : b < (n : Int)) : SA (spAskG K C CN P) [.ref p, .int b] G (P G n parks js b) := fun H e Q _ q => ⟨G, p, n, parks, js, b, e, rfl, h, fun _ => q, fun z => absurd ⟨h0, h1⟩ z⟩
def spAskSG (K : PySem.W.Frag) (C CN : Addr) (P : Hp → List Int → List (Int × Int) → Int → Bool → VP) : Sp := fun vs H Q E => ∃ (G : Hp) (p : Addr) (n : Nat) (parks : List Int) (js : List (Int × Int)) (b : Int) (c : Bool), Ex G H ∧ vs = [.ref p, .int b, .str (sd c)] ∧ LayAt K C G p n parks js ∧ (0 ≤ b ∧ b < (n : Int) → Ret G H (P G parks js b c) Q) ∧ (¬ (0 ≤ b ∧ b < (n : Int)) → Rse CN [("block", .int b)] G H E)
theorem sa_askSG {P : Hp → List Int → List (Int × Int) → Int → Bool → VP} {p : Addr} {n : Nat} {parks : List Int} {js : List (Int × Int)} {b : Int} (c : Bool) (h : LayAt K C G p n parks js) (h0 : 0 ≤ b) (h1 : b < (n : Int)) : SA (spAskSG K C CN P) [.ref p, .int b, .str (sd c)] G (P G parks js b c) := fun H e Q _ q => ⟨G, p, n, parks, js, b, c, e, rfl, h, fun _ => q, fun z => absurd ⟨h0, h1⟩ z⟩
def gEast (K : PySem.W.Frag) : Hp → Nat → List Int → List (Int × Int) → Int → VP := fun G0 _ _ js b => NwD K G0 ((srtI (eo js b)).map PyData.int)
def gWest (K : PySem.W.Frag) : Hp → Nat → List Int → List (Int × Int) → Int → VP := fun G0 _ _ js b => NwD K G0 ((srtI (wo js b)).map PyData.int)
def gBranch (K : PySem.W.Frag) : Hp → List Int → List (Int × Int) → Int → Bool → VP := fun G0 _ js b c => NwD K G0 ((srtI (ends js b c)).map PyData.int)
theorem gbranch_nl {G0 : Hp} {parks : List Int} {js : List (Int × Int)} {b : Int} {c : Bool} {v : V} (h : gBranch K G0 parks js b c v G) : NL K (endN js b c) v G := by
  have h2 := NwD.dp h
  exact ⟨srtI (ends js b c), by rw [(srtI_perm _).length_eq, ends_len], h2⟩
/-- pairs in order -/
def srtP (js : List (Int × Int)) : List (Int × Int) := js.mergeSort fun p q => decide (p.1 < q.1 ∨ (p.1 = q.1 ∧ p.2 ≤ q.2))
theorem srtP_perm (js : List (Int × Int)) : (srtP js).Perm js := List.mergeSort_perm js _
theorem srtP_sorted (js : List (Int × Int)) : (srtP js).Pairwise lexLe := by
  have := List.pairwise_mergeSort (le := fun p q : Int × Int => decide (p.1 < q.1 ∨ (p.1 = q.1 ∧ p.2 ≤ q.2))) (fun a b c h1 h2 => by simp at *; omega) (fun a b => by simp; omega) js
  exact this.imp fun h => by unfold lexLe; simpa using h
theorem srtP_of {l js : List (Int × Int)} (h : l.Perm js) (hs : l.Pairwise lexLe) : l = srtP js := sort_uniq (h.trans (srtP_perm js).symm) hs (srtP_sorted js)
theorem srtP_iff {js ks : List (Int × Int)} : srtP js = srtP ks ↔ js.Perm ks := ⟨fun h => (srtP_perm js).symm.trans (h ▸ srtP_perm ks), fun h => srtP_of ((srtP_perm js).trans h) (srtP_sorted js)⟩
def spJointsG (K : PySem.W.Frag) (C : Addr) : Sp := fun vs H Q _ => ∃ (G : Hp) (p : Addr) (n : Nat) (parks : List Int) (js : List (Int × Int)), Ex G H ∧ vs = [.ref p] ∧ LayAt K C G p n parks js ∧ JOk (n : Int) parks js ∧ n ≤ 200 ∧ js.length ≤ 900 ∧ Ret G H (NwD K G ((srtP js).map dP)) Q
/-- the constructor, over any knowledge -/
def spInitM (K : PySem.W.Frag) (C : Addr) : Sp := fun vs H Q _ => ∃ (G : Hp) (x dx : Addr) (lens : List Int) (js : List (Int × Int)) (parks : List Int) (a1 a2 a3 : Addr), vs = [.ref x, .ref a1, .ref a2, .ref a3] ∧ Ex G H ∧ G x = none ∧ H x = some (.ins C dx []) ∧
  Dp K G (.ref a1) (dI lens) ∧ Dp K G (.ref a2) (dPs js) ∧ Dp K G (.ref a3) (dI parks) ∧ lens.length ≤ 200 ∧ (∀ z ∈ lens, 1 ≤ z) ∧ (∀ b ∈ parks, 0 ≤ b ∧ b < (lens.length : Int)) ∧ JOk (lens.length : Int) parks js ∧ js.length ≤ 900 ∧
  ∀ S H', (∀ G0, Ex G0 (outH H x) → Gr G0 (pick S G0 H') (outH H x) H' ∧ LayL K C (pick S G0 H') x lens parks js) → Q .non H'
theorem ef_makeM {E : XK} {t tk : TA} {lens : List Int} {js : List (Int × Int)} {parks : List Int} (e0 : Ex G0 G) (h : EA t σ G fun vs G' => ∃ a1 a2, vs = [.ref a1, .ref a2] ∧ Dp K G' (.ref a1) (dI lens) ∧ Dp K G' (.ref a2) (dPs js)) (hk : EA tk σ G fun zs G' => ∃ a3, zs = [.ref a3] ∧ Dp K G' (.ref a3) (dI parks))
    (n2 : lens.length ≤ 200) (hl : ∀ z ∈ lens, 1 ≤ z) (hp : ∀ b ∈ parks, 0 ≤ b ∧ b < (lens.length : Int)) (hJ : JOk (lens.length : Int) parks js) (hj : js.length ≤ 900) :
    EF (tMakeK C 2 1 (spInitM K C) (fun vs zs => vs ++ zs) E t tk) σ G fun v G' => ∃ x G1, v = .ref x ∧ Ex G0 G1 ∧ Ex G1 G' ∧ LayL K C G1 x lens parks js ∧ ∀ a, G a ≠ none → G0 a = none → G1 a = none := fun H e Q q =>
  h H e _ fun vs G1 H1 g1 ⟨a1, a2, ev, d1, d2⟩ => hk H1 (g1.up.trans g1.ok) _ fun zs G2 H2 g2 ⟨a3, ez, d3⟩ => by
    obtain ⟨G3, f1, f2, g3⟩ := g1.join g2
    subst ev ez
    refine ⟨rfl, rfl, fun x dx hx hdx hne => ?_⟩
    have ex2 : Ex H2 (outH (upd (upd H2 dx (.own x)) x (.ins C dx [])) x) := fun a o ha => by
      rw [out_ne (ne_of_none ha hx), upd_ne (ne_of_none ha hx), upd_ne (ne_of_none ha hdx)]
      exact ha
    have e3 : Ex G0 G3 := e0.trans g3.up
    refine ⟨G3, x, dx, lens, js, parks, a1, a2, a3, rfl, g3.ok.trans (ex2.trans out_ex), none_back g3.ok hx, upd_same, dpx d1 f1, dpx d2 f1, dpx d3 f2, n2, hl, hp, hJ, hj, fun S H' k => ⟨rfl, ?_⟩⟩
    have k3 := k G3 (g3.ok.trans ex2)
    have k0 := k G0 (e3.trans (g3.ok.trans ex2))
    refine q _ (pick S G3 H') H' (g3.trans (k3.1.low ex2)) ⟨x, pick S G0 H', rfl, k0.1.up, fun a o ha => ?_, k0.2, fun a ha h0 => k0.1.2.2.2 a (fun z => ?_) h0⟩
    · unfold pick at ha ⊢
      split at ha
      · rename_i m
        rw [if_pos m]
        exact ha
      · rename_i m
        rw [if_neg m]
        exact e3 _ _ ha
    · cases hg : G a with
      | none => exact ha hg
      | some o => rw [ex2 _ _ (g3.ok _ _ (g3.up _ _ hg))] at z; cases z
end
theorem eqv_map {α : Type} [DecidableEq α] {f : α → PyData} (h : ∀ x y, PyData.eqv (f x) (f y) = decide (x = y)) : ∀ a b : List α, PyData.eqvAll (a.map f) (b.map f) = decide (a = b)
  | [], [] => by simp [PyData.eqvAll]
  | [], _ :: _ => by simp [PyData.eqvAll]
  | _ :: _, [] => by simp [PyData.eqvAll]
  | x :: a, y :: b => by
    simp only [List.map_cons, PyData.eqvAll, h, eqv_map h a b]
    by_cases h1 : x = y <;> by_cases h2 : a = b <;> simp [h1, h2]
theorem eqv_list {α : Type} [DecidableEq α] {f : α → PyData} (h : ∀ x y, PyData.eqv (f x) (f y) = decide (x = y)) (a b : List α) : PyData.eqv (.list (a.map f)) (.list (b.map f)) = decide (a = b) := by
  simp only [PyData.eqv]
  exact eqv_map h a b
theorem eqv_bool (a b : Bool) : PyData.eqv (.bool a) (.bool b) = decide (a = b) := by
  cases a <;> cases b <;> rfl
theorem eqv_I (a b : List Int) : PyData.eqv (dI a) (dI b) = decide (a = b) := eqv_list eqv_int a b
theorem eqv_Bs (a b : List Bool) : PyData.eqv (.list (a.map PyData.bool)) (.list (b.map PyData.bool)) = decide (a = b) := eqv_list eqv_bool a b
theorem eqv_LL (a b : List (List Int)) : PyData.eqv (.list (a.map dI)) (.list (b.map dI)) = decide (a = b) := eqv_list (f := dI) eqv_I a b
theorem eqv_Ps (a b : List (Int × Int)) : PyData.eqv (dPs a) (dPs b) = decide (a = b) := eqv_list (f := dP) eqv_pair a b
theorem lay_all {f : α → PyData} (h : ∀ x, (f x).canLay0 = true) : ∀ l : List α, PyData.canLayAll0 (l.map f) = true
  | [] => by simp [PyData.canLayAll0]
  | x :: l => by simp [PyData.canLayAll0, h, lay_all h l]
theorem dep_all {f : α → PyData} {k : Nat} (h : ∀ x, (f x).depth ≤ k) : ∀ l : List α, PyData.depthAll (l.map f) ≤ k
  | [] => by simp [PyData.depthAll]
  | x :: l => by simp only [List.map_cons, PyData.depthAll]; have := h x; have := dep_all h l; omega
theorem sh_list {f : α → PyData} {k : Nat} (h1 : ∀ x, (f x).canLay0 = true) (h2 : ∀ x, (f x).depth ≤ k) (hk : k ≤ 60) (l : List α) : SeqAt.shaped (.list (l.map f)) = true := shaped_of (by simp only [PyData.canLay0]; exact lay_all h1 l) (by have := dep_all h2 l; simp only [PyData.depth]; omega)
theorem sh_Bs (l : List Bool) : SeqAt.shaped (.list (l.map PyData.bool)) = true := sh_list (k := 1) (fun _ => by simp [PyData.canLay0]) (fun _ => by simp [PyData.depth]) (by omega) l
theorem sh_LL (l : List (List Int)) : SeqAt.shaped (.list (l.map dI)) = true := sh_list (f := dI) (k := 2) (fun x => by simp only [dI, PyData.canLay0]; exact lay_ints x) (fun x => by have := dep_ints x; simp only [dI, PyData.depth]; omega) (by omega) l
theorem ess_eq {n : Nat} {parks parks' : List Int} {js js' : List (Int × Int)} {ess ess' : List (List Int)} (h : Srt (eo js) n ess) (h' : Srt (eo js') n ess') (j : JOk (n : Int) parks js) (j' : JOk (n : Int) parks' js') : ess = ess' ↔ js.Perm js' := by
  refine ⟨fun e => ?_, fun p => ?_⟩
  · subst e
    exact (fan_all h j).symm.trans (fan_all h' j')
  · apply List.ext_getElem?
    intro b
    by_cases hb : b < n
    · obtain ⟨x, hx, _, p1, s1⟩ := h.get hb
      obtain ⟨y, hy, _, p2, s2⟩ := h'.get hb
      rw [hx, hy, int_uniq (p1.trans (((p.filter _).map _).trans p2.symm)) s1 s2]
    · rw [List.getElem?_eq_none (by rw [h.len]; omega), List.getElem?_eq_none (by rw [h'.len]; omega)]
/-- two tracks make equal layouts -/
def alikeB (l1 p1 : List Int) (j1 : List (Int × Int)) (l2 p2 : List Int) (j2 : List (Int × Int)) : Bool := decide (l1 = l2) && (decide (marksOf l1.length p1 = marksOf l1.length p2) && decide (srtP j1 = srtP j2))
end Lw

set_option Elab.async false
set_option linter.all false
set_option maxRecDepth 100000
set_option maxHeartbeats 4000000
/-! lists of new lists; lists that will be changed -/
namespace Lw
open PySem PySem.Spec L2
open Evl (Ex)
section
variable {K : PySem.W.Frag} {C : Addr} {σ : L2.St} {G G0 G' H H' H1 : Hp} {ta tb te tl ti : TE} {P : VP} {D : Ends}
theorem el_mapR {ta : TA} {j : Nat} {n : Nat} {g : Nat → PyData} (h : EA ta σ G fun us _ => us = [.int (n : Int)]) (hn : n ≤ 1000) (hw : ∀ x, wipe ((wipe σ [j]).set j (some x)) [j] = wipe σ [j]) (he : ∀ (i : Nat) G', Ex G G' → i < n → EF te ((wipe σ [j]).set j (some (.int (i : Int)))) G' (DV K (g i))) :
    EF (tLc (iRng1 ta) (gName j) tYes te [j]) σ G (LS K ((List.range n).map g)) := by
  refine ef_lcR1 (n := (n : Int)) (fun i acc G' => DpAll K G' acc ((List.range i).map g)) h ⟨by omega, by omega⟩ hw (fun G' _ => .nil) (fun i acc G' e1 hi hI => ?_) (fun p acc G' h1 h2 _ _ hI => ⟨p, acc, rfl, upd_same, ?_⟩)
  · refine ec_all ((he i G' e1 (by omega)).imp fun v G2 e2 p => ?_)
    rw [List.range_succ, List.map_append]
    exact dpa_snoc (dpax hI e2) p
  · have en : ((n : Int)).toNat = n := by omega
    rw [en] at hI
    exact dpax hI (ex_in h2)
theorem eb_inI {a : Int} {l : List Int} (ha : EF ta σ G (XV (.int a))) (hb : EF tb σ G (DV K (dI l))) : EF (tOp (rInD K) ta tb) σ G (BV (· = decide (a ∈ l))) := (ed_inD (EF.dv ha (.int a)) hb (sh_int _) (sh_ints _)).imp fun v _ _ ⟨z, ez, hz⟩ => ⟨z, ez, by rw [hz]; exact any_int l a⟩
theorem eb_eqD {d e : PyData} {c : Bool} (ha : EF ta σ G (DV K d)) (hb : EF tb σ G (DV K e)) (hd : SeqAt.shaped d = true) (he : SeqAt.shaped e = true) (hc : PyData.eqv d e = c) : EF (tOp (rEqD K) ta tb) σ G (BV (· = c)) :=
  ef_op mo_DV mo_DV ha hb fun x y G' _ hx hy => fun H e Q k => ⟨_, _, dpx hx e, dpx hy e, hd, he, k _ G' H (.refl e) ⟨_, rfl, hc⟩⟩
theorem et_neD {d e : PyData} {c : Bool} (ha : EF ta σ G (DV K d)) (hb : EF tb σ G (DV K e)) (hd : SeqAt.shaped d = true) (he : SeqAt.shaped e = true) (hc : PyData.eqv d e = c) : ET (tTest (tOp (rNeD K) ta tb)) σ G (· = !c) :=
  et_test (ef_op mo_DV mo_DV ha hb fun x y G' _ hx hy => fun H e Q k => ⟨_, _, dpx hx e, dpx hy e, hd, he, k _ G' H (.refl e) ⟨_, rfl, by rw [hc]⟩⟩)
theorem e_isi {y : V} {t : Value} {b : Bool} (hy : EF ta σ G (XV y)) (ht : ∀ H, Ex G H → TyX K H y t) (hk : PySem.W.kitOne K t (.ref C) = some b) : EF (tCB (rIsi K) (tCons ta (tCons (tC (.ref C)) tNil))) σ G (BV (· = b)) :=
  ef_cb (ea_x hy (ea_x ex_c ea_nil)) fun vs G' e ev => fun H e2 Q q => ⟨y, .ref C, t, .ref C, b, ev, .own C, ht H (e.trans e2), hk, q _ G' H (.refl e2) ⟨b, rfl, rfl⟩⟩
theorem ed_srtP {a : Addr} {xs : List V} {js : List (Int × Int)} (ha : EF ta σ G (XV (.ref a))) (hs : SqL K G a xs) (hx : DpAll K G xs (js.map dP)) : EF (tCB (rSortPD K) (tCons ta tNil)) σ G (DV K (dPs (srtP js))) := (ef_sortPD ha hs hx).imp fun v _ _ ⟨l, p, s, d⟩ => by rw [srtP_of p s] at d; exact d
/-- the joints of a track as a list that can be read -/
theorem trk_j {t : Trk} {v : V} (d : Dp K G v (dT t)) : ∃ a xs, (∀ {σ : L2.St} {i : Nat} {G' : Hp}, Ex G G' → σ[i]? = some (some v) → EF (tOp (rIxT K) (tVar i) (tC (.int 1))) σ G' (XV (.ref a))) ∧ SqL K G a xs ∧ DpAll K G xs (t.joints.map dP) := by
  obtain ⟨b, ys, rfl, hs, hd⟩ := dp_tup d
  obtain ⟨v1, hv1, d1⟩ := dpa_get' (i := 1) (d := dPs t.joints) hd rfl
  obtain ⟨a, xs, rfl, s1, x1⟩ := dp_lst d1
  exact ⟨a, xs, fun e h => ex_ixT (i := 1) (ex_var h) ex_c (Evl.ex_t e hs) hv1, s1, x1⟩
/-- a value put into a list that is ours -/
theorem st_insV {q : Addr} {ys : List V} {i : Nat} {m : Int} (eG : Ex G H1) (hq : H1 q = some (.lst ys)) (hz : ys.length < 1000) (ho : σ[i]? = some (some (.ref q))) (hi : EF ti σ G (IV fun z => 0 ≤ z ∧ z < m)) (hm : m ≤ 100000) (hv : EF te σ G P)
    (k : ∀ z v G2 H2, Gr G G2 H1 H2 → (0 ≤ z ∧ z < m) → P v G2 → D.nx σ (upd H2 q (.lst (ys.take z.toNat ++ [v] ++ ys.drop z.toNat)))) : tDrop (tBM K "list" rIns (tVar i) (tCons ti (tCons te tNil))) D σ H1 := by
  refine ⟨.ref q, ho, .inl ⟨rfl, _, Evl.sq_of hq⟩, hi H1 eG _ fun u G2 H2 g2 ⟨z, ez, hz2⟩ => hv H2 (g2.up.trans g2.ok) _ fun v G3 H3 g3 pv => ?_⟩
  subst ez
  have e13 := g2.hp.trans g3.hp
  refine ⟨q, ys, z, v, rfl, rfl, e13 _ _ hq, Nat.lt_of_lt_of_le hz (by decide), hz2.1, by omega, ?_⟩
  exact k z v G3 H3 ((Gr.same eG g2.hp).trans g3) hz2 pv
/-- a list of new lists -/
def LN (K : PySem.W.Frag) (G0 : Hp) (ds : List PyData) : VP := fun v G => ∃ l bs, v = .ref l ∧ G0 l = none ∧ G l = some (.lst bs) ∧ DpAll K G bs ds ∧ ∀ b ∈ bs, ∃ a xs, b = .ref a ∧ G0 a = none ∧ a ≠ l ∧ G a = some (.lst xs) ∧ xs.length ≤ 900
theorem mo_LN {ds : List PyData} : Mo (LN K G0 ds) := fun v G G' e ⟨l, bs, ev, h0, h1, h2, h3⟩ => ⟨l, bs, ev, h0, e _ _ h1, dpax h2 e, fun b m => by obtain ⟨a, xs, eb, q0, q1, q2, q3⟩ := h3 b m; exact ⟨a, xs, eb, q0, q1, e _ _ q2, q3⟩⟩
theorem mo_NwD {ds : List PyData} : Mo (NwD K G0 ds) := fun v G G' e ⟨a, xs, ev, h0, h1, h2⟩ => ⟨a, xs, ev, h0, e _ _ h1, dpax h2 e⟩
theorem LN.dp {ds : List PyData} {v : V} (h : LN K G0 ds v G) : Dp K G v (.list ds) := by
  obtain ⟨l, bs, rfl, _, h1, h2, _⟩ := h
  exact dp_mkL h1 h2
theorem dpa_apd {G : Hp} : ∀ {vs us : List V} {ds es : List PyData}, DpAll K G vs ds → DpAll K G us es → DpAll K G (vs ++ us) (ds ++ es)
  | _, _, _, _, .nil, h => h
  | _, _, _, _, .cons a r, h => .cons a (dpa_apd r h)
theorem en_two {d1 d2 : List PyData} (e0 : Ex G0 G) (h1 : EF ta σ G (NwD K G0 d1)) (h2 : EF tb σ G (NwD K G0 d2)) (n1 : d1.length ≤ 900) (n2 : d2.length ≤ 900) : EF (tLst (tCons ta (tCons tb tNil))) σ G (LN K G0 [.list d1, .list d2]) :=
  ef_lst (ea_two mo_NwD mo_NwD h1 h2) (fun vs G' ⟨x, y, ev, _⟩ => by rw [ev]; simp) fun p vs G' e hp hp' ⟨x, y, ev, hx, hy⟩ => by
    have ei := ex_in (o := .lst vs) hp'
    have dx := dpx hx.dp ei
    have dy := dpx hy.dp ei
    obtain ⟨a, xs, rfl, a0, a1, a2⟩ := hx
    obtain ⟨b, ys, rfl, b0, b1, b2⟩ := hy
    have ne : ∀ {a : Addr} {xs : List V}, G' a = some (.lst xs) → a ≠ p := fun h z => by rw [z, hp'] at h; cases h
    refine ⟨p, vs, rfl, none_back e0 hp, upd_same, by rw [ev] at dx dy ⊢; exact .cons dx (.cons dy .nil), fun u m => ?_⟩
    rw [ev] at m
    simp only [List.mem_cons, List.not_mem_nil, or_false] at m
    rcases m with rfl | rfl
    · exact ⟨a, xs, rfl, a0, ne a1, ei _ _ a1, by rw [dpa_len a2]; exact n1⟩
    · exact ⟨b, ys, rfl, b0, ne b1, ei _ _ b1, by rw [dpa_len b2]; exact n2⟩
theorem en_cat {d1 d2 : List PyData} (e0 : Ex G0 G) (ha : EF ta σ G (LN K G0 d1)) (hb : EF tb σ G (LN K G0 d2)) (hz : d1.length + d2.length ≤ 100000) : EF (tOp rCat ta tb) σ G (LN K G0 (d1 ++ d2)) :=
  ef_op mo_LN mo_LN ha hb fun x y G' e ⟨l, xs, ex, l0, h1, q1, r1⟩ ⟨b, ys, ey, b0, h2, q2, r2⟩ => fun H e2 Q k => by
    refine ⟨l, b, xs, ys, ex, ey, e2 _ _ h1, e2 _ _ h2, ?_, fun p hp => k _ _ _ (.new e2 hp) ⟨p, _, rfl, none_back (e0.trans (e.trans e2)) hp, upd_same, ?_, fun u m => ?_⟩⟩
    · rw [dpa_len q1, dpa_len q2]
      exact Nat.le_trans hz (by decide)
    · have e3 := ex_in (o := .lst (xs ++ ys)) (none_back e2 hp)
      exact dpa_apd (dpax q1 e3) (dpax q2 e3)
    · have hp' := none_back e2 hp
      have e3 := ex_in (o := .lst (xs ++ ys)) hp'
      have ne : ∀ {a : Addr} {xs : List V}, G' a = some (.lst xs) → a ≠ p := fun h z => by rw [z, hp'] at h; cases h
      rcases List.mem_append.mp m with m | m
      · obtain ⟨a, zs, eu, a0, _, a1, a2⟩ := r1 u m
        exact ⟨a, zs, eu, a0, ne a1, e3 _ _ a1, a2⟩
      · obtain ⟨a, zs, eu, a0, _, a1, a2⟩ := r2 u m
        exact ⟨a, zs, eu, a0, ne a1, e3 _ _ a1, a2⟩
end
/-- lists that are there, some of them not empty -/
def LSt (B B0 : List Addr) (N : Nat) (H : Hp) : Prop := ∀ a ∈ B, ∃ xs, H a = some (.lst xs) ∧ xs.length ≤ N ∧ (a ∈ B0 → 0 < xs.length)
theorem LSt.up {B B0 : List Addr} {N : Nat} {H H' : Hp} (h : LSt B B0 N H) (e : Ex H H') : LSt B B0 N H' := fun a m => by
  obtain ⟨xs, h1, h2⟩ := h a m
  exact ⟨xs, e _ _ h1, h2⟩
theorem LSt.wide {B B0 : List Addr} {N N' : Nat} {H : Hp} (h : LSt B B0 N H) (e : N ≤ N') : LSt B B0 N' H := fun a m => by
  obtain ⟨xs, h1, h2, h3⟩ := h a m
  exact ⟨xs, h1, by omega, h3⟩
theorem LSt.put {B B0 : List Addr} {N : Nat} {H : Hp} {q : Addr} {ys : List V} (h : LSt B B0 N H) (h1 : ys.length ≤ N) (h2 : 0 < ys.length) : LSt B B0 N (upd H q (.lst ys)) := fun a m => by
  by_cases e : a = q
  · rw [e]
    exact ⟨ys, upd_same, h1, fun _ => h2⟩
  · rw [upd_ne e]
    exact h a m
def listsD (parks : List Int) (js : List (Int × Int)) (pt : List PyData) : Nat → List PyData
  | 0 => [.list ((srtP js).map dP), .list pt]
  | n + 1 => listsD parks js pt n ++ [dI (srtI (eo js (n : Int))), dI (srtI (wo js (n : Int)))] ++ [dI (srtI (eo js (n : Int))), dI (srtI (wo js (n : Int)))]
theorem listsD_len (parks : List Int) (js : List (Int × Int)) (pt : List PyData) : ∀ n, (listsD parks js pt n).length = 2 + 4 * n
  | 0 => rfl
  | n + 1 => by
    unfold listsD
    rw [List.length_append, List.length_append, listsD_len parks js pt n]
    simp
    omega
end Lw

set_option Elab.async false
set_option linter.all false
set_option maxRecDepth 100000
set_option maxHeartbeats 4000000
/-! a keyword that is left out -/
namespace Lw
open PySem L2
theorem binds_kwd {K : PySem.W.Frag} {s : Shared} {fd : FuncData} {args : Args} {D : Addr} {x : Str} {u : Value} {bs : List (Str × Value)} {k : Option Value → Sem (List (Str × Value))} (hK : K.In s.heap) (e : PySem.W.nsIn K D x = some (some u)) (h1 : bindArgs fd args = nsGet D x >>= k) (h2 : k (some u) = pure bs) : BindsTo s fd args bs := fun M A E Q q => by
  rw [h1]
  refine wpAny_bind (PySem.W.looks_nsIn hK e A _ E s (fun _ _ h => h) ?_)
  rw [h2]
  exact wpAny_pure q
end Lw

set_option Elab.async false
set_option linter.all false
set_option maxRecDepth 100000
set_option maxHeartbeats 4000000
/-! tuples that are taken apart, enumerate, dicts of lists -/
namespace Lw
open PySem PySem.Spec L2
open Evl (Ex)
section
variable {K : PySem.W.Frag} {σ : L2.St} {G H : Hp} {D : Ends} {Q : L2.St → Hp → Prop}
theorem g_c {i : Nat} {x : V} {r : List V} {u : TGs} (q : u r (σ.set i (some x)) H Q) : gCons (gName i) u (x :: r) σ H Q := ⟨x, r, rfl, q⟩
theorem g_n (q : Q σ H) : gNil [] σ H Q := ⟨rfl, q⟩
theorem g_two {i j : Nat} {a : Addr} {x y : V} (h : SqT K H a [x, y]) (q : Q ((σ.set i (some x)).set j (some y)) H) : gTup K 2 (gCons (gName i) (gCons (gName j) gNil)) (.ref a) σ H Q :=
  ⟨a, _, rfl, h, rfl, g_c (g_c (g_n q))⟩
theorem g_three {i j k : Nat} {a : Addr} {x y z : V} (h : SqT K H a [x, y, z]) (q : Q (((σ.set i (some x)).set j (some y)).set k (some z)) H) : gTup K 3 (gCons (gName i) (gCons (gName j) (gCons (gName k) gNil))) (.ref a) σ H Q :=
  ⟨a, _, rfl, h, rfl, g_c (g_c (g_c (g_n q)))⟩
theorem g_four {i j k l : Nat} {a : Addr} {x y z u : V} (h : SqT K H a [x, y, z, u]) (q : Q ((((σ.set i (some x)).set j (some y)).set k (some z)).set l (some u)) H) : gTup K 4 (gCons (gName i) (gCons (gName j) (gCons (gName k) (gCons (gName l) gNil)))) (.ref a) σ H Q :=
  ⟨a, _, rfl, h, rfl, g_c (g_c (g_c (g_c (g_n q))))⟩
/-- (a, pattern) = a pair -/
theorem g_one_in {i : Nat} {a : Addr} {x y : V} {g : TG} (h : SqT K H a [x, y]) (q : g y (σ.set i (some x)) H fun σ' H' => gNil [] σ' H' Q) : gTup K 2 (gCons (gName i) (gCons g gNil)) (.ref a) σ H Q :=
  ⟨a, _, rfl, h, rfl, g_c ⟨y, [], rfl, q⟩⟩
/-- a for over enumerate -/
theorem st_forEn {xs : List V} {tl : TE} {a : Addr} {g : TG} {tu : TS} (hG : Ex G H) (h : EF tl σ G (XV (.ref a))) (hx : SqL K G a xs) (W : Nat → L2.St → Hp → Prop) (h0 : ∀ H', Ex H H' → W 0 σ H') (hl : ∀ i σ' H', W i σ' H' → Ex G H')
    (hs : ∀ i x T σ' H', xs[i]? = some x → W i σ' H' → H' T = none → g (.ref T) σ' (upd H' T (.tup [.int (i : Nat), x])) fun σ2 H2 => tu { D with nx := W (i + 1), ct := W (i + 1), bk := D.nx } σ2 H2) (hd : ∀ σ' H', W xs.length σ' H' → D.nx σ' H') : tFor (iEnum K (tCons tl tNil)) g tu D σ H := by
  unfold tFor iEnum
  refine (ea_one h) H hG _ fun vs G1 H1 g1 ⟨x, ev, e⟩ => ?_
  · cases (show x = .ref a from e)
    subst ev
    exact ⟨a, xs, rfl, Evl.ex_l (hG.trans g1.hp) hx, for_it walk_enum W (h0 H1 g1.hp) (fun i σ' H' _ w => Evl.ex_l (hl i σ' H' w) hx) (fun i x σ' H' H2 _ w y => by
      obtain ⟨T, x1, y1, rfl, hT, rfl, e1, e2⟩ := y
      cases e1
      exact hs i y1 T σ' H' e2 w hT) hd⟩
/-- x += e -/
theorem st_augI {i : Nat} {a b : Int} {te : TE} (hG : Ex G H) (hi : σ[i]? = some (some (.int a))) (h : EF te σ G (XV (.int b))) (k : ∀ G' H', Gr G G' H H' → D.nx (σ.set i (some (.int (a + b)))) H') : tAug i te (ipI fun i j => i + j) D σ H :=
  ⟨.int a, hi, h H hG _ fun v G' H' g p => by
    cases (show v = .int b from p)
    exact ⟨a, b, rfl, rfl, k G' H' g⟩⟩
end
/-! dicts -/
section
variable {K : PySem.W.Frag} {σ : L2.St} {G G' H H1 : Hp} {D : Ends} {d : Addr}
abbrev DM := List (Int × List PyData)
def getM (m : DM) (k : Int) : Option (List PyData) := (m.find? fun p => decide (p.1 = k)).map (·.2)
def getL (m : DM) (k : Int) : List PyData := (getM m k).getD []
def addM (m : DM) (k : Int) (x : PyData) : DM := if k ∈ m.map (·.1) then m.map (fun p => if p.1 = k then (p.1, p.2 ++ [x]) else p) else m ++ [(k, [x])]
/-- a dict of these lists -/
def DkAt (K : PySem.W.Frag) (G : Hp) (d : Addr) (m : DM) : Prop := ∃ kvs : List (Key × V), G d = some (.dK kvs) ∧ kvs.map (·.1) = m.map (fun p => (Sum.inl p.1 : Key)) ∧ DpAll K G (kvs.map (·.2)) (m.map fun p => .list p.2)
theorem DkAt.ex {m : DM} (h : DkAt K G d m) (e : Ex G G') : DkAt K G' d m := by
  obtain ⟨kvs, h1, h2, h3⟩ := h
  exact ⟨kvs, e _ _ h1, h2, dpax h3 e⟩
theorem valM {k : Int} : ∀ {kvs : List (Key × V)} {m : DM}, kvs.map (·.1) = m.map (fun p => (Sum.inl p.1 : Key)) → DpAll K G (kvs.map (·.2)) (m.map fun p => .list p.2) → (getM m k = none ∧ valV kvs (.inl k : Key) = none) ∨ ∃ v ps, getM m k = some ps ∧ valV kvs (.inl k : Key) = some v ∧ Dp K G v (.list ps)
  | [], [], _, _ => .inl ⟨rfl, rfl⟩
  | [], _ :: _, h, _ => by simp at h
  | _ :: _, [], h, _ => by simp at h
  | (a, v) :: kvs, (b, ps) :: m, h, hd => by
    simp only [List.map_cons, List.cons.injEq] at h
    obtain ⟨rfl, h⟩ := h
    simp only [List.map_cons] at hd
    cases hd with
    | cons h1 h2 =>
      by_cases e : b = k
      · subst e
        exact .inr ⟨v, ps, by simp [getM], by simp [valV], h1⟩
      · have z1 : getM ((b, ps) :: m) k = getM m k := by simp [getM, e]
        have z2 : valV (((Sum.inl b : Key), v) :: kvs) (.inl k : Key) = valV kvs (.inl k : Key) := by simp [valV, e]
        rw [z1, z2]
        exact valM h h2
/-- d.get(k, x) -/
theorem ef_dget2 {m : DM} {k : Int} {td tk tx : TE} (hd : EF td σ G (XV (.ref d))) (hm : DkAt K G d m) (hk : EF tk σ G (XV (.int k))) (hx : EF tx σ G (DV K (.list []))) : EF (tDGet2 td tk tx) σ G (DV K (.list (getL m k))) := fun H e Q q =>
  hd H e _ fun v G1 H1 g1 pv => by
    cases (show v = .ref d from pv)
    obtain ⟨kvs, h1, h2, h3⟩ := hm
    refine ⟨d, rfl, .inl ⟨kvs, .inl (g1.hp _ _ (e _ _ h1))⟩, hk H1 (e.trans g1.hp) _ fun y G2 H2 g2 py => ?_⟩
    cases (show y = .int k from py)
    refine hx H2 (e.trans (g1.hp.trans g2.hp)) _ fun z G3 H3 g3 pz => ?_
    obtain ⟨G4, e1, e2, g4⟩ := g1.join (g2.join g3).choose_spec.2.2
    have e3 : Ex G G4 := g4.up
    refine ⟨valV kvs (.inl k : Key), .inl ⟨kvs, .inl k, .inl (g4.ok _ _ (e3 _ _ h1)), rfl, rfl⟩, ?_⟩
    rcases valM (k := k) h2 h3 with ⟨a, b⟩ | ⟨u, ps, a, b, c⟩
    · rw [b]
      exact q z G4 H3 g4 (by unfold getL; rw [a]; exact dpx pz ((g2.join g3).choose_spec.2.1.trans e2))
    · rw [b]
      exact q u G4 H3 g4 (by unfold getL; rw [a]; exact dpx c e3)
/-- d[k] -/
theorem ef_dget {m : DM} {k : Int} {ps : List PyData} {td tk : TE} (hd : EF td σ G (XV (.ref d))) (hm : DkAt K G d m) (hk : EF tk σ G (XV (.int k))) (hp : getM m k = some ps) : EF (tDGet td tk) σ G (DV K (.list ps)) := fun H e Q q =>
  hd H e _ fun v G1 H1 g1 pv => by
    cases (show v = .ref d from pv)
    obtain ⟨kvs, h1, h2, h3⟩ := hm
    refine hk H1 (e.trans g1.hp) _ fun y G2 H2 g2 py => ?_
    cases (show y = .int k from py)
    obtain ⟨G4, e1, e2, g4⟩ := g1.join g2
    rcases valM (k := k) h2 h3 with ⟨a, b⟩ | ⟨u, ps', a, b, c⟩
    · rw [hp] at a; cases a
    · rw [hp] at a; cases a
      exact ⟨d, u, rfl, .inl ⟨kvs, .inl k, .inl (g4.ok _ _ (g4.up _ _ h1)), rfl, b.symm⟩, q u G4 H2 g4 (dpx c g4.up)⟩
/-- list(d) -/
theorem el_listD {m : DM} {td : TE} (hd : EF td σ G (XV (.ref d))) (hm : DkAt K G d m) : EF (tCB rListD (tCons td tNil)) σ G fun v G' => ∃ p, v = .ref p ∧ G' p = some (.lst ((m.map (·.1)).map V.int)) := fun H e Q q =>
  (ea_one hd) H e _ fun vs G1 H1 g1 ⟨x, ev, pv⟩ => by
    cases (show x = .ref d from pv)
    obtain ⟨kvs, h1, h2, h3⟩ := hm
    refine ⟨d, kvs, ev, g1.hp _ _ (e _ _ h1), fun p hp => q _ _ _ (g1.trans (.new g1.ok hp)) ⟨p, rfl, ?_⟩⟩
    rw [upd_same, show (kvs.map fun kv => kV kv.1) = (kvs.map (·.1)).map kV by rw [List.map_map]; rfl, h2, List.map_map, List.map_map]
    rfl
/-- an entry while the dict is made: key, the list's address, what it holds -/
abbrev BE := Int × Addr × List V × List PyData
structure BOk (K : PySem.W.Frag) (H G' H1 : Hp) (e : BE) : Prop where
  g : G' e.2.1 = none
  h : H e.2.1 = none
  l : H1 e.2.1 = some (.lst e.2.2.1)
  d : DpAll K G' e.2.2.1 e.2.2.2
def DB (K : PySem.W.Frag) (G H H1 : Hp) (d : Addr) (m : DM) : Prop := ∃ (G' : Hp) (es : List BE), Gr G G' H H1 ∧ G' d = none ∧ H1 d = some (.dK (es.map fun e => ((Sum.inl e.1 : Key), V.ref e.2.1))) ∧ (∀ e ∈ es, BOk K H G' H1 e) ∧ (es.map fun e => e.2.1).Nodup ∧ d ∉ es.map (fun e => e.2.1) ∧ es.map (fun e => (e.1, e.2.2.2)) = m
theorem db_new (hG : Ex G H) (hd : H d = none) : DB K G H (upd H d (.dK [])) d [] :=
  ⟨G, [], ⟨Ex.refl G, ex_off hG (none_back hG hd), ex_in hd, fun _ _ h => h⟩, none_back hG hd, upd_same, by simp, by simp, by simp, rfl⟩
theorem be_find {k : Int} : ∀ {es : List BE} {v : V}, valV (es.map fun e => ((Sum.inl e.1 : Key), V.ref e.2.1)) (.inl k : Key) = some v → ∃ A e B, es = A ++ e :: B ∧ e.1 = k ∧ v = .ref e.2.1 ∧ ∀ z ∈ A, z.1 ≠ k
  | [], v, h => by simp [valV] at h
  | e :: es, v, h => by
    by_cases q : e.1 = k
    · refine ⟨[], e, es, rfl, q, ?_, by simp⟩
      simp [valV, q] at h
      exact h.symm
    · have z : valV (es.map fun e => ((Sum.inl e.1 : Key), V.ref e.2.1)) (.inl k : Key) = some v := by
        simpa [valV, q] using h
      obtain ⟨A, e1, B, rfl, h1, h2, h3⟩ := be_find z
      exact ⟨e :: A, e1, B, rfl, h1, h2, fun y hy => by
        rcases List.mem_cons.mp hy with r | r
        · subst r; exact q
        · exact h3 y r⟩
theorem be_none {k : Int} {es : List BE} (h : valV (es.map fun e => ((Sum.inl e.1 : Key), V.ref e.2.1)) (.inl k : Key) = none) : ∀ e ∈ es, e.1 ≠ k := fun e he q => by
  simp [valV] at h
  exact h e.1 e.2.1 e.2.2.1 e.2.2.2 he q
end
end Lw

set_option Elab.async false
set_option linter.all false
set_option maxRecDepth 100000
set_option maxHeartbeats 4000000
/-! a dict of lists that is made: setdefault(k, []).append(x) -/
namespace Lw
open PySem PySem.Spec L2
open Evl (Ex)
section
variable {K : PySem.W.Frag} {σ : L2.St} {G G' H H1 : Hp} {D : Ends} {d : Addr}
theorem BOk.step {H2 G2 : Hp} {e : BE} (b : BOk K H G' H1 e) (g : Gr G' G2 H1 H2) : BOk K H G2 H2 e :=
  ⟨g.2.2.2 _ (ne_none_of b.l) b.g, b.h, g.hp _ _ b.l, dpax b.d g.up⟩
theorem BOk.other {H2 : Hp} {e : BE} {q : Addr} {o : HO} (b : BOk K H G' H2 e) (h : e.2.1 ≠ q) : BOk K H G' (upd H2 q o) e :=
  ⟨b.g, b.h, by rw [upd_ne h]; exact b.l, b.d⟩
theorem add_here {k : Int} {x : PyData} {A : List BE} {e : BE} {B : List BE} {vs : List V} (hk : e.1 = k) (hA : ∀ z ∈ A, z.1 ≠ k) (hB : ∀ z ∈ B, z.1 ≠ k) :
    (A ++ ((e.1, e.2.1, vs, e.2.2.2 ++ [x]) : BE) :: B).map (fun e => (e.1, e.2.2.2)) = addM ((A ++ e :: B).map fun e => (e.1, e.2.2.2)) k x := by
  unfold addM
  rw [if_pos (by simp [hk])]
  simp only [List.map_append, List.map_cons, List.map_map]
  rw [if_pos hk]
  have z : ∀ L : List BE, (∀ z ∈ L, z.1 ≠ k) → L.map ((fun p : Int × List PyData => if p.1 = k then (p.1, p.2 ++ [x]) else p) ∘ fun e => (e.1, e.2.2.2)) = L.map fun e => (e.1, e.2.2.2) := fun L hL => List.map_congr_left fun e he => by simp [hL e he]
  rw [z A hA, z B hB]
theorem st_dset {i : Nat} {m : DM} {k : Int} {x : PyData} {tk te : TE} (hdH : H d = none) (h : DB K G H H1 d m) (hn : (m.map (·.1)).Nodup) (hm : m.length < 1000) (hl : ∀ p ∈ m, p.2.length < 1000) (ho : σ[i]? = some (some (.ref d)))
    (hk : ∀ G', Ex G G' → EF tk σ G' (XV (.int k))) (hv : ∀ G', Ex G G' → EF te σ G' (DV K x)) (kk : ∀ H2, DB K G H H2 d (addM m k x) → D.nx σ H2) :
    tDrop (tBM K "list" rAppend (tDSetd (tVar i) tk (tLst tNil)) (tCons te tNil)) D σ H1 := by
  obtain ⟨G', es, g, gd, hd, he, nd, dn, em⟩ := h
  have el : es.length = m.length := by rw [← em, List.length_map]
  refine ⟨.ref d, ho, d, rfl, .inl ⟨_, .inl hd⟩, hk G' g.up H1 g.ok _ fun y G2 H2 g2 py => ?_⟩
  cases (show y = .int k from py)
  refine ⟨by decide, fun q hq => ?_⟩
  have hd2 := g2.hp _ _ hd
  have dq : d ≠ q := by rintro rfl; rw [hq] at hd2; cases hd2
  have G2d : G2 d = none := g2.2.2.2 d (ne_none_of hd) gd
  have G2q : G2 q = none := none_back g2.ok hq
  have g12 := g.trans g2
  have Hq : H q = none := none_back g12.hp hq
  have he2 : ∀ e ∈ es, BOk K H G2 H2 e := fun e m => (he e m).step g2
  have eq : ∀ e ∈ es, e.2.1 ≠ q := fun e m z => by
    have := (he2 e m).l
    rw [z, hq] at this; cases this
  have g3 : Gr G G2 H (upd H2 q (.lst [])) := g12.put Hq G2q
  have hd3 : (upd H2 q (.lst [])) d = some (.dK (es.map fun e => ((Sum.inl e.1 : Key), V.ref e.2.1))) := by rw [upd_ne dq]; exact hd2
  have he3 : ∀ e ∈ es, BOk K H G2 (upd H2 q (.lst [])) e := fun e m => (he2 e m).other (eq e m)
  refine ⟨_, .inl k, hd3, rfl, by rw [List.length_map, el]; exact Nat.lt_of_lt_of_le hm (by decide), fun v hv1 => ?_, fun hn1 => ?_⟩
  · obtain ⟨A, e, B, rfl, hek, rfl, hA⟩ := be_find hv1
    have hb := he3 e (by simp)
    have kn : (((A ++ e :: B) : List BE).map (·.1)).Nodup := by
      have z : ((A ++ e :: B) : List BE).map (·.1) = m.map (·.1) := by rw [← em, List.map_map]; rfl
      rw [z]; exact hn
    have hB : ∀ z ∈ B, z.1 ≠ k := fun z hz q => by
      rw [List.map_append, List.map_cons, List.nodup_append] at kn
      have k2 := (List.nodup_cons.mp kn.2.1).1
      exact k2 (List.mem_map.mpr ⟨z, hz, q.trans hek.symm⟩)
    refine ⟨.inl ⟨rfl, _, Evl.sq_of hb.l⟩, (ea_one (hv G2 g12.up)) _ g3.ok _ fun vs G4 H4 g4 ⟨w, ev, pw⟩ => ?_⟩
    subst ev
    have hb4 := hb.step g4
    have hlen : e.2.2.1.length < 1000 := by
      rw [dpa_len hb.d]
      exact hl (e.1, e.2.2.2) (by rw [← em]; simp)
    refine ⟨e.2.1, _, w, rfl, rfl, hb4.l, Nat.lt_of_lt_of_le hlen (by decide), kk _ ⟨G4, A ++ (e.1, e.2.1, e.2.2.1 ++ [w], e.2.2.2 ++ [x]) :: B, (g3.trans g4).put hb.h hb4.g, g4.2.2.2 d (ne_none_of hd3) G2d, ?_, ?_, ?_, ?_, ?_⟩⟩
    · have ne : d ≠ e.2.1 := fun z => dn (by rw [z]; simp)
      rw [upd_ne ne, g4.hp _ _ hd3]
      simp
    · have ne : ∀ z ∈ A ++ B, z.2.1 ≠ e.2.1 := fun z hz q => by
        rw [List.map_append, List.map_cons, List.nodup_append] at nd
        rcases List.mem_append.mp hz with hz | hz
        · exact nd.2.2 z.2.1 (List.mem_map.mpr ⟨z, hz, rfl⟩) e.2.1 List.mem_cons_self q
        · exact (List.nodup_cons.mp nd.2.1).1 (List.mem_map.mpr ⟨z, hz, q⟩)
      intro z hz
      rcases List.mem_append.mp hz with hz | hz
      · exact ((he3 z (by simp [hz])).step g4).other (ne z (by simp [hz]))
      · rcases List.mem_cons.mp hz with hz | hz
        · subst hz
          exact ⟨hb4.g, hb.h, upd_same, dpa_snoc hb4.d pw⟩
        · exact ((he3 z (by simp [hz])).step g4).other (ne z (by simp [hz]))
    · simpa using nd
    · simpa using dn
    · rw [add_here hek hA hB, em]
  · have hnk := be_none hn1
    have pk : putK (es.map fun e => ((Sum.inl e.1 : Key), V.ref e.2.1)) (.inl k) (.ref q) = es.map (fun e => ((Sum.inl e.1 : Key), V.ref e.2.1)) ++ [(.inl k, .ref q)] := by
      unfold putK
      rw [if_neg]
      simp
      intro a b c d'
      exact hnk _ d' rfl
    have H5q : (upd (upd H2 q (.lst [])) d (.dK (putK (es.map fun e => ((Sum.inl e.1 : Key), V.ref e.2.1)) (.inl k) (.ref q)))) q = some (.lst []) := by rw [upd_ne (Ne.symm dq), upd_same]
    have H5d : (upd (upd H2 q (.lst [])) d (.dK (putK (es.map fun e => ((Sum.inl e.1 : Key), V.ref e.2.1)) (.inl k) (.ref q)))) d = some (.dK (es.map (fun e => ((Sum.inl e.1 : Key), V.ref e.2.1)) ++ [(.inl k, .ref q)])) := by rw [upd_same, pk]
    have g5 := g3.put (o := .dK (putK (es.map fun e => ((Sum.inl e.1 : Key), V.ref e.2.1)) (.inl k) (.ref q))) hdH G2d
    refine ⟨.inl ⟨rfl, _, Evl.sq_of H5q⟩, (ea_one (hv G2 g12.up)) _ g5.ok _ fun vs G4 H4 g4 ⟨w, ev, pw⟩ => ?_⟩
    subst ev
    have G4q : G4 q = none := g4.2.2.2 q (ne_none_of H5q) G2q
    have G4d : G4 d = none := g4.2.2.2 d (ne_none_of H5d) G2d
    refine ⟨q, [], w, rfl, rfl, g4.hp _ _ H5q, by decide, kk _ ⟨G4, es ++ [(k, q, [w], [x])], (g5.trans g4).put Hq G4q, G4d, ?_, ?_, ?_, ?_, ?_⟩⟩
    · rw [upd_ne dq, g4.hp _ _ H5d]
      simp
    · intro z hz
      rcases List.mem_append.mp hz with hz | hz
      · have zd : z.2.1 ≠ d := fun e => dn (List.mem_map.mpr ⟨z, hz, e⟩)
        exact (((he3 z hz).other zd).step g4).other (eq z hz)
      · cases List.mem_singleton.mp hz
        exact ⟨G4q, Hq, upd_same, .cons pw .nil⟩
    · rw [List.map_append, List.nodup_append]
      refine ⟨nd, by simp, fun a ha b hb => ?_⟩
      simp at hb
      subst hb
      obtain ⟨e, he', rfl⟩ := List.mem_map.mp ha
      exact eq e he'
    · rw [List.map_append, List.mem_append]
      rintro (z | z)
      · exact dn z
      · simp at z; exact dq z
    · have hk' : k ∉ m.map (·.1) := fun z => by
        rw [← em, List.map_map] at z
        obtain ⟨e, he', r⟩ := List.mem_map.mp z
        exact hnk e he' r
      unfold addM
      rw [if_neg hk', List.map_append, em]
      rfl
/-- the dict is done -/
theorem DB.get {m : DM} (h : DB K G H H1 d m) (hd : H d = none) : ∃ Gf, Gr G Gf H H1 ∧ DkAt K Gf d m := by
  obtain ⟨G', es, g, gd, hd1, he, nd, dn, em⟩ := h
  have hS : ∀ a ∈ d :: es.map (fun e => e.2.1), H a = none ∧ G' a = none := fun a ha => by
    rcases List.mem_cons.mp ha with e | ha
    · rw [e]; exact ⟨hd, gd⟩
    · obtain ⟨e, h1, rfl⟩ := List.mem_map.mp ha
      exact ⟨(he e h1).h, (he e h1).g⟩
  have up : Ex G' (pick (d :: es.map (fun e => e.2.1)) G' H1) := fun a o q => by
    unfold pick
    rw [if_neg fun m => by rw [(hS a m).2] at q; cases q]
    exact q
  refine ⟨pick (d :: es.map (fun e => e.2.1)) G' H1, ⟨g.up.trans up, fun a o q => ?_, g.hp, fun a h0 h1 => ?_⟩, es.map (fun e => ((Sum.inl e.1 : Key), V.ref e.2.1)), ?_, ?_, ?_⟩
  · unfold pick at q
    split at q
    · exact q
    · exact g.ok _ _ q
  · unfold pick
    rw [if_neg fun m => h0 (hS a m).1]
    exact g.2.2.2 a h0 h1
  · rw [pick_in List.mem_cons_self]; exact hd1
  · rw [← em, List.map_map, List.map_map]; rfl
  · rw [← em, List.map_map, List.map_map]
    have key : ∀ L : List BE, (∀ e ∈ L, e ∈ es) → DpAll K (pick (d :: es.map (fun e => e.2.1)) G' H1) (L.map ((fun x => x.2) ∘ fun e => ((Sum.inl e.1 : Key), V.ref e.2.1))) (L.map ((fun p : Int × List PyData => PyData.list p.2) ∘ fun e => (e.1, e.2.2.2))) := fun L => by
      induction L with
      | nil => exact fun _ => .nil
      | cons e L ih =>
        intro hL
        have b := he e (hL e List.mem_cons_self)
        exact .cons (dp_mkL (by rw [pick_in (List.mem_cons_of_mem _ (List.mem_map.mpr ⟨e, hL e List.mem_cons_self, rfl⟩))]; exact b.l) (dpax b.d up)) (ih fun z hz => hL z (List.mem_cons_of_mem _ hz))
    exact key es fun _ h => h
end
end Lw

set_option Elab.async false
set_option linter.all false
set_option maxRecDepth 100000
set_option maxHeartbeats 4000000
/-! stock: what a place lacks, as mathematics -/
namespace Lw
open PySem PySem.Spec L2
/-- origin, goal, start, end -/
abbrev Wk := Int × Int × Int × Int
def dW (v : Wk) : PyData := .tuple [.int v.1, .int v.2.1, .int v.2.2.1, .int v.2.2.2]
def dWs (l : List Wk) : PyData := .list (l.map dW)
def badW (v : Wk) : Bool := decide (v.2.2.2 ≤ v.2.2.1)
def badAt (l : List Wk) : Option Nat := l.findIdx? badW
/-- what happens at a place -/
def evW (gap p : Int) (v : Wk) : List (Int × Int) := (if v.1 = p then [(v.2.2.1, 1)] else []) ++ (if v.2.1 = p then [(v.2.2.2 + gap, -1)] else [])
def evs (gap p : Int) (l : List Wk) : List (Int × Int) := l.flatMap (evW gap p)
def chg1 (gap : Int) (m : DM) (v : Wk) : DM := addM (addM m v.1 (dP (v.2.2.1, 1))) v.2.1 (dP (v.2.2.2 + gap, -1))
def chg (gap : Int) (l : List Wk) : DM := l.foldl (chg1 gap) []
theorem getM_cons {a : Int} {ps : List PyData} {m : DM} {k : Int} : getM ((a, ps) :: m) k = if a = k then some ps else getM m k := by
  unfold getM
  by_cases h : a = k <;> simp [h]
theorem getM_none {m : DM} {k : Int} : getM m k = none ↔ k ∉ m.map (·.1) := by
  induction m with
  | nil => simp [getM]
  | cons p m ih =>
    obtain ⟨a, ps⟩ := p
    rw [getM_cons]
    by_cases h : a = k
    · simp [h]
    · rw [if_neg h, ih]
      simp
      intro _ e
      exact h e.symm
theorem getM_app {m : DM} {a : Int} {ps : List PyData} {k : Int} (h : a ∉ m.map (·.1)) : getM (m ++ [(a, ps)]) k = if a = k then some ps else getM m k := by
  induction m with
  | nil => simp [getM_cons, getM]
  | cons p m ih =>
    obtain ⟨b, qs⟩ := p
    simp only [List.map_cons, List.mem_cons, not_or] at h
    rw [List.cons_append, getM_cons, getM_cons, ih h.2]
    by_cases h1 : b = k <;> by_cases h2 : a = k <;> simp [h1, h2]
    exact absurd (h2.trans h1.symm) h.1
theorem getM_upd {m : DM} {a : Int} {x : PyData} {k : Int} : getM (m.map fun p => if p.1 = a then (p.1, p.2 ++ [x]) else p) k = if a = k then (getM m k).map (· ++ [x]) else getM m k := by
  induction m with
  | nil => simp [getM]
  | cons p m ih =>
    obtain ⟨b, qs⟩ := p
    simp only [List.map_cons]
    by_cases h1 : b = a
    · subst h1
      rw [if_pos rfl, getM_cons, getM_cons, ih]
      by_cases h2 : b = k <;> simp [h2]
    · rw [if_neg h1, getM_cons, getM_cons, ih]
      by_cases h2 : b = k <;> by_cases h3 : a = k <;> simp [h2, h3]
      exact absurd (h2.trans h3.symm) h1
theorem getL_add {m : DM} {a : Int} {x : PyData} {k : Int} : getL (addM m a x) k = if a = k then getL m k ++ [x] else getL m k := by
  unfold getL addM
  by_cases h : a ∈ m.map (·.1)
  · rw [if_pos h, getM_upd]
    by_cases h2 : a = k
    · subst h2
      rw [if_pos rfl, if_pos rfl]
      cases e : getM m a with
      | none => exact absurd h (getM_none.mp e)
      | some ps => rfl
    · rw [if_neg h2, if_neg h2]
  · rw [if_neg h, getM_app h]
    by_cases h2 : a = k
    · subst h2
      rw [if_pos rfl, if_pos rfl, getM_none.mpr h]
      rfl
    · rw [if_neg h2, if_neg h2]
theorem addM_keys {m : DM} {a : Int} {x : PyData} {k : Int} : k ∈ (addM m a x).map (·.1) ↔ k = a ∨ k ∈ m.map (·.1) := by
  unfold addM
  split
  · rename_i h
    rw [List.map_map]
    have : ((fun x : Int × List PyData => x.1) ∘ fun p => if p.1 = a then (p.1, p.2 ++ [x]) else p) = fun x => x.1 := by
      funext p; simp only [Function.comp]; split <;> rfl
    rw [this]
    exact ⟨.inr, fun z => z.elim (fun e => e ▸ h) id⟩
  · rw [List.map_append, List.mem_append]
    simp
    exact ⟨fun z => z.elim .inr .inl, fun z => z.elim .inr .inl⟩
theorem addM_nd {m : DM} {a : Int} {x : PyData} (h : (m.map (·.1)).Nodup) : ((addM m a x).map (·.1)).Nodup := by
  unfold addM
  split
  · rw [List.map_map]
    have : ((fun x : Int × List PyData => x.1) ∘ fun p => if p.1 = a then (p.1, p.2 ++ [x]) else p) = fun x => x.1 := by
      funext p; simp only [Function.comp]; split <;> rfl
    rw [this]; exact h
  · rename_i q
    rw [List.map_append, List.nodup_append]
    refine ⟨h, by simp, fun b hb c hc => ?_⟩
    simp at hc
    subst hc
    exact fun e => q (e ▸ hb)
theorem addM_len {m : DM} {a : Int} {x : PyData} : (addM m a x).length ≤ m.length + 1 := by
  unfold addM
  split <;> simp
theorem addM_row {m : DM} {a : Int} {x : PyData} {N : Nat} (h : ∀ p ∈ m, p.2.length ≤ N) : ∀ p ∈ addM m a x, p.2.length ≤ N + 1 := fun p hp => by
  unfold addM at hp
  split at hp
  · obtain ⟨q, hq, rfl⟩ := List.mem_map.mp hp
    have := h q hq
    split
    · simp; omega
    · omega
  · rcases List.mem_append.mp hp with hp | hp
    · have := h p hp; omega
    · cases List.mem_singleton.mp hp; simp
structure ChgOk (gap : Int) (l : List Wk) (m : DM) : Prop where
  nd : (m.map (·.1)).Nodup
  len : m.length ≤ 2 * l.length
  row : ∀ p ∈ m, p.2.length ≤ 2 * l.length
  get : ∀ k, getL m k = (evs gap k l).map dP
  key : ∀ k, k ∈ m.map (·.1) ↔ ∃ v ∈ l, v.1 = k ∨ v.2.1 = k
theorem chg_nil (gap : Int) : ChgOk gap [] [] := ⟨by simp, by simp, by simp, fun k => rfl, by simp⟩
theorem evs_app {gap p : Int} {l : List Wk} {v : Wk} : evs gap p (l ++ [v]) = evs gap p l ++ evW gap p v := by simp [evs]
theorem ChgOk.add {gap : Int} {l : List Wk} {m : DM} (h : ChgOk gap l m) (v : Wk) : ChgOk gap (l ++ [v]) (chg1 gap m v) := by
  refine ⟨addM_nd (addM_nd h.nd), ?_, ?_, fun k => ?_, fun k => ?_⟩
  · have := @addM_len (addM m v.1 (dP (v.2.2.1, 1))) v.2.1 (dP (v.2.2.2 + gap, -1))
    have := @addM_len m v.1 (dP (v.2.2.1, 1))
    have := h.len
    unfold chg1
    rw [List.length_append, List.length_singleton]; omega
  · intro p hp
    have := addM_row (addM_row h.row) p hp
    rw [List.length_append, List.length_singleton]; omega
  · unfold chg1
    rw [getL_add, getL_add, h.get, evs_app, List.map_append]
    unfold evW
    by_cases h1 : v.1 = k <;> by_cases h2 : v.2.1 = k <;> simp [h1, h2]
  · unfold chg1
    rw [addM_keys, addM_keys, h.key]
    simp only [List.mem_append, List.mem_singleton]
    constructor
    · rintro (e | e | ⟨u, hu, e⟩)
      · exact ⟨v, .inr rfl, .inr e.symm⟩
      · exact ⟨v, .inr rfl, .inl e.symm⟩
      · exact ⟨u, .inl hu, e⟩
    · rintro ⟨u, hu | rfl, e⟩
      · exact .inr (.inr ⟨u, hu, e⟩)
      · exact e.elim (fun e => .inr (.inl e.symm)) fun e => .inl e.symm
theorem chg_snoc {gap : Int} {l : List Wk} {v : Wk} : chg gap (l ++ [v]) = chg1 gap (chg gap l) v := by simp [chg]
theorem chg_ok (gap : Int) (l : List Wk) : ChgOk gap l (chg gap l) := by
  have key : ∀ n, ∀ l : List Wk, l.length = n → ChgOk gap l (chg gap l) := fun n => by
    induction n with
    | zero => intro l h; rw [List.length_eq_zero_iff.mp h]; exact chg_nil gap
    | succ n ih =>
      intro l h
      have hne : l ≠ [] := by rintro rfl; simp at h
      rw [← List.dropLast_concat_getLast hne, chg_snoc]
      exact (ih _ (by rw [List.length_dropLast]; omega)).add _
  exact key _ l rfl
/-! the greatest surplus -/
def sm : List (Int × Int) → Int → Int
  | [], _ => 0
  | (m, c) :: l, x => (if m ≤ x then c else 0) + sm l x
theorem sm_app {l k : List (Int × Int)} {x : Int} : sm (l ++ k) x = sm l x + sm k x := by
  induction l with
  | nil => simp [sm]
  | cons p l ih => obtain ⟨m, c⟩ := p; simp only [List.cons_append, sm, ih]; omega
theorem sm_perm {l k : List (Int × Int)} (h : l.Perm k) (x : Int) : sm l x = sm k x := by
  induction h with
  | nil => rfl
  | cons p _ ih => obtain ⟨m, c⟩ := p; simp only [sm, ih]
  | swap p q l => obtain ⟨m, c⟩ := p; obtain ⟨n, d⟩ := q; simp only [sm]; omega
  | trans _ _ h1 h2 => exact h1.trans h2
theorem sm_low {l : List (Int × Int)} {x : Int} (h : ∀ p ∈ l, x < p.1) : sm l x = 0 := by
  induction l with
  | nil => rfl
  | cons p l ih =>
    obtain ⟨m, c⟩ := p
    have h1 := h (m, c) List.mem_cons_self
    have h1' : x < m := h1
    simp only [sm]
    rw [if_neg (by omega), ih fun q hq => h q (List.mem_cons_of_mem _ hq)]; rfl
theorem sm_pos {l : List (Int × Int)} {x : Int} (h : ∀ p ∈ l, x < p.1 ∨ 0 ≤ p.2) : 0 ≤ sm l x := by
  induction l with
  | nil => exact Int.le_refl _
  | cons p l ih =>
    obtain ⟨m, c⟩ := p
    have h1 := h (m, c) List.mem_cons_self
    have h2 := ih fun q hq => h q (List.mem_cons_of_mem _ hq)
    simp only [sm] at *
    split <;> omega
theorem sm_same {l : List (Int × Int)} {x y : Int} (h : ∀ p ∈ l, p.1 ≤ x ↔ p.1 ≤ y) : sm l x = sm l y := by
  induction l with
  | nil => rfl
  | cons p l ih =>
    obtain ⟨m, c⟩ := p
    have h1 : m ≤ x ↔ m ≤ y := h (m, c) List.mem_cons_self
    simp only [sm, ih fun q hq => h q (List.mem_cons_of_mem _ hq)]
    by_cases z : m ≤ x
    · rw [if_pos z, if_pos (h1.mp z)]
    · rw [if_neg z, if_neg fun w => z (h1.mpr w)]
abbrev TopV := Int × Option Int
def IsTop (S : Int → Int) (r : TopV) : Prop := (r = (0, none) ∧ ∀ x, S x ≤ 0) ∨ ∃ g m, r = (g, some m) ∧ 0 < g ∧ S m = g ∧ (∀ x, S x ≤ g) ∧ ∀ x, x < m → S x < g
theorem top_uniq {S : Int → Int} {r r' : TopV} (h : IsTop S r) (h' : IsTop S r') : r = r' := by
  rcases h with ⟨rfl, h⟩ | ⟨g, m, rfl, h0, h1, h2, h3⟩ <;> rcases h' with ⟨rfl, h'⟩ | ⟨g', m', rfl, h0', h1', h2', h3'⟩
  · rfl
  · have := h m'; omega
  · have := h' m; omega
  · have a := h2 m'
    have b := h2' m
    have e : g = g' := by omega
    subst e
    have : m = m' := by
      rcases Int.lt_trichotomy m m' with z | z | z
      · have := h3' m z; omega
      · exact z
      · have := h3 m' z; omega
    rw [this]
def goS : List (Int × Int) → Int → TopV → TopV
  | [], _, r => r
  | (m, c) :: l, s, r => if s + c > r.1 then goS l (s + c) (s + c, some m) else goS l (s + c) r
theorem goS_snoc {m c : Int} : ∀ {l : List (Int × Int)} {s : Int} {r : TopV}, goS (l ++ [(m, c)]) s r = if (s + (l.map (·.2)).sum) + c > (goS l s r).1 then (s + (l.map (·.2)).sum + c, some m) else goS l s r
  | [], s, r => by simp [goS]
  | (m', c') :: l, s, r => by
    simp only [List.cons_append, goS, List.map_cons, List.sum_cons]
    split <;> rw [goS_snoc] <;> rw [show s + c' + (l.map (·.2)).sum = s + (c' + (l.map (·.2)).sum) by omega]
theorem goS_ok : ∀ {l : List (Int × Int)} {s g : Int} {a : Option Int}, l.Pairwise lexLe → (∀ p ∈ l, p.2 = 1 ∨ p.2 = -1) → s ≤ g →
    (goS l s (g, a) = (g, a) ∧ ∀ x, s + sm l x ≤ g) ∨ ∃ g' m, goS l s (g, a) = (g', some m) ∧ g < g' ∧ s + sm l m = g' ∧ (∀ x, s + sm l x ≤ g') ∧ ∀ x, x < m → s + sm l x < g'
  | [], s, g, a, _, _, h => .inl ⟨rfl, fun x => by simp [sm]; exact h⟩
  | (m, c) :: l, s, g, a, hp, hc, h => by
    obtain ⟨p1, p2⟩ := List.pairwise_cons.mp hp
    have c1 : c = 1 ∨ c = -1 := hc (m, c) List.mem_cons_self
    have hc2 := fun p hp => hc p (List.mem_cons_of_mem _ hp)
    have lo : ∀ x, x < m → sm l x = 0 := fun x hx => sm_low fun p hp => by
      have := p1 p hp; unfold lexLe at this; simp at this; omega
    have w1 : ∀ x, x < m → sm ((m, c) :: l) x = 0 := fun x hx => by simp only [sm]; rw [if_neg (by omega), lo x hx]; rfl
    have w2 : ∀ x, m ≤ x → sm ((m, c) :: l) x = c + sm l x := fun x hx => by simp only [sm]; rw [if_pos hx]
    simp only [goS]
    by_cases q : s + c > g
    · rw [if_pos q]
      have ec : c = 1 := by omega
      rcases goS_ok (g := s + c) (a := some m) p2 hc2 (Int.le_refl _) with ⟨e, k⟩ | ⟨g', m', e, k1, k2, k3, k4⟩
      · refine .inr ⟨s + c, m, e, q, ?_, fun x => ?_, fun x hx => ?_⟩
        · rw [w2 m (Int.le_refl _)]
          have z1 := k m
          have z2 : 0 ≤ sm l m := sm_pos fun p hp => by
            have := p1 p hp; unfold lexLe at this; simp at this; omega
          omega
        · by_cases z : x < m
          · rw [w1 x z]; omega
          · rw [w2 x (by omega)]; have := k x; omega
        · rw [w1 x hx]; omega
      · have hm : m ≤ m' := Int.not_lt.mp fun z => by rw [lo m' z] at k2; omega
        refine .inr ⟨g', m', e, by omega, by rw [w2 m' hm]; omega, fun x => ?_, fun x hx => ?_⟩
        · by_cases z : x < m
          · rw [w1 x z]; omega
          · rw [w2 x (by omega)]; have := k3 x; omega
        · by_cases z : x < m
          · rw [w1 x z]; omega
          · rw [w2 x (by omega)]; have := k4 x hx; omega
    · rw [if_neg q]
      rcases goS_ok (g := g) (a := a) p2 hc2 (show s + c ≤ g by omega) with ⟨e, k⟩ | ⟨g', m', e, k1, k2, k3, k4⟩
      · refine .inl ⟨e, fun x => ?_⟩
        by_cases z : x < m
        · rw [w1 x z]; omega
        · rw [w2 x (by omega)]; have := k x; omega
      · have hm : m ≤ m' := Int.not_lt.mp fun z => by rw [lo m' z] at k2; omega
        refine .inr ⟨g', m', e, k1, by rw [w2 m' hm]; omega, fun x => ?_, fun x hx => ?_⟩
        · by_cases z : x < m
          · rw [w1 x z]; omega
          · rw [w2 x (by omega)]; have := k3 x; omega
        · by_cases z : x < m
          · rw [w1 x z]; omega
          · rw [w2 x (by omega)]; have := k4 x hx; omega
/-- what the program tells -/
def topP (l : List (Int × Int)) : TopV := goS (srtP l) 0 (0, none)
theorem topP_ok {l : List (Int × Int)} (h : ∀ p ∈ l, p.2 = 1 ∨ p.2 = -1) : IsTop (sm l) (topP l) := by
  have e : ∀ x, sm (srtP l) x = sm l x := fun x => sm_perm (srtP_perm l) x
  rcases goS_ok (g := 0) (s := 0) (a := none) (srtP_sorted l) (fun p hp => h p ((srtP_perm l).mem_iff.mp hp)) (Int.le_refl _) with ⟨e1, k⟩ | ⟨g', m, e1, k1, k2, k3, k4⟩
  · exact .inl ⟨e1, fun x => by have := k x; rw [e] at this; omega⟩
  · exact .inr ⟨g', m, e1, k1, by rw [e] at k2; omega, fun x => by have := k3 x; rw [e] at this; omega, fun x hx => by have := k4 x hx; rw [e] at this; omega⟩
theorem evs_one {gap p : Int} {l : List Wk} : ∀ q ∈ evs gap p l, q.2 = 1 ∨ q.2 = -1 := fun q hq => by
  obtain ⟨v, _, h⟩ := List.mem_flatMap.mp hq
  unfold evW at h
  rcases List.mem_append.mp h with h | h <;> split at h <;> simp at h <;> simp [h]
/-- what the law tells -/
def goL (S : Int → Int) (r : TopV) (m : Int) : TopV := if S m > r.1 then (S m, some m) else r
theorem goL_ok {S : Int → Int} : ∀ {L : List Int} {g : Int} {a : Option Int}, L.Pairwise (· ≤ ·) → (L.foldl (goL S) (g, a) = (g, a) ∧ ∀ y ∈ L, S y ≤ g) ∨ ∃ g' m, L.foldl (goL S) (g, a) = (g', some m) ∧ g < g' ∧ S m = g' ∧ (∀ y ∈ L, S y ≤ g') ∧ ∀ y ∈ L, y < m → S y < g'
  | [], g, a, _ => .inl ⟨rfl, by simp⟩
  | y :: L, g, a, h => by
    obtain ⟨h1, h2⟩ := List.pairwise_cons.mp h
    simp only [List.foldl_cons]
    by_cases q : S y > g
    · rw [show goL S (g, a) y = (S y, some y) from if_pos q]
      rcases goL_ok (S := S) (g := S y) (a := some y) h2 with ⟨e, k⟩ | ⟨g', m, e, k1, k2, k3, k4⟩
      · refine .inr ⟨S y, y, e, q, rfl, fun z hz => ?_, fun z hz hl => ?_⟩
        · rcases List.mem_cons.mp hz with rfl | hz
          · omega
          · exact k z hz
        · rcases List.mem_cons.mp hz with rfl | hz
          · omega
          · have := h1 z hz; omega
      · refine .inr ⟨g', m, e, by omega, k2, fun z hz => ?_, fun z hz hl => ?_⟩
        · rcases List.mem_cons.mp hz with rfl | hz
          · omega
          · exact k3 z hz
        · rcases List.mem_cons.mp hz with rfl | hz
          · omega
          · exact k4 z hz hl
    · rw [show goL S (g, a) y = (g, a) from if_neg q]
      rcases goL_ok (S := S) (g := g) (a := a) h2 with ⟨e, k⟩ | ⟨g', m, e, k1, k2, k3, k4⟩
      · refine .inl ⟨e, fun z hz => ?_⟩
        rcases List.mem_cons.mp hz with rfl | hz
        · omega
        · exact k z hz
      · refine .inr ⟨g', m, e, k1, k2, fun z hz => ?_, fun z hz hl => ?_⟩
        · rcases List.mem_cons.mp hz with rfl | hz
          · omega
          · exact k3 z hz
        · rcases List.mem_cons.mp hz with rfl | hz
          · omega
          · exact k4 z hz hl
theorem sm_at {l : List (Int × Int)} (x : Int) : (∀ p ∈ l, x < p.1) ∨ ∃ y ∈ l.map (·.1), y ≤ x ∧ ∀ p ∈ l, p.1 ≤ x → p.1 ≤ y := by
  induction l with
  | nil => exact .inl (by simp)
  | cons p l ih =>
    obtain ⟨m, c⟩ := p
    by_cases hm : m ≤ x
    · right
      rcases ih with h | ⟨y, hy, h1, h2⟩
      · refine ⟨m, by simp, hm, fun q hq hx => ?_⟩
        rcases List.mem_cons.mp hq with rfl | hq
        · exact Int.le_refl _
        · have := h q hq; omega
      · by_cases z : m ≤ y
        · refine ⟨y, List.mem_cons_of_mem _ hy, h1, fun q hq hx => ?_⟩
          rcases List.mem_cons.mp hq with rfl | hq
          · exact z
          · exact h2 q hq hx
        · refine ⟨m, by simp, hm, fun q hq hx => ?_⟩
          rcases List.mem_cons.mp hq with rfl | hq
          · exact Int.le_refl _
          · have := h2 q hq hx; omega
    · rcases ih with h | ⟨y, hy, h1, h2⟩
      · left
        intro q hq
        rcases List.mem_cons.mp hq with rfl | hq
        · show x < m; omega
        · exact h q hq
      · right
        refine ⟨y, List.mem_cons_of_mem _ hy, h1, fun q hq hx => ?_⟩
        rcases List.mem_cons.mp hq with rfl | hq
        · exact absurd hx hm
        · exact h2 q hq hx
theorem topL_ok {l : List (Int × Int)} {L : List Int} (hs : L.Pairwise (· ≤ ·)) (hm : ∀ p ∈ l, p.1 ∈ L) : IsTop (sm l) (L.foldl (goL (sm l)) (0, none)) := by
  have at' : ∀ x, sm l x = 0 ∨ ∃ y ∈ L, y ≤ x ∧ sm l x = sm l y := fun x => by
    rcases sm_at (l := l) x with h | ⟨y, hy, h1, h2⟩
    · exact .inl (sm_low h)
    · obtain ⟨p, hp, rfl⟩ := List.mem_map.mp hy
      exact .inr ⟨p.1, hm p hp, h1, sm_same fun q hq => ⟨h2 q hq, fun z => by omega⟩⟩
  rcases goL_ok (S := sm l) (g := 0) (a := none) hs with ⟨e, k⟩ | ⟨g', m, e, k1, k2, k3, k4⟩
  · refine .inl ⟨e, fun x => ?_⟩
    rcases at' x with h | ⟨y, hy, _, h⟩
    · omega
    · rw [h]; exact k y hy
  · refine .inr ⟨g', m, e, k1, k2, fun x => ?_, fun x hx => ?_⟩
    · rcases at' x with h | ⟨y, hy, _, h⟩
      · omega
      · rw [h]; exact k3 y hy
    · rcases at' x with h | ⟨y, hy, hl, h⟩
      · omega
      · rw [h]; exact k4 y hy (by omega)
def leftN (p : Int) (l : List Wk) (m : Int) : List Wk := l.filter fun v => decide (v.1 = p ∧ v.2.2.1 ≤ m)
def readyN (p gap : Int) (l : List Wk) (m : Int) : List Wk := l.filter fun v => decide (v.2.1 = p ∧ v.2.2.2 + gap ≤ m)
theorem surplus_eq {p gap m : Int} {l : List Wk} : ((leftN p l m).length : Int) - ((readyN p gap l m).length : Int) = sm (evs gap p l) m := by
  induction l with
  | nil => rfl
  | cons v l ih =>
    have e : sm (evs gap p (v :: l)) m = sm (evW gap p v) m + sm (evs gap p l) m := by
      show sm (evW gap p v ++ evs gap p l) m = _
      exact sm_app
    rw [e, ← ih]
    unfold leftN readyN evW
    rw [sm_app]
    by_cases h1 : v.1 = p <;> by_cases h2 : v.2.1 = p <;> by_cases h3 : v.2.2.1 ≤ m <;> by_cases h4 : v.2.2.2 + gap ≤ m <;> simp [h1, h2, h3, h4, sm] <;> omega
/-- the moments of all workings -/
def momW (gap : Int) (l : List Wk) : List Int := l.map (fun v => v.2.2.1) ++ l.map (fun v => v.2.2.2 + gap)
theorem evs_mom {gap p : Int} {l : List Wk} : ∀ q ∈ evs gap p l, q.1 ∈ momW gap l := fun q hq => by
  obtain ⟨v, hv, h⟩ := List.mem_flatMap.mp hq
  unfold evW at h
  unfold momW
  rw [List.mem_append]
  rcases List.mem_append.mp h with h | h <;> split at h <;> simp at h <;> subst h
  · exact .inl (List.mem_map.mpr ⟨v, hv, rfl⟩)
  · exact .inr (List.mem_map.mpr ⟨v, hv, rfl⟩)
theorem due_eq {gap p : Int} {l : List Wk} {L : List Int} (hs : L.Pairwise (· ≤ ·)) (hp : L.Perm (momW gap l)) : L.foldl (goL (sm (evs gap p l))) (0, none) = topP (evs gap p l) :=
  top_uniq (topL_ok hs fun q hq => hp.mem_iff.mpr (evs_mom q hq)) (topP_ok evs_one)
/-! the sets of all places -/
def topAt (gap : Int) (l : List Wk) (p : Int) : Int := (topP (evs gap p l)).1
def setsOf (gap : Int) (l : List Wk) (ps : List Int) : List (Int × Int) := (ps.map fun p => (p, topAt gap l p)).filter fun q => decide (q.2 > 0)
theorem topP_nil : topP [] = (0, none) := by simp [topP, srtP, goS]
theorem evs_nokey {gap p : Int} {l : List Wk} (h : ¬ ∃ v ∈ l, v.1 = p ∨ v.2.1 = p) : evs gap p l = [] := by
  unfold evs
  rw [List.flatMap_eq_nil_iff]
  intro v hv
  unfold evW
  rw [if_neg fun e => h ⟨v, hv, .inl e⟩, if_neg fun e => h ⟨v, hv, .inr e⟩]; rfl
theorem asc_uniq : ∀ {a b : List Int}, a.Pairwise (· < ·) → b.Pairwise (· < ·) → (∀ x, x ∈ a ↔ x ∈ b) → a = b := fun {a b} h1 h2 h => by
  have p : a.Perm b := (List.perm_ext_iff_of_nodup (h1.imp fun z => Int.ne_of_lt z) (h2.imp fun z => Int.ne_of_lt z)).mpr h
  exact int_uniq p (h1.imp Int.le_of_lt) (h2.imp Int.le_of_lt)
theorem sets_eq {gap : Int} {l : List Wk} {ks ps : List Int} (h1 : ks.Pairwise (· < ·)) (h2 : ps.Pairwise (· < ·)) (hk : ∀ k, k ∈ ks ↔ ∃ v ∈ l, v.1 = k ∨ v.2.1 = k) (hp : ∀ v ∈ l, v.1 ∈ ps ∧ v.2.1 ∈ ps) : setsOf gap l ks = setsOf gap l ps := by
  have f : ∀ qs : List Int, setsOf gap l qs = (qs.filter fun p => decide (topAt gap l p > 0)).map fun p => (p, topAt gap l p) := fun qs => by
    unfold setsOf
    rw [List.filter_map]
    rfl
  rw [f, f]
  congr 1
  refine asc_uniq (h1.filter _) (h2.filter _) fun x => ?_
  simp only [List.mem_filter, decide_eq_true_eq]
  refine ⟨fun ⟨a, b⟩ => ⟨?_, b⟩, fun ⟨a, b⟩ => ⟨(hk x).mpr (Classical.byContradiction fun z => ?_), b⟩⟩
  · obtain ⟨v, hv, e⟩ := (hk x).mp a
    rcases e with rfl | rfl
    · exact (hp v hv).1
    · exact (hp v hv).2
  · unfold topAt at b
    rw [evs_nokey z, topP_nil] at b
    exact absurd b (by decide)
end Lw

set_option Elab.async false
set_option linter.all false
set_option maxRecDepth 100000
set_option maxHeartbeats 4000000
/-! stock: promises -/
namespace Lw
open PySem PySem.Spec L2
open Evl (Ex)
theorem hu1 {k : Nat} {A : Around} (r : Room k A) : A.units + 1 < cLine := by have := r.un; omega
section
variable {K : PySem.W.Frag} {σ : L2.St} {G G' H H1 : Hp} {D : Ends} {CB : Addr}
theorem dpa_ints4 {vs : List V} {a b c d : Int} (h : DpAll K G vs [.int a, .int b, .int c, .int d]) : vs = [.int a, .int b, .int c, .int d] := dpa_ints_eq (zs := [a, b, c, d]) h
theorem dpa_ints2 {vs : List V} {a b : Int} (h : DpAll K G vs [.int a, .int b]) : vs = [.int a, .int b] := dpa_ints_eq (zs := [a, b]) h
theorem dp_W {x : V} {v : Wk} (h : Dp K G x (dW v)) : ∃ b, x = .ref b ∧ SqT K G b [.int v.1, .int v.2.1, .int v.2.2.1, .int v.2.2.2] := by
  obtain ⟨b, xs, e, hs, hx⟩ := dp_tup h
  rw [dpa_ints4 hx] at hs
  exact ⟨b, e, hs⟩
theorem dp_P {x : V} {p : Int × Int} (h : Dp K G x (dP p)) : ∃ b, x = .ref b ∧ SqT K G b [.int p.1, .int p.2] := by
  obtain ⟨b, xs, e, hs, hx⟩ := dp_tup h
  rw [dpa_ints2 hx] at hs
  exact ⟨b, e, hs⟩
def dOpt : Option Int → PyData
  | none => .none
  | some m => .int m
def dTop (r : TopV) : PyData := .tuple [.int r.1, dOpt r.2]
def vOpt : Option Int → V
  | none => .non
  | some m => .int m
theorem dp_opt {o : Option Int} : Dp K G (vOpt o) (dOpt o) := by
  cases o
  · exact .non
  · exact .int _
def spCheckW (K : PySem.W.Frag) (CB : Addr) : Sp := fun vs H Q E => ∃ (G : Hp) (a : Addr) (ws : List Wk), Ex G H ∧ vs = [.ref a] ∧ Dp K G (.ref a) (dWs ws) ∧ (badAt ws = none → Ret G H (XV .non) Q) ∧ ∀ i : Nat, badAt ws = some i → Rse CB [("index", .int (i : Int))] G H E
theorem st_checkW {ws : List Wk} {a : Addr} {E : L2.St → XK} {ta : TE} (hG : Ex G H) (ha : EF ta σ G (XV (.ref a))) (hd : Dp K G (.ref a) (dWs ws)) (k0 : badAt ws = none → ∀ H', Ex H H' → D.nx σ H') (k1 : ∀ i : Nat, badAt ws = some i → Rse CB [("index", .int (i : Int))] G H (E σ)) :
    tDrop (tCallSD (spCheckW K CB) [] E (tCons ta tNil)) D σ H :=
  st_callX hG (ea_one ha) fun vs G' H' g ⟨x, ev, hx⟩ => by
    cases (show x = .ref a from hx)
    subst ev
    exact ⟨G', a, ws, g.ok, rfl, dpx hd g.up, fun hb v G2 H2 g2 _ => k0 hb H2 (g.hp.trans g2.hp), fun i hi => (k1 i hi).up g⟩
def spChanges (K : PySem.W.Frag) : Sp := fun vs H Q _ => ∃ (G : Hp) (a : Addr) (ws : List Wk) (gap : Int), Ex G H ∧ vs = [.ref a, .int gap] ∧ Dp K G (.ref a) (dWs ws) ∧ ws.length ≤ 200 ∧ Ret G H (fun v G' => ∃ d, v = .ref d ∧ DkAt K G' d (chg gap ws)) Q
theorem sa_changes {a : Addr} {ws : List Wk} {gap : Int} (hd : Dp K G (.ref a) (dWs ws)) (hl : ws.length ≤ 200) : SA (spChanges K) [.ref a, .int gap] G (fun v G' => ∃ d, v = .ref d ∧ DkAt K G' d (chg gap ws)) := fun H e Q _ q => ⟨G, a, ws, gap, e, rfl, hd, hl, q⟩
def spGS (K : PySem.W.Frag) : Sp := fun vs H Q _ => ∃ (G : Hp) (x : V) (l : List (Int × Int)), Ex G H ∧ vs = [x] ∧ Dp K G x (dPs l) ∧ Ret G H (DV K (dTop (topP l))) Q
theorem sa_gs {x : V} {l : List (Int × Int)} (hd : Dp K G x (dPs l)) : SA (spGS K) [x] G (DV K (dTop (topP l))) := fun H e Q _ q => ⟨G, x, l, e, rfl, hd, q⟩
/-- what deficit and least_sets do -/
def spDeficit (K : PySem.W.Frag) (CB : Addr) : Sp := fun vs H Q E => ∃ (G : Hp) (a : Addr) (ws : List Wk) (p gap : Int), Ex G H ∧ vs = [.ref a, .int p, .int gap] ∧ Dp K G (.ref a) (dWs ws) ∧ ws.length ≤ 200 ∧ (badAt ws = none → Ret G H (DV K (dTop (topP (evs gap p ws)))) Q) ∧ ∀ i : Nat, badAt ws = some i → Rse CB [("index", .int (i : Int))] G H E
def spLeast (K : PySem.W.Frag) (CB : Addr) : Sp := fun vs H Q E => ∃ (G : Hp) (a : Addr) (ws : List Wk) (gap : Int), Ex G H ∧ vs = [.ref a, .int gap] ∧ Dp K G (.ref a) (dWs ws) ∧ ws.length ≤ 200 ∧ (badAt ws = none → ∀ ks : List Int, ks.Pairwise (· < ·) → (∀ k, k ∈ ks ↔ ∃ v ∈ ws, v.1 = k ∨ v.2.1 = k) → Ret G H (DV K (dPs (setsOf gap ws ks))) Q) ∧ ∀ i : Nat, badAt ws = some i → Rse CB [("index", .int (i : Int))] G H E
theorem st_par2 {i j : Nat} {x y : V} {ta tb : TE} (hG : Ex G H) (ha : EF ta σ G (XV x)) (hb : EF tb σ G (XV y)) (k : ∀ G' H', Gr G G' H H' → D.nx ((σ.set i (some x)).set j (some y)) H') : tPar i j (tCons ta (tCons tb tNil)) D σ H :=
  (ea_two mo_XV mo_XV ha hb) H hG _ fun vs G' H' g ⟨u, v, ev, hu, hv⟩ => by
    cases (show u = x from hu)
    cases (show v = y from hv)
    exact ⟨_, _, ev, k G' H' g⟩
theorem getM_L {m : DM} {k : Int} (h : k ∈ m.map (·.1)) : getM m k = some (getL m k) := by
  unfold getL
  cases e : getM m k with
  | none => exact absurd h (getM_none.mp e)
  | some ps => rfl
theorem mo_dk {m : DM} : Mo fun v G => ∃ d, v = .ref d ∧ DkAt K G d m := fun v G G' e ⟨d, h1, h2⟩ => ⟨d, h1, h2.ex e⟩
end
end Lw

set_option Elab.async false
set_option linter.all false
set_option maxRecDepth 100000
set_option maxHeartbeats 4000000
/-! comprehensions over lists of tuples -/
namespace Lw
open PySem PySem.Spec L2
open Evl (Ex)
section
variable {K : PySem.W.Frag} {σ : L2.St} {G G' H H1 : Hp} {D : Ends} {te tl : TE} {t : TT} {P : VP}
/-- d.get(k, x) of a dict that a call tells -/
theorem ef_dgetC {m : DM} {k : Int} {td tk tx : TE} (hd : EF td σ G fun v G' => ∃ d, v = .ref d ∧ DkAt K G' d m) (hk : EF tk σ G (XV (.int k))) (hx : EF tx σ G (DV K (.list []))) : EF (tDGet2 td tk tx) σ G (DV K (.list (getL m k))) := fun H e Q q =>
  hd H e _ fun v G1 H1 g1 ⟨d, ev, hm⟩ => by
    subst ev
    obtain ⟨kvs, h1, h2, h3⟩ := hm
    refine ⟨d, rfl, .inl ⟨kvs, .inl (g1.ok _ _ h1)⟩, hk H1 (e.trans g1.hp) _ fun y G2 H2 g2 py => ?_⟩
    cases (show y = .int k from py)
    refine hx H2 (e.trans (g1.hp.trans g2.hp)) _ fun z G3 H3 g3 pz => ?_
    obtain ⟨G5, f1, f2, g5⟩ := g2.join g3
    obtain ⟨G4, e1, e2, g4⟩ := g1.join g5
    refine ⟨valV kvs (.inl k : Key), .inl ⟨kvs, .inl k, .inl (g4.ok _ _ (e1 _ _ h1)), rfl, rfl⟩, ?_⟩
    rcases valM (k := k) h2 h3 with ⟨a, b⟩ | ⟨u, ps, a, b, c⟩
    · rw [b]
      exact q z G4 H3 g4 (by unfold getL; rw [a]; exact dpx pz (f2.trans e2))
    · rw [b]
      exact q u G4 H3 g4 (by unfold getL; rw [a]; exact dpx c e1)
/-- a comprehension whose target is a pattern -/
theorem ef_lcG {xs : List V} {g : TG} {vs : List Nat} (σs : Nat → L2.St) (I : Nat → List V → Hp → Prop) (h : EF tl σ G fun v G' => ∃ a, v = .ref a ∧ SqL K G' a xs) (hz : xs.length ≤ 40000) (hw : ∀ i, i < xs.length → wipe (σs i) vs = wipe σ vs)
    (hg : ∀ (i : Nat) x H' (Q : L2.St → Hp → Prop), xs[i]? = some x → Ex G H' → Q (σs i) H' → g x (wipe σ vs) H' Q) (h0 : ∀ G', Ex G G' → I 0 [] G')
    (hs : ∀ (i : Nat) x acc G', Ex G G' → xs[i]? = some x → I i acc G' → EC t te (σs i) G' (fun G' => I (i + 1) acc G') fun y G' => I (i + 1) (acc ++ [y]) G')
    (hP : ∀ p acc G', G p = none → G' p = none → Ex G G' → acc.length ≤ xs.length → I xs.length acc G' → P (.ref p) (upd G' p (.lst acc))) : EF (tLc (iList K tl) g t te vs) σ G P := fun H0 e Q q => h H0 e _ fun v G1 H1 g1 ⟨a, ev, hx⟩ => ⟨a, ev, ⟨xs, Evl.ex_l g1.ok hx⟩, fun Dl hD =>
  lc_list (xs := xs) (CW G1 H1 Dl I) (cw_start g1.ok hD (h0 G1 g1.up)) (fun i H' _ p => by
    obtain ⟨G', _, e1, e2, _⟩ := p
    exact Evl.ex_l (e1.trans e2) hx) (fun i x H' hi p => by
      have hlt := (List.getElem?_eq_some_iff.mp hi).1
      refine hg i x H' _ hi ?_ ⟨hw i hlt, cw_turn hD p (by omega) fun acc G' e' hI => hs i x acc G' (g1.up.trans e') hi hI⟩
      obtain ⟨G', _, e1, e2, _⟩ := p
      exact g1.up.trans (e1.trans e2))
    (fun H' p => cw_end (P := P) hD g1.ok p (fun p xs G' g g' e' hl hI => hP p xs G' (none_back g1.up g) g' (g1.up.trans e') hl hI) fun v G' H' g' p' => q v G' H' (g1.trans g') p')⟩
/-- [f(x) for x in xs] -/
theorem el_mapX {xs : List V} {j : Nat} {g : Nat → PyData} (h : EF tl σ G fun v G' => ∃ a, v = .ref a ∧ SqL K G' a xs) (hz : xs.length ≤ 40000) (hw : ∀ x, wipe ((wipe σ [j]).set j (some x)) [j] = wipe σ [j])
    (he : ∀ (i : Nat) x G', Ex G G' → xs[i]? = some x → EF te ((wipe σ [j]).set j (some x)) G' (DV K (g i))) : EF (tLc (iList K tl) (gName j) tYes te [j]) σ G (LS K ((List.range xs.length).map g)) :=
  ef_lcL (fun i acc G' => DpAll K G' acc ((List.range i).map g)) h hz hw (fun _ _ => .nil) (fun i x acc G' e hi hI => ec_all ((he i x G' e hi).imp fun v G2 e2 p => by
      rw [List.range_succ, List.map_append]
      exact dpa_snoc (dpax hI e2) p)) fun p acc G' _ h2 _ _ hI => ⟨p, acc, rfl, upd_same, dpax hI (ex_in h2)⟩
/-- [(a, b) for a, b in js if b > 0] -/
theorem el_posP {a : Addr} {xs : List V} {js : List (Int × Int)} {i j : Nat} (h : EF tl σ G (XV (.ref a))) (hx : SqL K G a xs) (hd : DpAll K G xs (js.map dP)) (hl : js.length ≤ 40000) (hij : ∀ p q, wipe (((wipe σ [i, j]).set i p).set j q) [i, j] = wipe σ [i, j])
    (h1 : ∀ p q, (((wipe σ [i, j]).set i p).set j q)[i]? = some p) (h2 : ∀ p q, (((wipe σ [i, j]).set i p).set j q)[j]? = some q) :
    EF (tLc (iList K tl) (gTup K 2 (gCons (gName i) (gCons (gName j) gNil))) (tTest (tOp (rI0 fun i j => .bl (decide (i > j))) (tVar j) (tC (.int 0)))) (tTup (tCons (tVar i) (tCons (tVar j) tNil))) [i, j]) σ G (LS K ((js.filter fun q => decide (q.2 > 0)).map dP)) := by
  have hlen : xs.length = js.length := by have := dpa_len hd; rw [List.length_map] at this; exact this
  refine ef_lcG (xs := xs) (fun n => match js[n]? with | some p => ((wipe σ [i, j]).set i (some (.int p.1))).set j (some (.int p.2)) | none => []) (fun n acc G' => DpAll K G' acc (((js.take n).filter fun q => decide (q.2 > 0)).map dP)) (h.imp fun v G' e p => ⟨a, p, Evl.ex_l e hx⟩) (by omega) (fun n hn => ?_) (fun n x H' Q hn e q => ?_) (fun _ _ => by simpa using DpAll.nil) (fun n x acc G' e hn hI => ?_) fun p acc G' _ hp _ _ hI => ⟨p, acc, rfl, upd_same, dpax (by rw [List.take_of_length_le (by omega)] at hI; exact hI) (ex_in hp)⟩
  · rw [List.getElem?_eq_getElem (by omega)]
    exact hij _ _
  · obtain ⟨dd, hd1, dy⟩ := dpa_get hd hn
    rw [List.getElem?_map] at hd1
    obtain ⟨p, hp, rfl⟩ := Option.map_eq_some_iff.mp hd1
    obtain ⟨b, rfl, hb⟩ := dp_P dy
    rw [hp] at q
    exact g_two (Evl.ex_t e hb) q
  · obtain ⟨dd, hd1, dy⟩ := dpa_get hd hn
    rw [List.getElem?_map] at hd1
    obtain ⟨p, hp, rfl⟩ := Option.map_eq_some_iff.mp hd1
    have tk : js.take (n + 1) = js.take n ++ [p] := by rw [List.take_succ, hp, Option.toList_some]
    rw [tk, List.filter_append]
    simp only [hp]
    refine ec_if (p := (· = decide (p.2 > 0))) (et_gtI (ex_var (h2 _ _)) ex_c) (fun hb => EF.imp (P := DV K (dP p)) (ef_pairI (ex_var (h1 _ _)) (ex_var (h2 _ _))) fun v G2 e2 pv => ?_) (fun hb => ?_)
    · rw [show ([p].filter fun q => decide (q.2 > 0)) = [p] by simp [of_decide_eq_true hb.symm], List.map_append]
      exact dpa_snoc (dpax hI e2) pv
    · rw [show ([p].filter fun q => decide (q.2 > 0)) = [] by simp; exact Int.not_lt.mp (of_decide_eq_false hb.symm), List.append_nil]
      exact hI
/-- sorted(a new list of ints) -/
theorem ef_sortQ {ta : TE} {ns : List Int} (ha : EF ta σ G fun v G' => ∃ p : Addr, v = .ref p ∧ G' p = some (.lst (ns.map V.int))) : EF (tCB (rSortedI K) (tCons ta tNil)) σ G fun v G' => ∃ a : Addr, v = .ref a ∧ SqL K G' a ((srtI ns).map V.int) := fun H e Q q => ha H e _ fun x G1 H1 g1 ⟨p, ev, hp⟩ =>
  ⟨p, ns, by rw [ev], Evl.sq_of (g1.ok _ _ hp), fun ns' p2 h1 h2 h3 => q _ _ _ (g1.trans (.new g1.ok h3)) ⟨p2, rfl, Evl.sq_of (by rw [upd_same, int_uniq (h1.trans (srtI_perm ns).symm) h2 (srtI_sorted ns)])⟩⟩
end
end Lw

set_option Elab.async false
set_option linter.all false
set_option maxRecDepth 100000
set_option maxHeartbeats 4000000
/-! comprehensions over lists of data; the law of stock: promises -/
namespace Lw
open PySem PySem.Spec L2
open Evl (Ex)
section
variable {K : PySem.W.Frag} {σ : L2.St} {G G' H H1 : Hp} {D : Ends} {ta tb te tl : TE} {t : TT} {P : VP}
/-- [f(x) for x in l] -/
theorem el_mapA {α : Type} {xs : List V} {l : List α} {f g : α → PyData} {j : Nat} (h : EF tl σ G fun v G' => ∃ a, v = .ref a ∧ SqL K G' a xs) (hd : DpAll K G xs (l.map f)) (hz : l.length ≤ 40000) (hw : ∀ x, wipe ((wipe σ [j]).set j (some x)) [j] = wipe σ [j])
    (he : ∀ x w G', Ex G G' → w ∈ l → Dp K G' x (f w) → EF te ((wipe σ [j]).set j (some x)) G' (DV K (g w))) : EF (tLc (iList K tl) (gName j) tYes te [j]) σ G (LS K (l.map g)) := by
  have hlen : xs.length = l.length := by have := dpa_len hd; rw [List.length_map] at this; exact this
  refine ef_lcL (xs := xs) (fun i acc G' => DpAll K G' acc ((l.take i).map g)) h (by omega) hw (fun _ _ => .nil) (fun i x acc G' e hi hI => ?_) fun p acc G' _ h2 _ _ hI => ⟨p, acc, rfl, upd_same, dpax (by rw [List.take_of_length_le (by omega)] at hI; exact hI) (ex_in h2)⟩
  obtain ⟨dd, hd1, dy⟩ := dpa_get hd hi
  rw [List.getElem?_map] at hd1
  obtain ⟨w, hw1, rfl⟩ := Option.map_eq_some_iff.mp hd1
  rw [show l.take (i + 1) = l.take i ++ [w] by rw [List.take_succ, hw1, Option.toList_some], List.map_append]
  exact ec_all ((he x w G' e (List.mem_of_getElem? hw1) (dpx dy e)).imp fun v G2 e2 p => dpa_snoc (dpax hI e2) p)
/-- [x for x in l if p(x)] -/
theorem el_filA {α : Type} {xs : List V} {l : List α} {f : α → PyData} {p : α → Bool} {j : Nat} (h : EF tl σ G fun v G' => ∃ a, v = .ref a ∧ SqL K G' a xs) (hd : DpAll K G xs (l.map f)) (hz : l.length ≤ 40000) (hw : ∀ x, wipe ((wipe σ [j]).set j (some x)) [j] = wipe σ [j]) (hj : ∀ x, ((wipe σ [j]).set j (some x))[j]? = some (some x))
    (he : ∀ x w G', Ex G G' → w ∈ l → Dp K G' x (f w) → ET t ((wipe σ [j]).set j (some x)) G' (· = p w)) : EF (tLc (iList K tl) (gName j) t (tVar j) [j]) σ G (LS K ((l.filter p).map f)) := by
  have hlen : xs.length = l.length := by have := dpa_len hd; rw [List.length_map] at this; exact this
  refine ef_lcL (xs := xs) (fun i acc G' => DpAll K G' acc (((l.take i).filter p).map f)) h (by omega) hw (fun _ _ => .nil) (fun i x acc G' e hi hI => ?_) fun q acc G' _ h2 _ _ hI => ⟨q, acc, rfl, upd_same, dpax (by rw [List.take_of_length_le (by omega)] at hI; exact hI) (ex_in h2)⟩
  obtain ⟨dd, hd1, dy⟩ := dpa_get hd hi
  rw [List.getElem?_map] at hd1
  obtain ⟨w, hw1, rfl⟩ := Option.map_eq_some_iff.mp hd1
  rw [show l.take (i + 1) = l.take i ++ [w] by rw [List.take_succ, hw1, Option.toList_some], List.filter_append]
  refine ec_if (he x w G' e (List.mem_of_getElem? hw1) (dpx dy e)) (fun hb => EF.imp (P := XV x) (ex_var (hj x)) fun v G2 e2 pv => ?_) (fun hb => ?_)
  · rw [show ([w].filter p) = [w] by simp [← hb], List.map_append, show v = x from pv]
    exact dpa_snoc (dpax hI e2) (dpx dy (e.trans e2))
  · rw [show ([w].filter p) = [] by simp [← hb], List.append_nil]
    exact hI
theorem wk_at {a : Addr} {ws : List Wk} (h : Dp K G (.ref a) (dWs ws)) : ∃ xs, SqL K G a xs ∧ DpAll K G xs (ws.map dW) ∧ xs.length = ws.length ∧ ∀ (i : Nat) v, ws[i]? = some v → ∃ b, xs[i]? = some (.ref b) ∧ SqT K G b [.int v.1, .int v.2.1, .int v.2.2.1, .int v.2.2.2] := by
  obtain ⟨a', xs, e, hs, hx⟩ := dp_lst h
  cases e
  refine ⟨xs, hs, hx, by have := dpa_len hx; rw [List.length_map] at this; exact this, fun i v hv => ?_⟩
  obtain ⟨y, hy, dy⟩ := dpa_get' (i := i) (d := dW v) hx (by rw [List.getElem?_map, hv]; rfl)
  obtain ⟨b, rfl, hb⟩ := dp_W dy
  exact ⟨b, hy, hb⟩
/-- row[k] of a working -/
theorem ex_wk {x : V} {v : Wk} {k : Nat} {z : Int} (ha : EF ta σ G (XV x)) (hv : Dp K G x (dW v)) (hb : EF tb σ G (XV (.int (k : Int)))) (hz : ([V.int v.1, .int v.2.1, .int v.2.2.1, .int v.2.2.2])[k]? = some (.int z)) : EF (tOp (rIxT K) ta tb) σ G (XV (.int z)) := by
  obtain ⟨b, rfl, hs⟩ := dp_W hv
  exact ex_ixT ha hb hs hz
/-- rows[i][k] -/
theorem ex_wki {a : Addr} {ws : List Wk} {v : Wk} {i k : Nat} {z : Int} {ti : TE} (ha : EF ta σ G (XV (.ref a))) (hd : Dp K G (.ref a) (dWs ws)) (hi : EF ti σ G (XV (.int (i : Int)))) (hv : ws[i]? = some v) (hb : EF tb σ G (XV (.int (k : Int)))) (hz : ([V.int v.1, .int v.2.1, .int v.2.2.1, .int v.2.2.2])[k]? = some (.int z)) :
    EF (tOp (rIxT K) (tOp (rIxL K) ta ti) tb) σ G (XV (.int z)) := by
  obtain ⟨xs, h1, _, _, h2⟩ := wk_at hd
  obtain ⟨b, hb1, hb2⟩ := h2 i v hv
  exact ex_ixT (ex_ixL ha hi rfl h1 hb1) hb hb2 hz
def badI (ws : List Wk) : Int := match badAt ws with
  | some i => (i : Int)
  | none => -1
def spPlaces (K : PySem.W.Frag) : Sp := fun vs H Q _ => ∃ (G : Hp) (c : Int) (n : Nat), Ex G H ∧ vs = [.int c, .int (n : Int)] ∧ 1 ≤ n ∧ n ≤ 4 ∧ Ret G H (RL K fun ps => ps.length = n ∧ ps.Pairwise (· < ·)) Q
theorem sa_places {c : Int} {n : Nat} (h1 : 1 ≤ n) (h2 : n ≤ 4) : SA (spPlaces K) [.int c, .int (n : Int)] G (RL K fun ps => ps.length = n ∧ ps.Pairwise (· < ·)) := fun H e Q _ q => ⟨G, c, n, e, rfl, h1, h2, q⟩
def WOk (ps : List Int) (v : Wk) : Prop := v.1 ∈ ps ∧ v.2.1 ∈ ps
def spWork (K : PySem.W.Frag) : Sp := fun vs H Q _ => ∃ (G : Hp) (c kd : Int) (a : Addr) (ps : List Int), Ex G H ∧ vs = [.int c, .int kd, .ref a] ∧ SqL K G a (ps.map V.int) ∧ 1 ≤ ps.length ∧ ps.length ≤ 2000 ∧ Ret G H (fun v G' => ∃ w : Wk, WOk ps w ∧ Dp K G' v (dW w)) Q
theorem sa_work {c kd : Int} {a : Addr} {ps : List Int} (hs : SqL K G a (ps.map V.int)) (h1 : 1 ≤ ps.length) (h2 : ps.length ≤ 2000) : SA (spWork K) [.int c, .int kd, .ref a] G (fun v G' => ∃ w : Wk, WOk ps w ∧ Dp K G' v (dW w)) := fun H e Q _ q => ⟨G, c, kd, a, ps, e, rfl, hs, h1, h2, q⟩
def spFB (K : PySem.W.Frag) : Sp := fun vs H Q _ => ∃ (G : Hp) (a : Addr) (ws : List Wk), Ex G H ∧ vs = [.ref a] ∧ Dp K G (.ref a) (dWs ws) ∧ ws.length ≤ 200 ∧ Ret G H (XV (.int (badI ws))) Q
theorem sa_fb {a : Addr} {ws : List Wk} (hd : Dp K G (.ref a) (dWs ws)) (hl : ws.length ≤ 200) : SA (spFB K) [.ref a] G (XV (.int (badI ws))) := fun H e Q _ q => ⟨G, a, ws, e, rfl, hd, hl, q⟩
def spSur (K : PySem.W.Frag) : Sp := fun vs H Q _ => ∃ (G : Hp) (a : Addr) (ws : List Wk) (p gap m : Int), Ex G H ∧ vs = [.ref a, .int p, .int gap, .int m] ∧ Dp K G (.ref a) (dWs ws) ∧ ws.length ≤ 200 ∧ Ret G H (XV (.int (sm (evs gap p ws) m))) Q
theorem sa_sur {a : Addr} {ws : List Wk} {p gap m : Int} (hd : Dp K G (.ref a) (dWs ws)) (hl : ws.length ≤ 200) : SA (spSur K) [.ref a, .int p, .int gap, .int m] G (XV (.int (sm (evs gap p ws) m))) := fun H e Q _ q => ⟨G, a, ws, p, gap, m, e, rfl, hd, hl, q⟩
def spDue (K : PySem.W.Frag) : Sp := fun vs H Q _ => ∃ (G : Hp) (a : Addr) (ws : List Wk) (p gap : Int), Ex G H ∧ vs = [.ref a, .int p, .int gap] ∧ Dp K G (.ref a) (dWs ws) ∧ ws.length ≤ 200 ∧ Ret G H (DV K (dTop (topP (evs gap p ws)))) Q
theorem sa_due {a : Addr} {ws : List Wk} {p gap : Int} (hd : Dp K G (.ref a) (dWs ws)) (hl : ws.length ≤ 200) : SA (spDue K) [.ref a, .int p, .int gap] G (DV K (dTop (topP (evs gap p ws)))) := fun H e Q _ q => ⟨G, a, ws, p, gap, e, rfl, hd, hl, q⟩
def gapOf (t : Int) : Int := if t < 0 then 0 else t
def defD (ws : List Wk) (p t : Int) : PyData := match badAt ws with
  | some i => errD "BadWorking" (i : Int) true true false
  | none => .tuple [.str "told", dTop (topP (evs (gapOf t) p ws))]
def spDef (K : PySem.W.Frag) : Sp := fun vs H Q _ => ∃ (G : Hp) (a : Addr) (ws : List Wk) (p t : Int), Ex G H ∧ vs = [.ref a, .int p, .int t] ∧ Dp K G (.ref a) (dWs ws) ∧ ws.length ≤ 200 ∧ Ret G H (DV K (defD ws p t)) Q
theorem sa_def {a : Addr} {ws : List Wk} {p t : Int} (hd : Dp K G (.ref a) (dWs ws)) (hl : ws.length ≤ 200) : SA (spDef K) [.ref a, .int p, .int t] G (DV K (defD ws p t)) := fun H e Q _ q => ⟨G, a, ws, p, t, e, rfl, hd, hl, q⟩
def leaD (ws : List Wk) (ps : List Int) (t : Int) : PyData := match badAt ws with
  | some i => errD "BadWorking" (i : Int) true true false
  | none => .tuple [.str "told", dPs (setsOf (gapOf t) ws ps)]
def spLea (K : PySem.W.Frag) : Sp := fun vs H Q _ => ∃ (G : Hp) (a : Addr) (ws : List Wk) (ps : List Int) (t : Int), Ex G H ∧ vs = [.ref a, .int t] ∧ Dp K G (.ref a) (dWs ws) ∧ ws.length ≤ 200 ∧ ps.Pairwise (· < ·) ∧ (∀ v ∈ ws, WOk ps v) ∧ Ret G H (DV K (leaD ws ps t)) Q
theorem sa_lea {a : Addr} {ws : List Wk} {ps : List Int} {t : Int} (hd : Dp K G (.ref a) (dWs ws)) (hl : ws.length ≤ 200) (h1 : ps.Pairwise (· < ·)) (h2 : ∀ v ∈ ws, WOk ps v) : SA (spLea K) [.ref a, .int t] G (DV K (leaD ws ps t)) := fun H e Q _ q => ⟨G, a, ws, ps, t, e, rfl, hd, hl, h1, h2, q⟩
end
end Lw

set_option Elab.async false
set_option linter.all false
set_option maxRecDepth 100000
set_option maxHeartbeats 4000000
/-! lists that are changed by item assignment -/
namespace Lw
open PySem PySem.Spec L2
open Evl (Ex)
section
variable {K : PySem.W.Frag} {σ : L2.St} {G G' H H1 : Hp} {D : Ends} {ta tb te ti tl : TE} {P : VP}
/-- q = list(xs), q of no list that is known -/
theorem st_listC {i : Nat} {a : Addr} {xs : List V} (hG : Ex G H) (ha : EF ta σ G (XV (.ref a))) (hs : SqL K G a xs) (k : ∀ q G' H', Gr G G' H H' → H q = none → G' q = none → H' q = some (.lst xs) → D.nx (σ.set i (some (.ref q))) H') :
    tAsg (tCB (Evl.rListS K) (tCons ta tNil)) (gName i) D σ H :=
  by
    unfold tAsg tCB
    refine (ea_one ha) H hG _ fun vs G1 H1 g1 ⟨x, ev, p⟩ => ?_
    cases (show x = .ref a from p)
    exact ⟨a, xs, ev, .inl (Evl.ex_l (hG.trans g1.hp) hs), fun l hl => k l G1 _ (g1.put (none_back g1.hp hl) (none_back g1.ok hl)) (none_back g1.hp hl) (none_back g1.ok hl) upd_same⟩
/-- q[i] = e -/
theorem st_setQ {q : Addr} {ys : List V} {i : Nat} (eG : Ex G H1) (hq : H1 q = some (.lst ys)) (ho : σ[i]? = some (some (.ref q))) (hv : EF te σ G P) {p : Nat → Prop} (hi : EF ti σ G (IV fun z => ∃ j : Nat, z = (j : Int) ∧ j < ys.length ∧ p j)) (k : ∀ (j : Nat) v G2 H2, j < ys.length → p j → Gr G G2 H1 H2 → P v G2 → D.nx σ (upd H2 q (.lst (ys.set j v)))) :
    tAsg te (gSub (tVar i) ti rSetL) D σ H1 := hv H1 eG _ fun v G2 H2 g2 pv => by
  refine ⟨.ref q, ho, hi H2 (eG.trans g2.hp) _ fun w G3 H3 g3 ⟨z, ez, j, hz, hj, pj⟩ => ?_⟩
  subst hz
  exact ⟨q, ys, (j : Int), j, rfl, ez, g3.hp _ _ (g2.hp _ _ hq), ixN_nat hj, k j v G2 H3 hj pj (g2.then g3.hp) pv⟩
theorem Gr.chain {G1 G2 G3 H1 H2 H3 : Hp} (a : Gr G1 G2 H1 H2) (b : Gr G2 G3 H1 H3) : Gr G1 G3 H1 H3 := ⟨a.up.trans b.up, b.ok, b.hp, fun x h g => b.2.2.2 x h (a.2.2.2 x h g)⟩
theorem EF.ivx {z : Int} (h : EF te σ G (IV (· = z))) : EF te σ G (XV (.int z)) := h.imp fun v _ _ ⟨y, ey, hy⟩ => by rw [ey, hy]; rfl
theorem dpa_set : ∀ {ls : List V} {ds : List PyData} {j : Nat} {v : V} {d : PyData}, DpAll K G ls ds → Dp K G v d → DpAll K G (ls.set j v) (ds.set j d)
  | _, _, _, _, _, .nil, _ => .nil
  | _, _, 0, _, _, .cons h1 h2, hv => .cons hv h2
  | _, _, j + 1, _, _, .cons h1 h2, hv => .cons h1 (dpa_set h2 hv)
end
end Lw

set_option Elab.async false
set_option linter.all false
set_option maxRecDepth 100000
set_option maxHeartbeats 4000000
/-! xs[:-1] -/
namespace Lw
open PySem PySem.Spec L2
open Evl (Ex)
section
variable {K : PySem.W.Frag} {σ : L2.St} {G H : Hp} {ta tb : TE}
theorem cutV_init (xs : List V) : cutV xs none (some (-1)) = xs.take (xs.length - 1) := by
  unfold cutV
  have h1 : HT.sIx xs.length 0 none = 0 := rfl
  have h2 : HT.sIx xs.length xs.length (some (-1)) = xs.length - 1 := by
    show (if (-1 : Int) < 0 then ((-1 : Int) + (xs.length : Int)).toNat else min (-1 : Int).toNat xs.length) = xs.length - 1
    rw [if_pos (by omega)]
    omega
  rw [h1, h2]
  simp
theorem el_init {ds : List PyData} (ha : EF ta σ G (DV K (.list ds))) (hb : EF tb σ G (XV (.int (-1)))) : EF (tSl (rSlL K) ta tNoPart (tPart tb)) σ G (LS K (ds.take (ds.length - 1))) := fun H e Q q => ha H e _ fun x G1 H1 g1 hx => hb H1 (g1.up.trans g1.ok) _ fun y G2 H2 g2 hy => by
  obtain ⟨a, xs, rfl, hs, hall⟩ := dp_lst hx
  obtain ⟨G3, e1, e2, g3⟩ := g1.join g2
  refine ⟨(-1 : Int), hy, a, xs, rfl, Evl.ex_l (e1.trans g3.ok) hs, fun p hp => ?_⟩
  refine q _ _ _ (g3.trans (.new g3.ok hp)) ⟨p, _, rfl, upd_same, ?_⟩
  rw [cutV_init, dpa_len hall]
  exact dpa_take _ (dpax hall (e1.trans (ex_in (none_back g3.ok hp))))
end
end Lw

set_option Elab.async false
set_option linter.all false
set_option maxRecDepth 100000
set_option maxHeartbeats 4000000
/-! sorted of any data that can be compared -/
namespace Lw
open PySem PySem.Spec L2
open Evl (Ex)
open PyProof.Rows
def rSortD {β : Type} (K : PySem.W.Frag) (enc : β → PyData) : List V → Hp → VK → Prop := fun vs H Q => ∃ (G : Hp) (a : Addr) (xs : List V) (l : List β), Ex G H ∧ vs = [V.ref a] ∧ SqL K H a xs ∧ DpAll K G xs (l.map enc) ∧ PySem.W.AllAlike (l.map enc) ∧ PySem.W.Sortable (l.map enc) ∧ (∀ b ∈ l, (enc b).depth ≤ 50) ∧
  ∀ (ys : List V) (p : Addr), DpAll K G ys ((l.mergeSort (PySem.W.dataLe false enc)).map enc) → H p = none → Q (.ref p) (upd H p (.lst ys))
section
variable {X : Cx} {β : Type} {enc : β → PyData}
theorem each_of {K : PySem.W.Frag} {G : Hp} : ∀ {xs : List V} {l : List β} {its : List Value}, DpAll K G xs (l.map enc) → Vals xs its → PySem.W.EachIs (fun v b => ∃ x, RelV x v ∧ Dp K G x (enc b)) its l
  | [], [], _, _, .nil => .nil
  | x :: xs, b :: l, _, h, .cons rx rt => by
    cases h with
    | cons h1 h2 => exact .cons ⟨x, rx, h1⟩ (each_of h2 rt)
  | [], _ :: _, _, h, _ => nomatch h
  | _ :: _, [], _, h, _ => nomatch h
theorem of_each {K : PySem.W.Frag} {G : Hp} : ∀ {out : List Value} {l : List β}, PySem.W.EachIs (fun v b => ∃ x, RelV x v ∧ Dp K G x (enc b)) out l → ∃ ys : List V, Vals ys out ∧ DpAll K G ys (l.map enc)
  | _, _, .nil => ⟨[], .nil, .nil⟩
  | _, _, .cons ⟨x, h1, h2⟩ t => by
    obtain ⟨ys, h3, h4⟩ := of_each t
    exact ⟨x :: ys, .cons h1 h3, .cons h2 h4⟩
theorem cr_sortD (hu : X.A.units + 65 < cLine) : CallR X (.builtin "sorted") (rSortD X.K enc) := by
  intro pins s σ H vs us Q I r h
  obtain ⟨G, a, xs, l, eG, rfl, hs, hx, hal, hk, hdp, q⟩ := h
  obtain ⟨its, rv, hl, hz⟩ := I.list hs
  obtain ⟨u, eu, ru⟩ := vals1 r
  subst eu
  cases (show u = Value.ref a from ru)
  have hlen := rv.length
  have hll : its.length = l.length := by have := dpa_len hx; rw [List.length_map] at this; omega
  have e1 := each_of hx rv
  refine PySem.W.sorted_data (R := fun v b => ∃ x, RelV x v ∧ Dp X.K G x (enc b)) (enc := enc) (bs := l) hl.isList e1 (e1.mono fun v b ⟨x, h1, h2⟩ => Dp.reads I (enc b) x v (dpx h2 eG) h1) hal hk (by omega) (fun b hb => by have := hdp b hb; omega) fun out ho hout => ?_
  obtain ⟨ys, hys, hdy⟩ := of_each hout
  have hsz : ys.length ≤ sizeLine := by rw [hys.length, ho]; omega
  have kp : ∀ b o, s.heap.get? b = some o → (sortedAll s.heap its (List.toArray out)).get? b = some o := fun b o e => sortedAll_old e
  obtain ⟨n, hn⟩ : ∃ n, (sortedAll s.heap its (List.toArray out)).get? (s.heap.objs.size + 1) = some (seqObj "list" out.toArray n) := sortedAll_at s.heap its out.toArray
  exact ⟨.ref (s.heap.objs.size + 1), upd H (s.heap.objs.size + 1) (.lst ys), I.laid (t' := s.toks) kp (Nat.le_succ _) ⟨hsz, out, n, hys, hn⟩, rfl, q ys _ hdy (I.hok.fresh (Nat.le_succ _))⟩
end
section
variable {K : PySem.W.Frag} {σ : L2.St} {G H : Hp} {ta : TE} {β : Type} {enc : β → PyData}
/-- sorted of a list of data, known or new -/
theorem ed_sortD {l : List β} (ha : EF ta σ G (DV K (.list (l.map enc)))) (hal : PySem.W.AllAlike (l.map enc)) (hk : PySem.W.Sortable (l.map enc)) (hdp : ∀ b ∈ l, (enc b).depth ≤ 50) : EF (tCB (rSortD K enc) (tCons ta tNil)) σ G (LS K ((l.mergeSort (PySem.W.dataLe false enc)).map enc)) := fun H e Q q => ha H e _ fun x G1 H1 g1 p => by
  obtain ⟨a, xs, rfl, hs, hx⟩ := dp_lst p
  refine ⟨G1, a, xs, l, g1.ok, rfl, Evl.ex_l g1.ok hs, hx, hal, hk, hdp, fun ys p2 h1 h4 => ?_⟩
  exact q _ _ _ (g1.trans (.new g1.ok h4)) ⟨p2, ys, rfl, upd_same, dpax h1 (ex_in (none_back g1.ok h4))⟩
end
/-! rows of ints, as tuples or as lists -/
theorem alike_tups {β : Type} {x : β → List Int} {l : List β} : PySem.W.AllAlike (l.map fun b => PyData.tuple ((x b).map .int)) := PySem.W.AllAlike.of fun b b' => by
  simp only [PySem.W.alike]
  exact PySem.W.alike_ints _ _
theorem alike_rows {β : Type} {x : β → List Int} {l : List β} : PySem.W.AllAlike (l.map fun b => PyData.list ((x b).map .int)) := PySem.W.AllAlike.of fun b b' => by
  simp only [PySem.W.alike]
  exact PySem.W.alike_ints _ _
theorem ile_total (a b : List Int) : a ≤ b ∨ b ≤ a := List.le_total a b
theorem dataLe_tups {β : Type} (x : β → List Int) : PySem.W.dataLe false (fun b => .tuple ((x b).map .int)) = fun p q => decide (x p ≤ x q) := by
  rw [PySem.W.dataLe_eq]
  funext p q
  show (!PySem.W.dataLt (.tuple ((x q).map .int)) (.tuple ((x p).map .int))) = _
  have e : PySem.W.dataLt (.tuple ((x q).map .int)) (.tuple ((x p).map .int)) = decide (x q < x p) := by
    rw [PySem.W.dataLt_tuple]
    exact PySem.W.dataLt_ints _ _
  rw [e]
  by_cases h : x q < x p
  · rw [decide_eq_true h, decide_eq_false fun z => (List.not_lt.mpr z) h]; rfl
  · rw [decide_eq_false h, decide_eq_true (List.not_lt.mp h)]; rfl
/-- sorted by the rows -/
def srtX {β : Type} (x : β → List Int) (l : List β) : List β := l.mergeSort fun p q => decide (x p ≤ x q)
theorem srtX_perm {β : Type} (x : β → List Int) (l : List β) : (srtX x l).Perm l := List.mergeSort_perm l _
theorem srtX_sorted {β : Type} (x : β → List Int) (l : List β) : (srtX x l).Pairwise fun p q => x p ≤ x q := by
  have := List.pairwise_mergeSort (le := fun p q : β => decide (x p ≤ x q)) (fun a b c h1 h2 => decide_eq_true (List.le_trans (of_decide_eq_true h1) (of_decide_eq_true h2))) (fun a b => by
    rcases ile_total (x a) (x b) with h | h
    · simp [h]
    · simp [h]) l
  exact this.imp fun h => of_decide_eq_true h
theorem sortX_uniq {β : Type} {x : β → List Int} : ∀ {l m : List β}, (∀ a ∈ l, ∀ b ∈ l, x a = x b → a = b) → l.Perm m → l.Pairwise (fun p q => x p ≤ x q) → m.Pairwise (fun p q => x p ≤ x q) → l = m
  | [], m, _, h, _, _ => List.Perm.nil_eq h
  | a :: l, [], _, h, _, _ => absurd h.length_eq (by simp)
  | a :: l, b :: m, hi, h, hl, hm => by
    have e : a = b := by
      have mb : b ∈ a :: l := h.mem_iff.mpr List.mem_cons_self
      have h1 : a = b ∨ x b ≤ x a := by
        rcases List.mem_cons.mp (h.mem_iff.mp (List.mem_cons_self (a := a) (l := l))) with e | hx
        · exact .inl e
        · exact .inr ((List.pairwise_cons.mp hm).1 a hx)
      have h2 : b = a ∨ x a ≤ x b := by
        rcases List.mem_cons.mp mb with e | hx
        · exact .inl e
        · exact .inr ((List.pairwise_cons.mp hl).1 b hx)
      rcases h1 with e | h1
      · exact e
      · rcases h2 with e | h2
        · exact e.symm
        · exact hi a List.mem_cons_self b mb (List.le_antisymm h2 h1)
    subst e
    rw [sortX_uniq (fun s hs t ht => hi s (List.mem_cons_of_mem _ hs) t (List.mem_cons_of_mem _ ht)) h.cons_inv (List.pairwise_cons.mp hl).2 (List.pairwise_cons.mp hm).2]
end Lw

set_option Elab.async false
set_option linter.all false
set_option maxRecDepth 100000
set_option maxHeartbeats 4000000
/-! comprehensions over enumerate and over pairs; queues by place -/
namespace Lw
open PySem PySem.Spec L2
open Evl (Ex)
section
variable {K : PySem.W.Frag} {σ : L2.St} {G G' H H1 : Hp} {D : Ends} {ta tb te tk tl : TE} {t : TT} {P : VP}
theorem cw_new {T : Addr} {Dl : Addr} {I : Nat → List V → Hp → Prop} {i : Nat} {H' : Hp} {o : HO} (p : CW G H1 Dl I i H') (hT : H' T = none) : CW G H1 Dl I i (upd H' T o) := by
  obtain ⟨G', xs, e1, e2, gD, hd, hl, hI, e3, hc⟩ := p
  have nD : Dl ≠ T := fun z => by rw [z, hT] at hd; cases hd
  exact ⟨G', xs, e1, e2.trans (ex_in hT), gD, by rw [upd_ne nD]; exact hd, hl, hI, e3.trans (ex_in hT), hc⟩
/-- [f(i, x) for i, x in enumerate(xs)] -/
theorem el_mapEn {a : Addr} {xs : List V} {i j : Nat} {g : Nat → PyData} (h : EF tl σ G (XV (.ref a))) (hs : SqL K G a xs) (hz : xs.length ≤ 40000) (hw : ∀ p q, wipe (((wipe σ [i, j]).set i p).set j q) [i, j] = wipe σ [i, j])
    (he : ∀ (n : Nat) x G', Ex G G' → xs[n]? = some x → EF te (((wipe σ [i, j]).set i (some (.int (n : Nat)))).set j (some x)) G' (DV K (g n))) :
    EF (tLc (iEnum K (tCons tl tNil)) (gTup K 2 (gCons (gName i) (gCons (gName j) gNil))) tYes te [i, j]) σ G (LS K ((List.range xs.length).map g)) := by
  intro H0 e Q q
  unfold tLc iEnum
  refine (ea_one h) H0 e _ fun us G1 H1 g1 ⟨x, ev, hx⟩ => ?_
  cases (show x = .ref a from hx)
  subst ev
  refine ⟨a, xs, rfl, Evl.ex_l (g1.up.trans g1.ok) hs, fun Dl hD => ?_⟩
  refine lc_it (walk_enum (xs := xs)) (CW G1 H1 Dl (fun n acc G' => DpAll K G' acc ((List.range n).map g))) (cw_start g1.ok hD .nil) (fun n H' _ p => ?_) (fun n x H' H'' hn p y => ?_) (fun H' p => ?_)
  · obtain ⟨G', _, e1, e2, _⟩ := p
    exact Evl.ex_l (g1.up.trans (e1.trans e2)) hs
  · obtain ⟨T, x1, y1, rfl, hT, rfl, e1, e2⟩ := y
    cases e1
    refine g_two (Evl.st_of upd_same) ⟨hw _ _, ?_⟩
    refine cw_turn hD (cw_new p hT) (by omega) fun acc G' e' hI => ec_all ((he n y1 G' (g1.up.trans e') e2).imp fun v G2 e3 pv => ?_)
    rw [List.range_succ, List.map_append]
    exact dpa_snoc (dpax hI e3) pv
  · exact cw_end (P := LS K ((List.range xs.length).map g)) hD g1.ok p (fun p xs' G' _ g' _ hl hI => ⟨p, xs', rfl, upd_same, dpax hI (ex_in g')⟩) fun v G' H' g' p' => q v G' H' (g1.trans g') p'
/-- [f(a, b) for a, b in js] -/
theorem el_mapP {a : Addr} {xs : List V} {js : List (Int × Int)} {i j : Nat} {g : Int × Int → PyData} (h : EF tl σ G (XV (.ref a))) (hx : SqL K G a xs) (hd : DpAll K G xs (js.map dP)) (hl : js.length ≤ 40000) (hij : ∀ p q, wipe (((wipe σ [i, j]).set i p).set j q) [i, j] = wipe σ [i, j])
    (he : ∀ (p : Int × Int) G', Ex G G' → p ∈ js → EF te (((wipe σ [i, j]).set i (some (.int p.1))).set j (some (.int p.2))) G' (DV K (g p))) :
    EF (tLc (iList K tl) (gTup K 2 (gCons (gName i) (gCons (gName j) gNil))) tYes te [i, j]) σ G (LS K (js.map g)) := by
  have hlen : xs.length = js.length := by have := dpa_len hd; rw [List.length_map] at this; exact this
  refine ef_lcG (xs := xs) (fun n => match js[n]? with | some p => ((wipe σ [i, j]).set i (some (.int p.1))).set j (some (.int p.2)) | none => []) (fun n acc G' => DpAll K G' acc ((js.take n).map g)) (h.imp fun v G' e p => ⟨a, p, Evl.ex_l e hx⟩) (by omega) (fun n hn => ?_) (fun n x H' Q hn e q => ?_) (fun _ _ => by simpa using DpAll.nil) (fun n x acc G' e hn hI => ?_) fun p acc G' _ hp _ _ hI => ⟨p, acc, rfl, upd_same, dpax (by rw [List.take_of_length_le (by omega)] at hI; exact hI) (ex_in hp)⟩
  · rw [List.getElem?_eq_getElem (by omega)]
    exact hij _ _
  · obtain ⟨dd, hd1, dy⟩ := dpa_get hd hn
    rw [List.getElem?_map] at hd1
    obtain ⟨p, hp, rfl⟩ := Option.map_eq_some_iff.mp hd1
    obtain ⟨b, rfl, hb⟩ := dp_P dy
    rw [hp] at q
    exact g_two (Evl.ex_t e hb) q
  · obtain ⟨dd, hd1, dy⟩ := dpa_get hd hn
    rw [List.getElem?_map] at hd1
    obtain ⟨p, hp, rfl⟩ := Option.map_eq_some_iff.mp hd1
    have tk : js.take (n + 1) = js.take n ++ [p] := by rw [List.take_succ, hp, Option.toList_some]
    rw [tk, List.map_append]
    simp only [hp]
    exact ec_all ((he p G' e (List.mem_of_getElem? hp)).imp fun v G2 e2 pv => dpa_snoc (dpax hI e2) pv)
/-- a list as a test -/
theorem et_truL {a : Addr} {xs : List V} (h : EF ta σ G (XV (.ref a))) (hs : SqL K G a xs) : ET (fun σ H Q => ta σ H fun x H' => ∃ k, TruV K x H' k ∧ Q k H') σ G (· = !xs.isEmpty) := fun H e Q q =>
  h H e _ fun v G1 H1 g1 pv => by
    cases (show v = .ref a from pv)
    exact ⟨!xs.isEmpty, .inl ⟨xs, Evl.ex_l (g1.up.trans g1.ok) hs, rfl⟩, q _ _ g1.hp rfl⟩
/-- a, b = l.pop(0) -/
theorem st_pop0 {l b : Addr} {vs : List V} {u v : V} {i j n : Nat} (hl : H1 l = some (.lst (.ref b :: vs))) (hz : vs.length < 1000) (ho : σ[n]? = some (some (.ref l))) (eG : Ex G H1) (gl : G l = none) (hb : SqT K G b [u, v]) (k : D.nx ((σ.set i (some u)).set j (some v)) (upd H1 l (.lst vs))) :
    tAsg (tBM K "list" rPopAt (tVar n) (tCons (tC (.int 0)) tNil)) (gTup K 2 (gCons (gName i) (gCons (gName j) gNil))) D σ H1 := by
  refine ⟨.ref l, ho, .inl ⟨rfl, _, Evl.sq_of hl⟩, l, _, 0, 0, .ref b, rfl, rfl, hl, by decide, by decide, ?_, rfl, ?_⟩
  · unfold seqIndex?
    simp
  · exact g_two (Evl.ex_t (ex_off eG gl) hb) k
end
/-! queues -/
section
variable {K : PySem.W.Frag} {σ : L2.St} {G G' H H1 : Hp} {D : Ends} {d q : Addr} {tk te : TE}
abbrev Qf := Int → List (Int × Int)
structure QOk (K : PySem.W.Frag) (G H H1 : Hp) (d q : Addr) (f : Qf) (ls : List (Int × Int)) (G' : Hp) (es : List BE) (vs : List V) : Prop where
  g : Gr G G' H H1
  gd : G' d = none
  hd : H1 d = some (.dK (es.map fun e => ((Sum.inl e.1 : Key), V.ref e.2.1)))
  he : ∀ e ∈ es, BOk K H G' H1 e
  nd : (es.map fun e => e.2.1).Nodup
  dn : d ∉ es.map (fun e => e.2.1)
  kn : (es.map fun e => e.1).Nodup
  gt : ∀ k, getL (es.map fun e => (e.1, e.2.2.2)) k = (f k).map dP
  gq : G' q = none
  hq : H1 q = some (.lst vs)
  dq : DpAll K G' vs (ls.map dP)
  qn : q ∉ es.map (fun e => e.2.1)
  ne : q ≠ d
def QSt (K : PySem.W.Frag) (G H H1 : Hp) (d q : Addr) (f : Qf) (ls : List (Int × Int)) : Prop := ∃ G' es vs, QOk K G H H1 d q f ls G' es vs
theorem QOk.grow {f : Qf} {ls : List (Int × Int)} {es : List BE} {vs : List V} {G2 H2 : Hp} (h : QOk K G H H1 d q f ls G' es vs) (g : Gr G' G2 H1 H2) : QOk K G H H2 d q f ls G2 es vs where
  g := h.g.trans g
  gd := g.2.2.2 d (ne_none_of h.hd) h.gd
  hd := g.hp _ _ h.hd
  he := fun e m => (h.he e m).step g
  nd := h.nd
  dn := h.dn
  kn := h.kn
  gt := h.gt
  gq := g.2.2.2 q (ne_none_of h.hq) h.gq
  hq := g.hp _ _ h.hq
  dq := dpax h.dq g.up
  qn := h.qn
  ne := h.ne
theorem QSt.ex {f : Qf} {ls : List (Int × Int)} {H2 : Hp} (h : QSt K G H H1 d q f ls) (e : Ex H1 H2) : QSt K G H H2 d q f ls := by
  obtain ⟨G', es, vs, h⟩ := h
  exact ⟨G', es, vs, h.grow (.same h.g.ok e)⟩
theorem QSt.know {f : Qf} {ls : List (Int × Int)} (h : QSt K G H H1 d q f ls) : Ex G H1 := by
  obtain ⟨G', es, vs, h⟩ := h
  exact h.g.up.trans h.g.ok
/-- links.append(p) -/
theorem st_qapp {i : Nat} {f : Qf} {ls : List (Int × Int)} {p : Int × Int} (hqH : H q = none) (h : QSt K G H H1 d q f ls) (hz : ls.length < 1000) (ho : σ[i]? = some (some (.ref q))) (hv : ∀ G', Ex G G' → EF te σ G' (DV K (dP p))) (k : ∀ H2, QSt K G H H2 d q f (ls ++ [p]) → D.nx σ H2) : tDrop (tBM K "list" rAppend (tVar i) (tCons te tNil)) D σ H1 := by
  obtain ⟨G', es, vs, h⟩ := h
  refine st_app (P := DV K (dP p)) h.g.ok h.hq (ex_var ho) (hv G' h.g.up) (by rw [dpa_len h.dq, List.length_map]; exact hz) fun v G2 H2 g2 p2 => k _ ?_
  have h2 := h.grow g2
  have other : ∀ e ∈ es, e.2.1 ≠ q := fun e m z => h.qn (List.mem_map.mpr ⟨e, m, z⟩)
  exact ⟨G2, es, vs ++ [v], { g := h2.g.put hqH h2.gq, gd := h2.gd, hd := by rw [upd_ne h.ne.symm]; exact h2.hd, he := fun e m => (h2.he e m).other (other e m), nd := h2.nd, dn := h2.dn, kn := h2.kn, gt := h2.gt, gq := h2.gq, hq := upd_same, dq := by rw [List.map_append]; exact dpa_snoc h2.dq p2, qn := h2.qn, ne := h2.ne }⟩
def popF (f : Qf) (o : Int) (r : List (Int × Int)) : Qf := fun k => if k = o then r else f k
theorem getL_split {A : List BE} {e : BE} {B : List BE} {ps : List PyData} {k : Int} (hk : ((A ++ e :: B).map fun e => e.1).Nodup) : getL ((A ++ ((e.1, e.2.1, ([] : List V), ps) : BE) :: B).map fun e => (e.1, e.2.2.2)) k = if k = e.1 then ps else getL ((A ++ e :: B).map fun e => (e.1, e.2.2.2)) k := by
  have fnd : ∀ (L : List BE), (∀ z ∈ L, z.1 ≠ k) → ∀ r : DM, getM (L.map (fun e => (e.1, e.2.2.2)) ++ r) k = getM r k := fun L => by
    induction L with
    | nil => intro _ r; rfl
    | cons z L ih =>
      intro h r
      rw [List.map_cons, List.cons_append, getM_cons, if_neg (h z List.mem_cons_self), ih (fun y hy => h y (List.mem_cons_of_mem _ hy))]
  have skip : ∀ (L : List BE) (r : DM), (getM (L.map (fun e => (e.1, e.2.2.2)) ++ r) k = match getM (L.map fun e => (e.1, e.2.2.2)) k with | some x => some x | none => getM r k) := fun L => by
    induction L with
    | nil => intro r; rfl
    | cons z L ih =>
      intro r
      rw [List.map_cons, List.cons_append, getM_cons, getM_cons]
      split
      · rfl
      · exact ih r
  unfold getL
  simp only [List.map_append, List.map_cons]
  by_cases h : k = e.1
  · rw [if_pos h]
    rw [List.map_append, List.map_cons, List.nodup_append] at hk
    have hA : ∀ z ∈ A, z.1 ≠ k := fun z hz q => hk.2.2 z.1 (List.mem_map.mpr ⟨z, hz, rfl⟩) e.1 List.mem_cons_self (q.trans h)
    rw [fnd A hA, getM_cons, if_pos h.symm]
    rfl
  · rw [if_neg h, skip, skip]
    have e1 : getM ((e.1, ps) :: B.map fun e => (e.1, e.2.2.2)) k = getM ((e.1, e.2.2.2) :: B.map fun e => (e.1, e.2.2.2)) k := by
      rw [getM_cons, getM_cons, if_neg (Ne.symm h), if_neg (Ne.symm h)]
    rw [e1]
/-- ends = waiting.get(o, []) -/
theorem st_qget {iw ie : Nat} {o : Int} {f : Qf} {ls : List (Int × Int)} (Hd : H d = none) (h : QSt K G H H1 d q f ls) (ho : σ[iw]? = some (some (.ref d))) (hk : ∀ G', Ex G G' → EF tk σ G' (XV (.int o)))
    (k : ∀ l vs G' H2, Ex G G' → Ex G' H2 → G' l = none → H2 l = some (.lst vs) → DpAll K G' vs ((f o).map dP) → QSt K G H H2 d q f ls →
      (∀ x r H3, f o = x :: r → Ex H2 H3 → QSt K G H (upd H3 l (.lst vs.tail)) d q (popF f o r) ls) → D.nx (σ.set ie (some (.ref l))) H2) :
    tAsg (tDGet2 (tVar iw) tk (tLst tNil)) (gName ie) D σ H1 := by
  obtain ⟨G', es, vs, h⟩ := h
  refine ⟨.ref d, ho, d, rfl, .inl ⟨_, .inl h.hd⟩, hk G' h.g.up H1 h.g.ok _ fun y G2 H2 g2 py => ?_⟩
  cases (show y = .int o from py)
  refine ⟨by decide, fun r hr => ?_⟩
  have h2 := h.grow g2
  have G2r : G2 r = none := none_back h2.g.ok hr
  have g3 : Gr G2 G2 H2 (upd H2 r (.lst [])) := ⟨Ex.refl _, ex_off h2.g.ok G2r, ex_in hr, fun _ _ h => h⟩
  have h3 := h2.grow g3
  refine ⟨valV (es.map fun e => ((Sum.inl e.1 : Key), V.ref e.2.1)) (.inl o : Key), .inl ⟨_, .inl o, .inl h3.hd, rfl, rfl⟩, ?_⟩
  cases hv : valV (es.map fun e => ((Sum.inl e.1 : Key), V.ref e.2.1)) (.inl o : Key) with
  | none =>
    have hn := be_none hv
    have hf : f o = [] := by
      have := h.gt o
      have e0 : getL (es.map fun e => (e.1, e.2.2.2)) o = [] := by
        unfold getL
        rw [getM_none.mpr fun z => by
          rw [List.map_map] at z
          obtain ⟨e, he, hz⟩ := List.mem_map.mp z
          exact hn e he hz]
        rfl
      rw [e0] at this
      exact (List.map_eq_nil_iff.mp this.symm)
    exact k r [] G2 _ h2.g.up h3.g.ok G2r upd_same (by rw [hf]; exact .nil) ⟨G2, es, vs, h3⟩ fun x r' H3 e => by rw [hf] at e; cases e
  | some v =>
    obtain ⟨A, e, B, rfl, hek, rfl, hA⟩ := be_find hv
    have hb := h3.he e (by simp)
    have hfo : e.2.2.2 = (f o).map dP := by
      have h0 := h.gt o
      have := @getL_split A e B e.2.2.2 o h.kn
      rw [if_pos hek.symm] at this
      rw [← h0, ← this]
      simp
    refine k e.2.1 e.2.2.1 G2 _ h2.g.up h3.g.ok hb.g hb.l (by rw [← hfo]; exact hb.d) ⟨G2, _, vs, h3⟩ fun x r' H3 ef e3 => ?_
    have h4 := h3.grow (.same h3.g.ok e3)
    have hb4 := h4.he e (by simp)
    have qe : q ≠ e.2.1 := fun z => h4.qn (by rw [z]; simp)
    have de : d ≠ e.2.1 := fun z => h4.dn (by rw [z]; simp)
    have dv := hb4.d
    rw [hfo, ef] at dv
    obtain ⟨v1, vt, ev, dt⟩ : ∃ v1 vt, e.2.2.1 = v1 :: vt ∧ DpAll K G2 vt (r'.map dP) := by
      revert dv
      generalize e.2.2.1 = L
      intro dv
      cases dv with
      | cons a b => exact ⟨_, _, rfl, b⟩
    refine ⟨G2, A ++ (e.1, e.2.1, e.2.2.1.tail, r'.map dP) :: B, vs, { g := h4.g.put hb4.h hb4.g, gd := h4.gd, hd := by rw [upd_ne de, h4.hd]; simp, he := fun z hz => ?_, nd := by simpa using h4.nd, dn := by simpa using h4.dn, kn := by simpa using h4.kn, gt := fun k' => ?_, gq := h4.gq, hq := by rw [upd_ne qe]; exact h4.hq, dq := h4.dq, qn := by simpa using h4.qn, ne := h4.ne }⟩
    · have ne : ∀ z ∈ A ++ B, z.2.1 ≠ e.2.1 := fun z hz q => by
        have nd := h4.nd
        rw [List.map_append, List.map_cons, List.nodup_append] at nd
        rcases List.mem_append.mp hz with hz | hz
        · exact nd.2.2 z.2.1 (List.mem_map.mpr ⟨z, hz, rfl⟩) e.2.1 List.mem_cons_self q
        · exact (List.nodup_cons.mp nd.2.1).1 (List.mem_map.mpr ⟨z, hz, q⟩)
      rcases List.mem_append.mp hz with hz | hz
      · exact (h4.he z (by simp [hz])).other (ne z (by simp [hz]))
      · rcases List.mem_cons.mp hz with hz | hz
        · subst hz
          exact ⟨hb4.g, hb4.h, upd_same, by rw [ev]; exact dt⟩
        · exact (h4.he z (by simp [hz])).other (ne z (by simp [hz]))
    · have key := @getL_split A e B (r'.map dP) k' h.kn
      have same : getL ((A ++ ((e.1, e.2.1, e.2.2.1.tail, r'.map dP) : BE) :: B).map fun e => (e.1, e.2.2.2)) k' = getL ((A ++ ((e.1, e.2.1, ([] : List V), r'.map dP) : BE) :: B).map fun e => (e.1, e.2.2.2)) k' := by simp
      rw [same, key, hek]
      unfold popF
      split
      · rfl
      · exact h.gt k'
end
end Lw

set_option Elab.async false
set_option linter.all false
set_option maxRecDepth 100000
set_option maxHeartbeats 4000000
/-! links, first in first out, as mathematics -/
namespace Lw
open PySem PySem.Spec L2
def wk (ws : List Wk) (n : Nat) : Wk := ws.getD n (0, 0, 0, 0)
theorem wk_get {ws : List Wk} {n : Nat} {v : Wk} (h : ws[n]? = some v) : wk ws n = v := by unfold wk; rw [List.getD_eq_getElem?_getD, h]; rfl
abbrev T3i := Int × Int × Int
def x3 (t : T3i) : List Int := [t.1, t.2.1, t.2.2]
def enc3 (t : T3i) : PyData := .tuple ((x3 t).map .int)
def arrT (ws : List Wk) : List T3i := (List.range ws.length).map fun n => ((wk ws n).2.2.2, (n : Int), (wk ws n).2.1)
def depT (ws : List Wk) : List T3i := (List.range ws.length).map fun n => ((wk ws n).2.2.1, (n : Int), (wk ws n).1)
def arrS (ws : List Wk) : List T3i := srtX x3 (arrT ws)
def depS (ws : List Wk) : List T3i := srtX x3 (depT ws)
def pr (t : T3i) : Int × Int := (t.1, t.2.1)
def queue0 (ws : List Wk) : Qf := fun k => ((arrS ws).filter fun t => decide (t.2.2 = k)).map pr
def stepQ (gap : Int) (st : Qf × List (Int × Int)) (t : T3i) : Qf × List (Int × Int) := match st.1 t.2.2 with
  | x :: r => if x.1 + gap ≤ t.1 then (popF st.1 t.2.2 r, st.2 ++ [(x.2, t.2.1)]) else st
  | [] => st
def runP (gap : Int) (ws : List Wk) (l : List T3i) : Qf × List (Int × Int) := l.foldl (stepQ gap) (queue0 ws, [])
def linksP (gap : Int) (ws : List Wk) : List (Int × Int) := (runP gap ws (depS ws)).2
def goesB (ws : List Wk) (gap a b : Int) : Bool := decide (0 ≤ a ∧ a < (ws.length : Int) ∧ 0 ≤ b ∧ b < (ws.length : Int) ∧ (wk ws a.toNat).2.1 = (wk ws b.toNat).1 ∧ (wk ws a.toNat).2.2.2 + gap ≤ (wk ws b.toNat).2.2.1)
def freeL (ws : List Wk) (gap k : Int) : List (Int × Int) := (((List.range ws.length).map fun n : Nat => (n : Int)).filter fun x => goesB ws gap x k).map fun x => ((wk ws x.toNat).2.2.2, x)
def stepL (ws : List Wk) (gap : Int) (st : List Int × List (Int × Int)) (p : Int × Int) : List Int × List (Int × Int) := match srtP ((freeL ws gap p.2).filter fun a => !decide (a.2 ∈ st.1)) with
  | x :: _ => (st.1 ++ [x.2], st.2 ++ [(x.2, p.2)])
  | [] => st
def depP (ws : List Wk) : List (Int × Int) := srtP ((List.range ws.length).map fun n => ((wk ws n).2.2.1, (n : Int)))
def linksL (gap : Int) (ws : List Wk) : List (Int × Int) := ((depP ws).foldl (stepL ws gap) ([], [])).2
/-! both agree -/
theorem lex_of_x3 {s t : T3i} (h : x3 s ≤ x3 t) : lexLe (pr s) (pr t) := by
  unfold x3 at h
  unfold lexLe pr
  rcases List.cons_le_cons_iff.mp h with h | ⟨h, h2⟩
  · exact .inl h
  · rcases List.cons_le_cons_iff.mp h2 with h2 | ⟨h2, _⟩
    · exact .inr ⟨h, Int.le_of_lt h2⟩
    · exact .inr ⟨h, Int.le_of_eq h2⟩
def qAll (ws : List Wk) : List (Int × Int) := (arrS ws).map pr
theorem qAll_sorted (ws : List Wk) : (qAll ws).Pairwise lexLe := by
  unfold qAll
  rw [List.pairwise_map]
  exact (srtX_sorted x3 (arrT ws)).imp fun h => lex_of_x3 h
theorem qAll_perm (ws : List Wk) : (qAll ws).Perm ((List.range ws.length).map fun n => ((wk ws n).2.2.2, (n : Int))) := by
  have h := (srtX_perm x3 (arrT ws)).map pr
  refine h.trans (List.Perm.of_eq ?_)
  unfold arrT pr
  rw [List.map_map]
  rfl
theorem qAll_mem {ws : List Wk} {p : Int × Int} : p ∈ qAll ws ↔ 0 ≤ p.2 ∧ p.2 < (ws.length : Int) ∧ p.1 = (wk ws p.2.toNat).2.2.2 := by
  rw [(qAll_perm ws).mem_iff, List.mem_map]
  constructor
  · rintro ⟨n, hn, rfl⟩
    have := List.mem_range.mp hn
    exact ⟨by simp, by simp; omega, by simp⟩
  · rintro ⟨h0, h1, h2⟩
    refine ⟨p.2.toNat, List.mem_range.mpr (by omega), ?_⟩
    rw [← h2]
    ext
    · rfl
    · simp; omega
theorem qAll_nd (ws : List Wk) : ((qAll ws).map (·.2)).Nodup := by
  rw [((qAll_perm ws).map (·.2)).nodup_iff, List.map_map]
  refine List.Pairwise.map _ (fun (a b : Nat) h => ?_) List.nodup_range
  show ((a : Nat) : Int) ≠ (b : Int)
  omega
theorem arrS_goal {ws : List Wk} {t : T3i} (h : t ∈ arrS ws) : t.2.2 = (wk ws t.2.1.toNat).2.1 := by
  have := (srtX_perm x3 (arrT ws)).mem_iff.mp h
  obtain ⟨n, _, rfl⟩ := List.mem_map.mp this
  simp
theorem depS_orig {ws : List Wk} {t : T3i} (h : t ∈ depS ws) : t.2.2 = (wk ws t.2.1.toNat).1 ∧ t.1 = (wk ws t.2.1.toNat).2.2.1 ∧ 0 ≤ t.2.1 ∧ t.2.1 < (ws.length : Int) := by
  have := (srtX_perm x3 (depT ws)).mem_iff.mp h
  obtain ⟨n, hn, rfl⟩ := List.mem_map.mp this
  have := List.mem_range.mp hn
  exact ⟨by simp, by simp, by simp, by simp; omega⟩
theorem depP_eq (ws : List Wk) : depP ws = (depS ws).map pr := by
  refine (srtP_of ?_ ?_).symm
  · have h := (srtX_perm x3 (depT ws)).map pr
    refine h.trans (List.Perm.of_eq ?_)
    unfold depT pr
    rw [List.map_map]
    rfl
  · rw [List.pairwise_map]
    exact (srtX_sorted x3 (depT ws)).imp fun h => lex_of_x3 h
def keep (ws : List Wk) (used : List Int) (k : Int) (p : Int × Int) : Bool := decide ((wk ws p.2.toNat).2.1 = k ∧ p.2 ∉ used)
theorem queue0_eq (ws : List Wk) (k : Int) : queue0 ws k = (qAll ws).filter (keep ws [] k) := by
  unfold queue0 qAll
  rw [List.filter_map]
  congr 1
  refine List.filter_congr fun t ht => ?_
  unfold keep pr
  simp [arrS_goal ht]
theorem free_eq {ws : List Wk} {gap : Int} {used : List Int} {t : T3i} (ht : t ∈ depS ws) : srtP ((freeL ws gap t.2.1).filter fun a => !decide (a.2 ∈ used)) = ((qAll ws).filter (keep ws used t.2.2)).filter fun p => decide (p.1 + gap ≤ t.1) := by
  obtain ⟨o1, o2, o3, o4⟩ := depS_orig ht
  refine (srtP_of ?_ (((qAll_sorted ws).filter _).filter _)).symm
  refine (List.perm_ext_iff_of_nodup ?_ ?_).mpr fun p => ?_
  · exact List.Pairwise.filter _ (List.Pairwise.filter _ ((List.pairwise_map.mp (qAll_nd ws)).imp fun h z => h (by rw [z])))
  · unfold freeL
    refine List.Pairwise.filter _ ?_
    refine List.Pairwise.map (R := fun a b : Int => a ≠ b) _ (fun a b h z => h (congrArg Prod.snd z)) (List.Pairwise.filter _ ?_)
    refine List.Pairwise.map _ (fun (a b : Nat) h => ?_) List.nodup_range
    show ((a : Nat) : Int) ≠ (b : Int)
    omega
  · simp only [List.mem_filter, qAll_mem, decide_eq_true_eq, keep, freeL, List.mem_map, goesB, Bool.not_eq_true', decide_eq_false_iff_not, List.mem_range]
    constructor
    · rintro ⟨⟨⟨h0, h1, h2⟩, h3, h4⟩, h5⟩
      refine ⟨⟨p.2, ⟨⟨p.2.toNat, by omega, by omega⟩, h0, h1, o3, o4, by rw [h3, o1], by rw [← h2, ← o2]; exact h5⟩, ?_⟩, h4⟩
      rw [← h2]
    · rintro ⟨⟨x, ⟨⟨n, hn, hx⟩, h0, h1, _, _, h5, h6⟩, rfl⟩, h4⟩
      exact ⟨⟨⟨h0, h1, rfl⟩, by rw [h5, o1], h4⟩, by rw [o2]; exact h6⟩
def Sim (ws : List Wk) (a : Qf × List (Int × Int)) (b : List Int × List (Int × Int)) : Prop := a.2 = b.2 ∧ ∀ k, a.1 k = (qAll ws).filter (keep ws b.1 k)
theorem sim_step {ws : List Wk} {gap : Int} {a : Qf × List (Int × Int)} {b : List Int × List (Int × Int)} {t : T3i} (ht : t ∈ depS ws) (h : Sim ws a b) : Sim ws (stepQ gap a t) (stepL ws gap b (pr t)) := by
  obtain ⟨f, ls⟩ := a
  obtain ⟨used, ls'⟩ := b
  obtain ⟨h1, h2⟩ := h
  cases (show ls = ls' from h1)
  simp only at h2
  unfold stepQ stepL
  rw [show (pr t).2 = t.2.1 from rfl, free_eq ht, ← h2]
  simp only
  have srt : (f t.2.2).Pairwise lexLe := by rw [h2]; exact (qAll_sorted ws).filter _
  have nd : ((f t.2.2).map (·.2)).Nodup := by
    rw [h2]
    exact (qAll_nd ws).sublist ((List.filter_sublist).map _)
  cases hf : f t.2.2 with
  | nil => exact ⟨rfl, h2⟩
  | cons x r =>
    rw [hf] at srt nd
    simp only
    by_cases hx : x.1 + gap ≤ t.1
    · rw [if_pos hx, List.filter_cons_of_pos (by simpa using hx)]
      refine ⟨rfl, fun k => ?_⟩
      have hxm : x ∈ (qAll ws).filter (keep ws used t.2.2) := by rw [← h2, hf]; exact List.mem_cons_self
      have hxk := (List.mem_filter.mp hxm).2
      unfold keep at hxk
      have hxk := of_decide_eq_true hxk
      have e1 : (qAll ws).filter (keep ws (used ++ [x.2]) k) = ((qAll ws).filter (keep ws used k)).filter fun p => decide (p.2 ≠ x.2) := by
        rw [List.filter_filter]
        refine List.filter_congr fun p _ => ?_
        unfold keep
        rw [Bool.eq_iff_iff]
        simp
        exact ⟨fun ⟨a, b, c⟩ => ⟨c, a, b⟩, fun ⟨a, b, c⟩ => ⟨b, c, a⟩⟩
      show popF f t.2.2 r k = _
      rw [e1, ← h2]
      unfold popF
      by_cases hk : k = t.2.2
      · rw [if_pos hk, hk, hf]
        have n1 := (List.nodup_cons.mp nd).1
        rw [List.filter_cons_of_neg (by simp)]
        refine (List.filter_eq_self.mpr fun p hp => ?_).symm
        simp
        exact fun z => n1 (List.mem_map.mpr ⟨p, hp, z⟩)
      · rw [if_neg hk]
        refine (List.filter_eq_self.mpr fun p hp => ?_).symm
        rw [h2] at hp
        have hpk := (List.mem_filter.mp hp).2
        unfold keep at hpk
        have hpk := of_decide_eq_true hpk
        simp
        intro z
        rw [z] at hpk
        exact hk (hpk.1.symm.trans hxk.1)
    · rw [if_neg hx]
      have e2 : (x :: r).filter (fun p => decide (p.1 + gap ≤ t.1)) = [] := by
        rw [List.filter_eq_nil_iff]
        intro p hp
        have : x.1 ≤ p.1 := by
          rcases List.mem_cons.mp hp with rfl | hp
          · exact Int.le_refl _
          · have := (List.pairwise_cons.mp srt).1 p hp
            unfold lexLe at this
            omega
        simp
        omega
      rw [e2]
      exact ⟨rfl, h2⟩
theorem links_eq (gap : Int) (ws : List Wk) : linksP gap ws = linksL gap ws := by
  have key : ∀ (l : List T3i), (∀ t ∈ l, t ∈ depS ws) → ∀ a b, Sim ws a b → Sim ws (l.foldl (stepQ gap) a) ((l.map pr).foldl (stepL ws gap) b) := fun l => by
    induction l with
    | nil => intro _ a b h; exact h
    | cons t l ih =>
      intro hl a b h
      exact ih (fun u hu => hl u (List.mem_cons_of_mem _ hu)) _ _ (sim_step (hl t List.mem_cons_self) h)
  unfold linksP runP linksL
  rw [depP_eq]
  exact (key (depS ws) (fun _ h => h) (queue0 ws, []) ([], []) ⟨rfl, fun k => queue0_eq ws k⟩).1
/-- may this list be run -/
def fitsB (ws : List Wk) (gap : Int) (ls : List (Int × Int)) : Bool := decide ((ls.map (·.1)).Nodup) && decide ((ls.map (·.2)).Nodup) && ls.all fun p => goesB ws gap p.1 p.2
theorem fits_iff {ws : List Wk} {gap : Int} {ls : List (Int × Int)} : fitsB ws gap ls = true ↔ ∀ (i : Nat) p, ls[i]? = some p → goesB ws gap p.1 p.2 = true ∧ ∀ (j : Nat) o, j < i → ls[j]? = some o → o.1 ≠ p.1 ∧ o.2 ≠ p.2 := by
  unfold fitsB
  simp only [Bool.and_eq_true, decide_eq_true_eq, List.all_eq_true]
  constructor
  · rintro ⟨⟨h1, h2⟩, h3⟩ i p hp
    refine ⟨h3 p (List.mem_of_getElem? hp), fun j o hj ho => ?_⟩
    obtain ⟨hi, rfl⟩ := List.getElem?_eq_some_iff.mp hp
    obtain ⟨hj', rfl⟩ := List.getElem?_eq_some_iff.mp ho
    have a := List.pairwise_iff_getElem.mp h1 j i (by simpa using hj') (by simpa using hi) hj
    have b := List.pairwise_iff_getElem.mp h2 j i (by simpa using hj') (by simpa using hi) hj
    simp at a b
    exact ⟨a, b⟩
  · intro h
    refine ⟨⟨List.pairwise_iff_getElem.mpr fun j i hj hi hji => ?_, List.pairwise_iff_getElem.mpr fun j i hj hi hji => ?_⟩, fun p hp => ?_⟩
    · simp at hj hi ⊢
      exact ((h i _ (List.getElem?_eq_getElem hi)).2 j _ hji (List.getElem?_eq_getElem hj)).1
    · simp at hj hi ⊢
      exact ((h i _ (List.getElem?_eq_getElem hi)).2 j _ hji (List.getElem?_eq_getElem hj)).2
    · obtain ⟨i, hi⟩ := List.mem_iff_getElem?.mp hp
      exact (h i p hi).1
theorem stepQ_len {gap : Int} {st : Qf × List (Int × Int)} {t : T3i} : (stepQ gap st t).2.length ≤ st.2.length + 1 := by
  unfold stepQ
  split
  · split
    · simp
    · omega
  · omega
theorem run_len {gap : Int} {ws : List Wk} {l : List T3i} : (runP gap ws l).2.length ≤ l.length := by
  have key : ∀ (l : List T3i) st, (l.foldl (stepQ gap) st).2.length ≤ st.2.length + l.length := fun l => by
    induction l with
    | nil => intro st; simp
    | cons t l ih =>
      intro st
      have := ih (stepQ gap st t)
      have := @stepQ_len gap st t
      simp only [List.foldl_cons, List.length_cons]
      omega
  have := key l (queue0 ws, [])
  unfold runP
  simpa using this
end Lw

set_option Elab.async false
set_option linter.all false
set_option maxRecDepth 100000
set_option maxHeartbeats 4000000
/-! links: promises -/
namespace Lw
open PySem PySem.Spec L2
open Evl (Ex)
section
variable {K : PySem.W.Frag} {σ : L2.St} {G G' H H1 : Hp} {D : Ends} {ta : TE} {CB : Addr}
theorem ed_srtPQ {js : List (Int × Int)} (ha : EF ta σ G (DV K (dPs js))) : EF (tCB (rSortPD K) (tCons ta tNil)) σ G (LS K ((srtP js).map dP)) := fun H e Q q => ha H e _ fun x G1 H1 g1 p => by
  obtain ⟨a, xs, rfl, hs, hx⟩ := dp_lst p
  refine ⟨G1, a, xs, js, g1.ok, rfl, Evl.ex_l g1.ok hs, hx, fun ys js' p2 h1 h2 h3 h4 => ?_⟩
  have e' := srtP_of h2 h3
  subst e'
  exact q _ _ _ (g1.trans (.new g1.ok h4)) ⟨p2, ys, rfl, upd_same, dpax h1 (ex_in (none_back g1.ok h4))⟩
theorem al3 (l : List T3i) : PySem.W.AllAlike (l.map enc3) := alike_tups
theorem so3 (l : List T3i) : PySem.W.Sortable (l.map enc3) := PySem.W.Sortable.tuples fun b => ⟨_, _, rfl⟩
theorem de3 (l : List T3i) : ∀ b ∈ l, (enc3 b).depth ≤ 50 := fun b _ => by
  unfold enc3 x3
  simp [PyData.depth, PyData.depthAll]
theorem ed_sort3i {l : List T3i} (ha : EF ta σ G (DV K (.list (l.map enc3)))) : EF (tCB (rSortD K enc3) (tCons ta tNil)) σ G (LS K ((srtX x3 l).map enc3)) := by
  have h := ed_sortD (enc := enc3) ha (al3 l) (so3 l) (de3 l)
  have e : PySem.W.dataLe false enc3 = fun p q => decide (x3 p ≤ x3 q) := dataLe_tups x3
  rw [e] at h
  exact h
theorem dpa_ints3 {vs : List V} {a b c : Int} (h : DpAll K G vs [.int a, .int b, .int c]) : vs = [.int a, .int b, .int c] := dpa_ints_eq (zs := [a, b, c]) h
theorem dp_3 {x : V} {t : T3i} (h : Dp K G x (enc3 t)) : ∃ b, x = .ref b ∧ SqT K G b [.int t.1, .int t.2.1, .int t.2.2] := by
  obtain ⟨b, xs, e, hs, hx⟩ := dp_tup h
  rw [dpa_ints3 hx] at hs
  exact ⟨b, e, hs⟩
/-- the dict of the arrivals, still open -/
def arrM (ws : List Wk) : DM := (arrS ws).foldl (fun m t => addM m t.2.2 (dP (pr t))) []
def spArr (K : PySem.W.Frag) : Sp := fun vs H Q _ => ∃ (G : Hp) (a : Addr) (ws : List Wk), Ex G H ∧ vs = [.ref a] ∧ Dp K G (.ref a) (dWs ws) ∧ ws.length ≤ 200 ∧ ∀ d H', H d = none → DB K G H H' d (arrM ws) → Q (.ref d) H'
def spDep (K : PySem.W.Frag) : Sp := fun vs H Q _ => ∃ (G : Hp) (a : Addr) (ws : List Wk), Ex G H ∧ vs = [.ref a] ∧ Dp K G (.ref a) (dWs ws) ∧ ws.length ≤ 200 ∧ Ret G H (LS K ((depS ws).map enc3)) Q
theorem sa_dep {a : Addr} {ws : List Wk} (hd : Dp K G (.ref a) (dWs ws)) (hl : ws.length ≤ 200) : SA (spDep K) [.ref a] G (LS K ((depS ws).map enc3)) := fun H e Q _ q => ⟨G, a, ws, e, rfl, hd, hl, q⟩
def spMay (K : PySem.W.Frag) : Sp := fun vs H Q _ => ∃ (G : Hp) (a : Addr) (ws : List Wk) (x y gap : Int), Ex G H ∧ vs = [.ref a, .int x, .int y, .int gap] ∧ Dp K G (.ref a) (dWs ws) ∧ ws.length ≤ 200 ∧ Ret G H (XV (.bl (goesB ws gap x y))) Q
theorem sa_may {a : Addr} {ws : List Wk} {x y gap : Int} (hd : Dp K G (.ref a) (dWs ws)) (hl : ws.length ≤ 200) : SA (spMay K) [.ref a, .int x, .int y, .int gap] G (XV (.bl (goesB ws gap x y))) := fun H e Q _ q => ⟨G, a, ws, x, y, gap, e, rfl, hd, hl, q⟩
abbrev spGoes (K : PySem.W.Frag) : Sp := spMay K
def spLink (K : PySem.W.Frag) (CB : Addr) : Sp := fun vs H Q E => ∃ (G : Hp) (a : Addr) (ws : List Wk) (gap : Int), Ex G H ∧ vs = [.ref a, .int gap] ∧ Dp K G (.ref a) (dWs ws) ∧ ws.length ≤ 200 ∧ (badAt ws = none → Ret G H (DV K (dPs (srtP (linksP gap ws)))) Q) ∧ ∀ i : Nat, badAt ws = some i → Rse CB [("index", .int (i : Int))] G H E
def spIsL (K : PySem.W.Frag) (CB : Addr) : Sp := fun vs H Q E => ∃ (G : Hp) (a b : Addr) (ws : List Wk) (ls : List (Int × Int)) (gap : Int), Ex G H ∧ vs = [.ref a, .ref b, .int gap] ∧ Dp K G (.ref a) (dWs ws) ∧ Dp K G (.ref b) (dPs ls) ∧ ws.length ≤ 200 ∧ ls.length ≤ 900 ∧ (badAt ws = none → Ret G H (XV (.bl (fitsB ws gap ls))) Q) ∧ ∀ i : Nat, badAt ws = some i → Rse CB [("index", .int (i : Int))] G H E
theorem arrS_len (ws : List Wk) : (arrS ws).length = ws.length := by unfold arrS arrT; rw [(srtX_perm x3 _).length_eq]; simp
theorem depS_len (ws : List Wk) : (depS ws).length = ws.length := by unfold depS depT; rw [(srtX_perm x3 _).length_eq]; simp
structure ArrOk (l : List T3i) (m : DM) : Prop where
  nd : (m.map (·.1)).Nodup
  len : m.length ≤ l.length
  row : ∀ p ∈ m, p.2.length ≤ l.length
  get : ∀ k, getL m k = ((l.filter fun t => decide (t.2.2 = k)).map pr).map dP
def arrF (l : List T3i) : DM := l.foldl (fun m t => addM m t.2.2 (dP (pr t))) []
theorem arrF_snoc {l : List T3i} {t : T3i} : arrF (l ++ [t]) = addM (arrF l) t.2.2 (dP (pr t)) := by simp [arrF]
theorem arr_ok (l : List T3i) : ArrOk l (arrF l) := by
  have key : ∀ n, ∀ l : List T3i, l.length = n → ArrOk l (arrF l) := fun n => by
    induction n with
    | zero => intro l h; rw [List.length_eq_zero_iff.mp h]; exact ⟨by simp [arrF], by simp [arrF], by simp [arrF], fun k => rfl⟩
    | succ n ih =>
      intro l h
      have hne : l ≠ [] := by rintro rfl; simp at h
      obtain ⟨l', t, rfl⟩ : ∃ l' t, l = l' ++ [t] := ⟨_, _, (List.dropLast_concat_getLast hne).symm⟩
      have h0 := ih l' (by simpa using h)
      rw [arrF_snoc]
      refine ⟨addM_nd h0.nd, ?_, fun p hp => ?_, fun k => ?_⟩
      · have := @addM_len (arrF l') t.2.2 (dP (pr t)); have := h0.len; simp; omega
      · have := addM_row h0.row p hp; simp; omega
      · rw [getL_add, h0.get, List.filter_append, List.map_append, List.map_append]
        by_cases hk : t.2.2 = k <;> simp [hk]
  exact key _ l rfl
theorem arrM_eq (ws : List Wk) : arrM ws = arrF (arrS ws) := rfl
end
end Lw

set_option Elab.async false
set_option linter.all false
set_option maxRecDepth 100000
set_option maxHeartbeats 4000000
/-! links: the law's promises -/
namespace Lw
open PySem PySem.Spec L2
open Evl (Ex)
def spDrawB : Sp := fun vs H Q _ => ∃ (G : Hp) (c : Int) (k : Int) (n : Int), Ex G H ∧ vs = [.int c, .int k, .int n] ∧ 0 ≤ k ∧ k ≤ 2000 ∧ 1 ≤ n ∧ n ≤ 200000 ∧ Ret G H (IV fun z => 0 ≤ z ∧ z < n) Q
section
variable {K : PySem.W.Frag} {σ : L2.St} {G G' H H1 : Hp} {D : Ends} {ta tb tc tk tn te tl : TE} {t : TT} {P : VP}
theorem ei_drawB {E : XK} {n : Int} (hc : EF tc σ G (IV fun _ => True)) (hk : EF tk σ G (IV fun z => 0 ≤ z ∧ z ≤ 2000)) (hn : EF tn σ G (IV (· = n))) (h1 : 1 ≤ n) (h2 : n ≤ 200000) : EF (tCall spDrawB [] E (tCons tc (tCons tk (tCons tn tNil)))) σ G (IV fun z => 0 ≤ z ∧ z < n) :=
  ef_call (ea_three mo_IV mo_IV mo_IV hc hk hn) fun vs G' _ ⟨x, y, z, ev, ⟨a, ha, _⟩, ⟨b, hb, hb2⟩, ⟨c, hc', hc2⟩⟩ => by
    subst ev ha hb hc' hc2
    exact fun H e Q _ q => ⟨G', a, b, c, e, rfl, hb2.1, hb2.2, h1, h2, q⟩
theorem st_appB {l : Addr} {xs : List V} (hG : Ex G H) (hl : H l = some (.lst xs)) (ho : EF ta σ G (XV (.ref l))) (h : EF te σ G P) (hz : xs.length < 1000000) (k : ∀ v G' H', Gr G G' H H' → P v G' → D.nx σ (upd H' l (.lst (xs ++ [v])))) :
    tDrop (tBM K "list" rAppend ta (tCons te tNil)) D σ H := ho H hG _ fun v1 G1 H1 g1 p1 => by
  cases (show v1 = .ref l from p1)
  refine ⟨.inl ⟨rfl, xs, Evl.sq_of (g1.hp _ _ hl)⟩, h H1 (hG.trans g1.hp) _ fun v2 G2 H2 g2 p2 => ?_⟩
  refine ⟨l, xs, v2, rfl, rfl, g2.hp _ _ (g1.hp _ _ hl), Nat.lt_of_lt_of_le hz (by decide), ?_⟩
  exact k v2 G2 H2 ⟨g2.up, g2.ok, g1.hp.trans g2.hp, fun a h g => g2.2.2.2 a (exNe g1.hp h) g⟩ p2
/-- sorted of pairs: a new list -/
theorem ed_srtPN {js : List (Int × Int)} (ha : EF ta σ G (DV K (dPs js))) : EF (tCB (rSortPD K) (tCons ta tNil)) σ G fun v G' => ∃ (r : Addr) (xs : List V), v = .ref r ∧ G r = none ∧ G' r = some (.lst xs) ∧ DpAll K G' xs ((srtP js).map dP) := fun H e Q q => ha H e _ fun x G1 H1 g1 p => by
  obtain ⟨a, xs, rfl, hs, hx⟩ := dp_lst p
  refine ⟨G1, a, xs, js, g1.ok, rfl, Evl.ex_l g1.ok hs, hx, fun ys js' p2 h1 h2 h3 h4 => ?_⟩
  have e' := srtP_of h2 h3
  subst e'
  exact q _ _ _ (g1.trans (.new g1.ok h4)) ⟨p2, ys, rfl, none_back (g1.up.trans g1.ok) h4, upd_same, dpax h1 (ex_in (none_back g1.ok h4))⟩
theorem dpa_drop_P {u : Addr} {ys : List V} : ∀ {xs : List V} {js : List (Int × Int)}, DpAll K G xs (js.map dP) → G u = some (.lst ys) → DpAll K (dropA G u) xs (js.map dP)
  | [], [], _, _ => .nil
  | [], _ :: _, h, _ => nomatch h
  | _ :: _, [], h, _ => nomatch h
  | x :: xs, p :: js, h, hu => by
    cases h with
    | cons h1 h2 =>
      refine .cons ?_ (dpa_drop_P h2 hu)
      obtain ⟨b, rfl, hb⟩ := dp_P h1
      refine .tup (xs := [.int p.1, .int p.2]) ?_ (dpa_ints [p.1, p.2])
      rcases hb with hb | hb
      · refine .inl ?_
        rcases hb with hb | ⟨o, hb⟩
        · exact .inl (by rw [dropA_ne fun z => by rw [z, hu] at hb; cases hb]; exact hb)
        · exact .inr ⟨o, by rw [dropA_ne fun z => by rw [z, hu] at hb; cases hb]; exact hb⟩
      · exact .inr hb
/-- [g(x) for x in range(n) if p(x)] -/
theorem el_filR {ta : TA} {j : Nat} {n : Nat} {g : Nat → PyData} {p : Nat → Bool} (h : EA ta σ G fun us _ => us = [.int (n : Int)]) (hn : n ≤ 40000) (hw : ∀ x, wipe ((wipe σ [j]).set j (some x)) [j] = wipe σ [j])
    (ht : ∀ (i : Nat) G', Ex G G' → i < n → ET t ((wipe σ [j]).set j (some (.int (i : Int)))) G' (· = p i)) (he : ∀ (i : Nat) G', Ex G G' → i < n → EF te ((wipe σ [j]).set j (some (.int (i : Int)))) G' (DV K (g i))) :
    EF (tLc (iRng1 ta) (gName j) t te [j]) σ G (LS K (((List.range n).filter p).map g)) := by
  refine ef_lcR1 (n := (n : Int)) (fun i acc G' => DpAll K G' acc (((List.range i).filter p).map g)) h ⟨by omega, by omega⟩ hw (fun G' _ => .nil) (fun i acc G' e1 hi hI => ?_) (fun p acc G' h1 h2 _ _ hI => ⟨p, acc, rfl, upd_same, ?_⟩)
  · rw [List.range_succ, List.filter_append]
    refine ec_if (ht i G' e1 (by omega)) (fun hb => (he i G' e1 (by omega)).imp fun v G2 e2 pv => ?_) (fun hb => ?_)
    · rw [show ([i].filter p) = [i] by simp [← hb], List.map_append]
      exact dpa_snoc (dpax hI e2) pv
    · rw [show ([i].filter p) = [] by simp [← hb], List.append_nil]
      exact hI
  · have en : ((n : Int)).toNat = n := by omega
    rw [en] at hI
    exact dpax hI (ex_in h2)
def spLD (K : PySem.W.Frag) : Sp := fun vs H Q _ => ∃ (G : Hp) (a : Addr) (ws : List Wk) (gap : Int), Ex G H ∧ vs = [.ref a, .int gap] ∧ Dp K G (.ref a) (dWs ws) ∧ ws.length ≤ 200 ∧ Ret G H (LS K ((srtP (linksL gap ws)).map dP)) Q
theorem sa_ld {a : Addr} {ws : List Wk} {gap : Int} (hd : Dp K G (.ref a) (dWs ws)) (hl : ws.length ≤ 200) : SA (spLD K) [.ref a, .int gap] G (LS K ((srtP (linksL gap ws)).map dP)) := fun H e Q _ q => ⟨G, a, ws, gap, e, rfl, hd, hl, q⟩
def spFits (K : PySem.W.Frag) : Sp := fun vs H Q _ => ∃ (G : Hp) (a b : Addr) (ws : List Wk) (ls : List (Int × Int)) (gap : Int), Ex G H ∧ vs = [.ref a, .ref b, .int gap] ∧ Dp K G (.ref a) (dWs ws) ∧ Dp K G (.ref b) (dPs ls) ∧ ws.length ≤ 200 ∧ ls.length ≤ 900 ∧ Ret G H (XV (.bl (fitsB ws gap ls))) Q
theorem sa_fits {a b : Addr} {ws : List Wk} {ls : List (Int × Int)} {gap : Int} (hd : Dp K G (.ref a) (dWs ws)) (dl : Dp K G (.ref b) (dPs ls)) (hl : ws.length ≤ 200) (hll : ls.length ≤ 900) : SA (spFits K) [.ref a, .ref b, .int gap] G (XV (.bl (fitsB ws gap ls))) := fun H e Q _ q => ⟨G, a, b, ws, ls, gap, e, rfl, hd, dl, hl, hll, q⟩
def PrV (K : PySem.W.Frag) (N : Nat) : VP := fun v G => ∃ ps : List (Int × Int), ps.length ≤ N ∧ LS K (ps.map dP) v G
def spPairs (K : PySem.W.Frag) : Sp := fun vs H Q _ => ∃ (G : Hp) (a : Addr) (ws : List Wk) (gap : Int), Ex G H ∧ vs = [.ref a, .int gap] ∧ Dp K G (.ref a) (dWs ws) ∧ ws.length ≤ 200 ∧ Ret G H (PrV K 40000) Q
theorem sa_pairs {a : Addr} {ws : List Wk} {gap : Int} (hd : Dp K G (.ref a) (dWs ws)) (hl : ws.length ≤ 200) : SA (spPairs K) [.ref a, .int gap] G (PrV K 40000) := fun H e Q _ q => ⟨G, a, ws, gap, e, rfl, hd, hl, q⟩
def TrV (K : PySem.W.Frag) : VP := fun v G => ∃ rows : List (List (Int × Int)), rows.length ≤ 20 ∧ (∀ r ∈ rows, r.length ≤ 300) ∧ DV K (.list (rows.map dPs)) v G
def spTries (K : PySem.W.Frag) : Sp := fun vs H Q _ => ∃ (G : Hp) (a b : Addr) (ws : List Wk) (ls : List (Int × Int)) (gap c bs : Int), Ex G H ∧ vs = [.ref a, .ref b, .int gap, .int c, .int bs] ∧ Dp K G (.ref a) (dWs ws) ∧ LS K (ls.map dP) (.ref b) G ∧ ws.length ≤ 200 ∧ ls.length ≤ 250 ∧ 0 ≤ bs ∧ bs ≤ 100 ∧ Ret G H (TrV K) Q
theorem sa_tries {a b : Addr} {ws : List Wk} {ls : List (Int × Int)} {gap c bs : Int} (hd : Dp K G (.ref a) (dWs ws)) (dl : LS K (ls.map dP) (.ref b) G) (hl : ws.length ≤ 200) (hll : ls.length ≤ 250) (h0 : 0 ≤ bs) (h1 : bs ≤ 100) : SA (spTries K) [.ref a, .ref b, .int gap, .int c, .int bs] G (TrV K) := fun H e Q _ q => ⟨G, a, b, ws, ls, gap, c, bs, e, rfl, hd, dl, hl, hll, h0, h1, q⟩
def linD (ws : List Wk) (t : Int) : PyData := match badAt ws with
  | some i => errD "BadWorking" (i : Int) true true false
  | none => .tuple [.str "told", dPs (srtP (linksP (gapOf t) ws))]
def spLin (K : PySem.W.Frag) : Sp := fun vs H Q _ => ∃ (G : Hp) (a : Addr) (ws : List Wk) (t : Int), Ex G H ∧ vs = [.ref a, .int t] ∧ Dp K G (.ref a) (dWs ws) ∧ ws.length ≤ 200 ∧ Ret G H (DV K (linD ws t)) Q
theorem sa_lin {a : Addr} {ws : List Wk} {t : Int} (hd : Dp K G (.ref a) (dWs ws)) (hl : ws.length ≤ 200) : SA (spLin K) [.ref a, .int t] G (DV K (linD ws t)) := fun H e Q _ q => ⟨G, a, ws, t, e, rfl, hd, hl, q⟩
def islD (ws : List Wk) (ls : List (Int × Int)) (t : Int) : PyData := match badAt ws with
  | some i => errD "BadWorking" (i : Int) true true false
  | none => .tuple [.str "told", .bool (fitsB ws (gapOf t) ls)]
def spIsl (K : PySem.W.Frag) : Sp := fun vs H Q _ => ∃ (G : Hp) (a b : Addr) (ws : List Wk) (ls : List (Int × Int)) (t : Int), Ex G H ∧ vs = [.ref a, .ref b, .int t] ∧ Dp K G (.ref a) (dWs ws) ∧ Dp K G (.ref b) (dPs ls) ∧ ws.length ≤ 200 ∧ ls.length ≤ 900 ∧ Ret G H (DV K (islD ws ls t)) Q
theorem sa_isl {a b : Addr} {ws : List Wk} {ls : List (Int × Int)} {t : Int} (hd : Dp K G (.ref a) (dWs ws)) (dl : Dp K G (.ref b) (dPs ls)) (hl : ws.length ≤ 200) (hll : ls.length ≤ 900) : SA (spIsl K) [.ref a, .ref b, .int t] G (DV K (islD ws ls t)) := fun H e Q _ q => ⟨G, a, b, ws, ls, t, e, rfl, hd, dl, hl, hll, q⟩
end
end Lw

set_option Elab.async false
set_option linter.all false
set_option maxRecDepth 100000
set_option maxHeartbeats 4000000
/-! first in first out needs the fewest sets -/
namespace Lw
open PySem PySem.Spec L2
theorem nd_len : ∀ {a b : List Int}, a.Nodup → (∀ x ∈ a, x ∈ b) → a.length ≤ b.length
  | [], _, _, _ => Nat.zero_le _
  | x :: a, b, h, hs => by
    obtain ⟨h1, h2⟩ := List.nodup_cons.mp h
    have hx := hs x List.mem_cons_self
    have ih := nd_len (a := a) (b := b.erase x) h2 fun y hy => (List.mem_erase_of_ne (a := y) (b := x) fun e => h1 (by rw [← e]; exact hy)).mpr (hs y (List.mem_cons_of_mem _ hy))
    rw [List.length_erase_of_mem hx] at ih
    have : 0 < b.length := List.length_pos_of_mem hx
    simp only [List.length_cons]
    omega
/-- the workings from p that no pair has second -/
def newS (ws : List Wk) (ls : List (Int × Int)) (p : Int) : List Nat := (List.range ws.length).filter fun k => decide ((wk ws k).1 = p) && !decide ((k : Int) ∈ ls.map (·.2))
theorem wk_map {ws : List Wk} : (List.range ws.length).map (wk ws) = ws := by
  apply List.ext_getElem
  · simp
  · intro i h1 h2
    simp only [List.length_map, List.length_range] at h1
    simp only [List.getElem_map, List.getElem_range]
    exact wk_get (List.getElem?_eq_getElem h1)
theorem left_len {ws : List Wk} {p m : Int} : (leftN p ws m).length = ((List.range ws.length).filter fun k => decide ((wk ws k).1 = p ∧ (wk ws k).2.2.1 ≤ m)).length := by
  unfold leftN
  conv => lhs; rw [← @wk_map ws, List.filter_map, List.length_map]
  rfl
theorem ready_len {ws : List Wk} {p gap m : Int} : (readyN p gap ws m).length = ((List.range ws.length).filter fun k => decide ((wk ws k).2.1 = p ∧ (wk ws k).2.2.2 + gap ≤ m)).length := by
  unfold readyN
  conv => lhs; rw [← @wk_map ws, List.filter_map, List.length_map]
  rfl
theorem goes_of {ws : List Wk} {gap a b : Int} (h : goesB ws gap a b = true) : 0 ≤ a ∧ a < (ws.length : Int) ∧ 0 ≤ b ∧ b < (ws.length : Int) ∧ (wk ws a.toNat).2.1 = (wk ws b.toNat).1 ∧ (wk ws a.toNat).2.2.2 + gap ≤ (wk ws b.toNat).2.2.1 := of_decide_eq_true h
/-- no linking needs fewer than the surplus at a moment -/
theorem low_bound {ws : List Wk} {gap p : Int} {ls : List (Int × Int)} (h : fitsB ws gap ls = true) (m : Int) : sm (evs gap p ws) m ≤ ((newS ws ls p).length : Int) := by
  unfold fitsB at h
  simp only [Bool.and_eq_true, decide_eq_true_eq, List.all_eq_true] at h
  obtain ⟨⟨n1, n2⟩, hg⟩ := h
  rw [← surplus_eq, left_len, ready_len]
  let A : List Nat := (List.range ws.length).filter fun k : Nat => decide ((wk ws k).1 = p ∧ (wk ws k).2.2.1 ≤ m)
  let B : List Nat := (List.range ws.length).filter fun k : Nat => decide ((wk ws k).2.1 = p ∧ (wk ws k).2.2.2 + gap ≤ m)
  let A1 : List Nat := A.filter fun k : Nat => decide ((k : Int) ∈ ls.map (·.2))
  let A2 : List Nat := A.filter fun k : Nat => !decide ((k : Int) ∈ ls.map (·.2))
  have split : A.length = A1.length + A2.length := by
    have : ∀ l : List Nat, l.length = (l.filter fun k : Nat => decide ((k : Int) ∈ ls.map (·.2))).length + (l.filter fun k : Nat => !decide ((k : Int) ∈ ls.map (·.2))).length := fun l => by
      induction l with
      | nil => rfl
      | cons x l ih =>
        by_cases hx : (x : Int) ∈ ls.map (·.2)
        · rw [List.filter_cons_of_pos (by simpa using hx), List.filter_cons_of_neg (by simpa using hx)]
          simp only [List.length_cons]; omega
        · rw [List.filter_cons_of_neg (by simpa using hx), List.filter_cons_of_pos (by simpa using hx)]
          simp only [List.length_cons]; omega
    exact this A
  have cast_nd : ∀ l : List Nat, l.Nodup → (l.map fun k : Nat => (k : Int)).Nodup := fun l hl => by
    refine List.Pairwise.map _ (fun (a b : Nat) h => ?_) hl
    show ((a : Nat) : Int) ≠ (b : Int)
    omega
  have ndA : A.Nodup := List.Pairwise.filter _ List.nodup_range
  have h2 : A2.length ≤ (newS ws ls p).length := by
    have := nd_len (a := A2.map fun k : Nat => (k : Int)) (b := (newS ws ls p).map fun k : Nat => (k : Int)) (cast_nd _ (List.Pairwise.filter _ ndA)) fun x hx => by
      obtain ⟨k, hk, rfl⟩ := List.mem_map.mp hx
      obtain ⟨hk1, hk2⟩ := List.mem_filter.mp hk
      obtain ⟨hk3, hk4⟩ := List.mem_filter.mp hk1
      refine List.mem_map.mpr ⟨k, List.mem_filter.mpr ⟨hk3, ?_⟩, rfl⟩
      have := of_decide_eq_true hk4
      rw [decide_eq_true this.1, hk2]; rfl
    simpa using this
  let L := ls.filter fun q => decide ((wk ws q.2.toNat).1 = p ∧ (wk ws q.2.toNat).2.2.1 ≤ m)
  have h1 : A1.length ≤ L.length := by
    have := nd_len (a := A1.map fun k : Nat => (k : Int)) (b := L.map (·.2)) (cast_nd _ (List.Pairwise.filter _ ndA)) fun x hx => by
      obtain ⟨k, hk, rfl⟩ := List.mem_map.mp hx
      obtain ⟨hk1, hk2⟩ := List.mem_filter.mp hk
      obtain ⟨hk3, hk4⟩ := List.mem_filter.mp hk1
      obtain ⟨q, hq, hqk⟩ := List.mem_map.mp (of_decide_eq_true hk2)
      refine List.mem_map.mpr ⟨q, List.mem_filter.mpr ⟨hq, ?_⟩, hqk⟩
      rw [hqk, Int.toNat_natCast]
      exact hk4
    simpa using this
  have h3 : L.length ≤ B.length := by
    have ndL : (L.map (·.1)).Nodup := n1.sublist (List.filter_sublist.map _)
    have := nd_len (a := L.map (·.1)) (b := B.map fun k : Nat => (k : Int)) ndL fun x hx => by
      obtain ⟨q, hq, rfl⟩ := List.mem_map.mp hx
      obtain ⟨hq1, hq2⟩ := List.mem_filter.mp hq
      obtain ⟨a0, a1, b0, b1, e1, e2⟩ := goes_of (hg q hq1)
      have hq3 := of_decide_eq_true hq2
      refine List.mem_map.mpr ⟨q.1.toNat, List.mem_filter.mpr ⟨List.mem_range.mpr (by omega), decide_eq_true ⟨by rw [e1]; exact hq3.1, by omega⟩⟩, ?_⟩
      show ((q.1.toNat : Nat) : Int) = q.1
      omega
    simpa using this
  show ((A.length : Nat) : Int) - ((B.length : Nat) : Int) ≤ _
  omega
/-! the run -/
def secs (ls : List (Int × Int)) : List Int := ls.map (·.2)
def unl (gap p : Int) (ws : List Wk) (l : List T3i) : List T3i := l.filter fun t => decide (t.2.2 = p) && !decide (t.2.1 ∈ secs (runP gap ws l).2)
def lnk (gap p : Int) (ws : List Wk) (l : List T3i) : List T3i := l.filter fun t => decide (t.2.2 = p) && decide (t.2.1 ∈ secs (runP gap ws l).2)
theorem run_snoc' {gap : Int} {ws : List Wk} {l : List T3i} {t : T3i} : runP gap ws (l ++ [t]) = stepQ gap (runP gap ws l) t := by simp [runP]
theorem secs_sub {gap : Int} {ws : List Wk} : ∀ {l : List T3i} {k : Int}, k ∈ secs (runP gap ws l).2 → k ∈ l.map (·.2.1) := by
  have key : ∀ n, ∀ l : List T3i, l.length = n → ∀ k, k ∈ secs (runP gap ws l).2 → k ∈ l.map (·.2.1) := fun n => by
    induction n with
    | zero => intro l h k hk; rw [List.length_eq_zero_iff.mp h] at hk; simp [runP, secs] at hk
    | succ n ih =>
      intro l h k hk
      have hne : l ≠ [] := by rintro rfl; simp at h
      obtain ⟨l', t, rfl⟩ : ∃ l' t, l = l' ++ [t] := ⟨_, _, (List.dropLast_concat_getLast hne).symm⟩
      rw [run_snoc'] at hk
      rw [List.map_append, List.mem_append]
      unfold stepQ at hk
      split at hk
      · split at hk
        · simp only [secs, List.map_append, List.mem_append] at hk
          rcases hk with hk | hk
          · exact .inl (ih l' (by simpa using h) k hk)
          · exact .inr (by simpa using hk)
        · exact .inl (ih l' (by simpa using h) k hk)
      · exact .inl (ih l' (by simpa using h) k hk)
  exact fun {l k} => key _ l rfl k
structure RunOk (gap p : Int) (ws : List Wk) (l : List T3i) : Prop where
  suf : (runP gap ws l).1 p <:+ queue0 ws p
  cnt : ((runP gap ws l).1 p).length + (lnk gap p ws l).length = (queue0 ws p).length
  top : unl gap p ws l = [] ∨ ∃ s, ((unl gap p ws l).length : Int) ≤ sm (evs gap p ws) s
theorem cnt_all {gap p : Int} {ws : List Wk} {l : List T3i} : (l.filter fun t => decide (t.2.2 = p)).length = (lnk gap p ws l).length + (unl gap p ws l).length := by
  unfold lnk unl
  generalize secs (runP gap ws l).2 = S
  induction l with
  | nil => rfl
  | cons t l ih =>
    by_cases h1 : t.2.2 = p <;> by_cases h2 : t.2.1 ∈ S <;> simp [h1, h2] at ih ⊢ <;> omega
theorem dep_starts (ws : List Wk) : (depS ws).Pairwise fun s t => s.1 ≤ t.1 := (srtX_sorted x3 (depT ws)).imp fun h => by
  rcases lex_of_x3 h with h | h
  · exact Int.le_of_lt h
  · exact Int.le_of_eq h.1
theorem dep_nd (ws : List Wk) : ((depS ws).map (·.2.1)).Nodup := by
  unfold depS
  rw [((srtX_perm x3 (depT ws)).map (·.2.1)).nodup_iff]
  unfold depT
  rw [List.map_map]
  refine List.Pairwise.map _ (fun (a b : Nat) h => ?_) List.nodup_range
  show ((a : Nat) : Int) ≠ (b : Int)
  omega
theorem dep_left {ws : List Wk} {p m : Int} : (leftN p ws m).length = ((depS ws).filter fun t => decide (t.2.2 = p ∧ t.1 ≤ m)).length := by
  unfold depS
  rw [left_len, ((srtX_perm x3 (depT ws)).filter _).length_eq]
  unfold depT
  rw [List.filter_map, List.length_map]
  rfl
theorem arr_ready {ws : List Wk} {p gap m : Int} : (readyN p gap ws m).length = ((queue0 ws p).filter fun q => decide (q.1 + gap ≤ m)).length := by
  rw [ready_len]
  unfold queue0 arrS
  rw [List.filter_map, List.length_map, List.filter_filter, ((srtX_perm x3 (arrT ws)).filter _).length_eq]
  unfold arrT
  rw [List.filter_map, List.length_map]
  refine congrArg List.length (List.filter_congr fun k _ => ?_)
  show decide _ = (decide _ && decide _)
  rw [Bool.decide_and, Bool.and_comm]
  rfl
theorem run_ok {gap p : Int} {ws : List Wk} : ∀ (l r : List T3i), l ++ r = depS ws → RunOk gap p ws l := by
  have key : ∀ n, ∀ l r : List T3i, l.length = n → l ++ r = depS ws → RunOk gap p ws l := fun n => by
    induction n with
    | zero =>
      intro l r h _
      rw [List.length_eq_zero_iff.mp h]
      exact ⟨⟨[], rfl⟩, by simp [runP, lnk], .inl rfl⟩
    | succ n ih =>
      intro l r h hd
      have hne : l ≠ [] := by rintro rfl; simp at h
      obtain ⟨l', t, rfl⟩ : ∃ l' t, l = l' ++ [t] := ⟨_, _, (List.dropLast_concat_getLast hne).symm⟩
      have h0 := ih l' (t :: r) (by simpa using h) (by simpa using hd)
      have nd := dep_nd ws
      rw [← hd] at nd
      have tn : t.2.1 ∉ l'.map (·.2.1) := by
        rw [List.map_append, List.map_append, List.nodup_append] at nd
        have n1 := nd.1
        rw [List.nodup_append] at n1
        exact fun z => n1.2.2 _ z t.2.1 (by simp) rfl
      have tno : t.2.1 ∉ secs (runP gap ws l').2 := fun z => tn (secs_sub z)
      have lst : ∀ u ∈ l', u.1 ≤ t.1 := fun u hu => by
        have := dep_starts ws
        rw [← hd, List.append_assoc, List.pairwise_append] at this
        exact this.2.2 u hu t (by simp)
      have same : ∀ (ls : List (Int × Int)) (u : T3i), u ∈ l' → (u.2.1 ∈ secs (ls ++ [(0, t.2.1)]) ↔ u.2.1 ∈ secs ls) := fun ls u hu => by
        simp only [secs, List.map_append, List.mem_append, List.map_cons, List.map_nil, List.mem_singleton]
        exact ⟨fun z => z.elim id fun e => absurd (List.mem_map.mpr ⟨u, hu, e⟩) tn, .inl⟩
      -- not linked
      have stay : runP gap ws (l' ++ [t]) = runP gap ws l' → (t.2.2 = p → ∀ q ∈ (runP gap ws l').1 p, ¬ (q.1 + gap ≤ t.1)) → RunOk gap p ws (l' ++ [t]) := fun e hno => by
        have eu : unl gap p ws (l' ++ [t]) = unl gap p ws l' ++ (if t.2.2 = p then [t] else []) := by
          unfold unl
          rw [e, List.filter_append]
          congr 1
          by_cases hp : t.2.2 = p <;> simp [hp, tno]
        have el : lnk gap p ws (l' ++ [t]) = lnk gap p ws l' := by
          unfold lnk
          rw [e, List.filter_append]
          simp [tno]
        refine ⟨by rw [e]; exact h0.suf, by rw [e, el]; exact h0.cnt, ?_⟩
        rw [eu]
        by_cases hp : t.2.2 = p
        · rw [if_pos hp]
          refine .inr ⟨t.1, ?_⟩
          rw [← surplus_eq, dep_left, arr_ready]
          have hall := hno hp
          obtain ⟨pre, hpre⟩ := h0.suf
          have r1 : ((queue0 ws p).filter fun q => decide (q.1 + gap ≤ t.1)).length ≤ pre.length := by
            rw [← hpre, List.filter_append, List.length_append]
            have z : ((runP gap ws l').1 p).filter (fun q => decide (q.1 + gap ≤ t.1)) = [] := List.filter_eq_nil_iff.mpr fun q hq => by simpa using hall q hq
            rw [z]
            have := List.length_filter_le (fun q : Int × Int => decide (q.1 + gap ≤ t.1)) pre
            simp; omega
          have r2 : pre.length = (lnk gap p ws l').length := by
            have := h0.cnt
            rw [← hpre, List.length_append] at this
            omega
          have r3 : ((l' ++ [t]).filter fun t => decide (t.2.2 = p)).length ≤ ((depS ws).filter fun u => decide (u.2.2 = p ∧ u.1 ≤ t.1)).length := by
            rw [← hd, List.filter_append (l₁ := l' ++ [t]) (l₂ := r), List.length_append]
            have z : (l' ++ [t]).filter (fun u => decide (u.2.2 = p ∧ u.1 ≤ t.1)) = (l' ++ [t]).filter fun u => decide (u.2.2 = p) := by
              refine List.filter_congr fun u hu => ?_
              have : u.1 ≤ t.1 := by
                rcases List.mem_append.mp hu with hu | hu
                · exact lst u hu
                · rw [List.mem_singleton.mp hu]; exact Int.le_refl _
              simp [this]
            rw [z]
            omega
          have r4 := @cnt_all gap p ws (l' ++ [t])
          rw [el, eu, if_pos hp] at r4
          rw [List.length_append] at r4 ⊢
          omega
        · rw [if_neg hp, List.append_nil]
          exact h0.top
      rw [show (runP gap ws (l' ++ [t]) = runP gap ws l' → _) = _ from rfl] at stay
      cases hf : (runP gap ws l').1 t.2.2 with
      | nil => exact stay (by rw [run_snoc']; unfold stepQ; rw [hf]) fun hp q hq => by rw [← hp, hf] at hq; cases hq
      | cons x rest =>
        by_cases hx : x.1 + gap ≤ t.1
        · have e : runP gap ws (l' ++ [t]) = (popF (runP gap ws l').1 t.2.2 rest, (runP gap ws l').2 ++ [(x.2, t.2.1)]) := by rw [run_snoc']; unfold stepQ; rw [hf]; exact if_pos hx
          have es : secs (runP gap ws (l' ++ [t])).2 = secs (runP gap ws l').2 ++ [t.2.1] := by rw [e]; simp [secs]
          have mem : ∀ u ∈ l', (u.2.1 ∈ secs (runP gap ws (l' ++ [t])).2 ↔ u.2.1 ∈ secs (runP gap ws l').2) := fun u hu => by
            rw [es, List.mem_append]
            exact ⟨fun z => z.elim id fun e => absurd (List.mem_map.mpr ⟨u, hu, List.mem_singleton.mp e⟩) tn, .inl⟩
          have tin : t.2.1 ∈ secs (runP gap ws (l' ++ [t])).2 := by rw [es]; simp
          have eu : unl gap p ws (l' ++ [t]) = unl gap p ws l' := by
            unfold unl
            rw [List.filter_append]
            have z1 : [t].filter (fun u => decide (u.2.2 = p) && !decide (u.2.1 ∈ secs (runP gap ws (l' ++ [t])).2)) = [] := by simp [tin]
            rw [z1, List.append_nil]
            refine List.filter_congr fun u hu => ?_
            rw [decide_eq_decide.mpr (mem u hu)]
          have el : lnk gap p ws (l' ++ [t]) = lnk gap p ws l' ++ (if t.2.2 = p then [t] else []) := by
            unfold lnk
            rw [List.filter_append]
            congr 1
            · refine List.filter_congr fun u hu => ?_
              rw [decide_eq_decide.mpr (mem u hu)]
            · by_cases hp : t.2.2 = p <;> simp [hp, tin]
          refine ⟨?_, ?_, by rw [eu]; exact h0.top⟩
          · rw [e]
            show popF _ _ _ p <:+ _
            unfold popF
            split
            · rename_i hp
              rw [← hp] at hf
              have := h0.suf
              rw [hf] at this
              exact List.IsSuffix.trans ⟨[x], rfl⟩ this
            · exact h0.suf
          · rw [el, e]
            show (popF _ _ _ p).length + _ = _
            unfold popF
            have := h0.cnt
            by_cases hp : p = t.2.2
            · rw [if_pos hp, if_pos hp.symm]
              rw [hp, hf] at this
              rw [hp]
              simp at this ⊢
              omega
            · rw [if_neg hp, if_neg (Ne.symm hp)]
              simpa using this
        · refine stay (by rw [run_snoc']; unfold stepQ; rw [hf]; exact if_neg hx) fun hp q hq => ?_
          rw [← hp, hf] at hq
          have srt : (queue0 ws t.2.2).Pairwise lexLe := by rw [queue0_eq]; exact (qAll_sorted ws).filter _
          have s2 : (x :: rest).Pairwise lexLe := by
            have hs := h0.suf
            rw [← hp, hf] at hs
            exact srt.sublist hs.sublist
          rcases List.mem_cons.mp hq with rfl | hq
          · exact hx
          · have := (List.pairwise_cons.mp s2).1 q hq
            unfold lexLe at this
            omega
  exact fun l r h => key _ l r rfl h
end Lw

set_option Elab.async false
set_option linter.all false
set_option maxRecDepth 100000
set_option maxHeartbeats 4000000
/-! >= of tuples; fewest sets: the rest of the mathematics -/
namespace Lw
open PySem PySem.Spec L2 PyProof.Rows
open Evl (Ex)
def rGeT (K : PySem.W.Frag) : R2 := fun x y H Q => ∃ (a b : Addr) (ns ms : List Int), x = .ref a ∧ y = .ref b ∧ SqT K H a (ns.map V.int) ∧ SqT K H b (ms.map V.int) ∧
  Q (.bl (Ob.lexAt (fun j => decide (ns.getD j 0 = ms.getD j 0)) (fun j => decide (ms.getD j 0 ≤ ns.getD j 0)) (decide (ns.length ≥ ms.length)) 0 (min ns.length ms.length))) H
theorem op_geT {X : Cx} (hu : X.A.units < cLine) : OpR X (compareOp .GtE) (rGeT X.K) := by
  intro pins s σ H x y v u Q I rx ry h
  obtain ⟨a, b, ns, ms, rfl, rfl, ha, hb, q⟩ := h
  cases rx
  cases ry
  obtain ⟨its, r1, p1, _⟩ := I.tuple ha
  obtain ⟨its2, r2, p2, _⟩ := I.tuple hb
  have i1 : IntsAre its ns := Vals.ints r1
  have i2 : IntsAre its2 ms := Vals.ints r2
  have e1 : its.toArray.size = ns.length := by rw [List.size_toArray]; exact i1.length
  have e2 : its2.toArray.size = ms.length := by rw [List.size_toArray]; exact i2.length
  have at1 : ∀ j (h1 : j < its.toArray.size), ∃ t, its.toArray[j] = .int (ns.getD j 0) t := fun j h1 => PyProof.Rows.IntsAre.int_at i1 _ _ (by simp at h1; simp [h1])
  have at2 : ∀ j (h1 : j < its2.toArray.size), ∃ t, its2.toArray[j] = .int (ms.getD j 0) t := fun j h1 => PyProof.Rows.IntsAre.int_at i2 _ _ (by simp at h1; simp [h1])
  have R := Ob.RcOp.tuples_ge (A := X.A) (s := s) (e := fun j => decide (ns.getD j 0 = ms.getD j 0)) (r := fun j => decide (ms.getD j 0 ≤ ns.getD j 0)) p1 p2 hu (fun j h1 h2 => by
    obtain ⟨t, et⟩ := at1 j h1
    obtain ⟨t', et'⟩ := at2 j h2
    rw [et, et']
    have z : (ns.getD j 0 == ms.getD j 0) = decide (ns.getD j 0 = ms.getD j 0) := by
      by_cases q : ns.getD j 0 = ms.getD j 0
      · rw [decide_eq_true q]; exact beq_iff_eq.mpr q
      · rw [decide_eq_false q]; exact beq_eq_false_iff_ne.mpr q
    rw [← z]
    exact SeqAt.EqAt.int_int _ _ _ _) (fun j h1 h2 _ => by
    obtain ⟨t, et⟩ := at1 j h1
    obtain ⟨t', et'⟩ := at2 j h2
    rw [et, et']
    exact Ob.RcOp.ge_int _ _ _ _)
  rw [e1, e2] at R
  have z : wpAny (model X.prog X.w) X.A (compareOp .GtE (.ref a) (.ref b)) (EP X pins σ Q) X.xe s := R X.prog X.w X.xe (EP X pins σ Q) ⟨.bl _, H, I, rfl, q⟩
  exact z
theorem et_geP {K : PySem.W.Frag} {σ : L2.St} {G : Hp} {ta tb : TE} {p q : Int × Int} (ha : EF ta σ G (DV K (dP p))) (hb : EF tb σ G (DV K (dP q))) (h : lexLe p q ∧ p ≠ q) : ET (tTest (tOp (rGeT K) ta tb)) σ G (· = false) :=
  et_test (ef_op (P := BV (· = false)) mo_DV mo_DV ha hb fun x y G' e hx hy => by
    obtain ⟨a, rfl, sa⟩ := dp_P hx
    obtain ⟨b, rfl, sb⟩ := dp_P hy
    intro H e2 Q k
    refine ⟨a, b, [p.1, p.2], [q.1, q.2], rfl, rfl, Evl.ex_t e2 sa, Evl.ex_t e2 sb, k _ G' H (.refl e2) ⟨_, rfl, ?_⟩⟩
    obtain ⟨h1, h2⟩ := h
    unfold lexLe at h1
    show Ob.lexAt _ _ _ 0 2 = false
    unfold Ob.lexAt
    simp only
    by_cases e1 : p.1 = q.1
    · rw [if_pos (by simpa using e1)]
      unfold Ob.lexAt
      have n2 : p.2 ≠ q.2 := fun z => h2 (Prod.ext e1 z)
      rw [if_neg (by simpa using n2)]
      simp
      omega
    · rw [if_neg (by simpa using e1)]
      simp
      omega)
/-! what the program's run is -/
theorem newS_len {ws : List Wk} {gap p : Int} : (newS ws (linksP gap ws) p).length = (unl gap p ws (depS ws)).length := by
  unfold unl linksP secs newS
  generalize (runP gap ws (depS ws)).2 = ls
  have e : (depS ws).filter (fun t => decide (t.2.2 = p) && !decide (t.2.1 ∈ ls.map (·.2))) = (depS ws).filter fun t => decide (t.2.2 = p) && !decide (t.2.1 ∈ ls.map (·.2)) := rfl
  unfold depS
  rw [((srtX_perm x3 (depT ws)).filter _).length_eq]
  unfold depT
  rw [List.filter_map, List.length_map]
  rfl
structure LinOk (ws : List Wk) (gap : Int) (B : Int → Prop) (st : List Int × List (Int × Int)) : Prop where
  fst : st.2.map (·.1) = st.1
  nd : st.1.Nodup
  sec : (st.2.map (·.2)).Nodup
  bnd : ∀ q ∈ st.2, B q.2
  goes : ∀ q ∈ st.2, goesB ws gap q.1 q.2 = true
theorem LinOk.fits {ws : List Wk} {gap : Int} {B : Int → Prop} {st : List Int × List (Int × Int)} (h : LinOk ws gap B st) : fitsB ws gap st.2 = true := by
  unfold fitsB
  rw [h.fst, decide_eq_true h.nd, decide_eq_true h.sec]
  simpa using fun a b hab => h.goes (a, b) hab
theorem LinOk.add {ws : List Wk} {gap : Int} {B : Int → Prop} {st : List Int × List (Int × Int)} {x k : Int} (h : LinOk ws gap B st) (hx : x ∉ st.1) (hk : ¬ B k) (hg : goesB ws gap x k = true) {B' : Int → Prop} (hB : ∀ z, B z → B' z) (hk' : B' k) : LinOk ws gap B' (st.1 ++ [x], st.2 ++ [(x, k)]) where
  fst := by simp [h.fst]
  nd := by
    rw [List.nodup_append]
    exact ⟨h.nd, by simp, fun a ha b hb => by cases List.mem_singleton.mp hb; exact fun e => hx (by rw [← e]; exact ha)⟩
  sec := by
    rw [List.map_append, List.nodup_append]
    refine ⟨h.sec, by simp, fun a ha b hb => ?_⟩
    simp at hb
    subst hb
    obtain ⟨q, hq, rfl⟩ := List.mem_map.mp ha
    exact fun e => hk (by rw [← e]; exact h.bnd q hq)
  bnd := fun q hq => by
    rcases List.mem_append.mp hq with hq | hq
    · exact hB _ (h.bnd q hq)
    · cases List.mem_singleton.mp hq; exact hk'
  goes := fun q hq => by
    rcases List.mem_append.mp hq with hq | hq
    · exact h.goes q hq
    · cases List.mem_singleton.mp hq; exact hg
theorem LinOk.mono {ws : List Wk} {gap : Int} {B B' : Int → Prop} {st : List Int × List (Int × Int)} (h : LinOk ws gap B st) (hB : ∀ z, B z → B' z) : LinOk ws gap B' st := ⟨h.fst, h.nd, h.sec, fun q hq => hB _ (h.bnd q hq), h.goes⟩
theorem linL_ok {ws : List Wk} {gap : Int} : fitsB ws gap (linksL gap ws) = true := by
  have ndP : ((depP ws).map (·.2)).Nodup := by
    rw [depP_eq, List.map_map]
    exact dep_nd ws
  have key : ∀ n, ∀ l r : List (Int × Int), l.length = n → l ++ r = depP ws → LinOk ws gap (· ∈ l.map (·.2)) (l.foldl (stepL ws gap) ([], [])) := fun n => by
    induction n with
    | zero => intro l r h _; rw [List.length_eq_zero_iff.mp h]; exact ⟨rfl, by simp, by simp, by simp, by simp⟩
    | succ n ih =>
      intro l r h hd
      have hne : l ≠ [] := by rintro rfl; simp at h
      obtain ⟨l', t, rfl⟩ : ∃ l' t, l = l' ++ [t] := ⟨_, _, (List.dropLast_concat_getLast hne).symm⟩
      have h0 := ih l' (t :: r) (by simpa using h) (by simpa using hd)
      have tn : t.2 ∉ l'.map (·.2) := by
        have nd := ndP
        rw [← hd, List.map_append, List.map_append, List.nodup_append] at nd
        have n1 := nd.1
        rw [List.nodup_append] at n1
        exact fun z => n1.2.2 _ z t.2 (by simp) rfl
      rw [List.foldl_append]
      generalize l'.foldl (stepL ws gap) ([], []) = st at h0
      show LinOk ws gap _ (stepL ws gap st t)
      unfold stepL
      cases hf : srtP ((freeL ws gap t.2).filter fun a => !decide (a.2 ∈ st.1)) with
      | nil => exact h0.mono fun z hz => by rw [List.map_append]; exact List.mem_append_left _ hz
      | cons x rest =>
        have hx : x ∈ (freeL ws gap t.2).filter fun a => !decide (a.2 ∈ st.1) := (srtP_perm _).mem_iff.mp (by rw [hf]; exact List.mem_cons_self)
        obtain ⟨x1, x2⟩ := List.mem_filter.mp hx
        have hg : goesB ws gap x.2 t.2 = true := by
          unfold freeL at x1
          obtain ⟨z, hz, rfl⟩ := List.mem_map.mp x1
          exact (List.mem_filter.mp hz).2
        exact h0.add (by simpa using x2) tn hg (fun z hz => by rw [List.map_append]; exact List.mem_append_left _ hz) (by simp)
  exact (key _ (depP ws) [] rfl (by simp)).fits
theorem linP_ok {ws : List Wk} {gap : Int} : fitsB ws gap (linksP gap ws) = true := by rw [links_eq]; exact linL_ok
/-- the number of new sets is the deficit -/
theorem new_top {ws : List Wk} {gap p : Int} : ((newS ws (linksP gap ws) p).length : Int) = (topP (evs gap p ws)).1 := by
  have lo := low_bound (p := p) (linP_ok (ws := ws) (gap := gap))
  have up := (run_ok (gap := gap) (p := p) (ws := ws) (depS ws) [] (by simp)).top
  rw [newS_len] at lo ⊢
  rcases topP_ok (l := evs gap p ws) evs_one with ⟨e, h⟩ | ⟨g, m, e, h0, h1, h2, h3⟩
  · rw [e]
    rcases up with u | ⟨s, u⟩
    · rw [u]; rfl
    · have := h s
      show ((unl gap p ws (depS ws)).length : Int) = 0
      omega
  · rw [e]
    have a := lo m
    rcases up with u | ⟨s, u⟩
    · rw [u] at a; simp at a; omega
    · have := h2 s
      show ((unl gap p ws (depS ws)).length : Int) = g
      omega
end Lw

set_option Elab.async false
set_option linter.all false
set_option maxRecDepth 100000
set_option maxHeartbeats 4000000
/-! fewest sets: promises -/
namespace Lw
open PySem PySem.Spec L2
open Evl (Ex)
theorem hu0 {k : Nat} {A : Around} (r : Room k A) : A.units < cLine := by have := r.un; omega
section
variable {K : PySem.W.Frag} {σ : L2.St} {G G' H H1 : Hp} {D : Ends} {ta te : TE} {t : TT}
def spCheckN (K : PySem.W.Frag) : Sp := fun vs H Q _ => ∃ (G : Hp) (a : Addr) (ws : List Wk), Ex G H ∧ vs = [.ref a] ∧ Dp K G (.ref a) (dWs ws) ∧ badAt ws = none ∧ Ret G H (XV .non) Q
theorem st_checkN {ws : List Wk} {a : Addr} {E : XK} (hG : Ex G H) (ha : EF ta σ G (XV (.ref a))) (hd : Dp K G (.ref a) (dWs ws)) (hb : badAt ws = none) (k0 : ∀ H', Ex H H' → D.nx σ H') : tDrop (tCall (spCheckN K) [] E (tCons ta tNil)) D σ H :=
  st_drop (P := XV .non) hG (ex_call1 ha fun G' e H2 e2 Q _ q => ⟨G', a, ws, e2, rfl, dpx hd e, hb, q⟩) fun v G' H' g _ => k0 H' g.hp
def spDeficitN (K : PySem.W.Frag) : Sp := fun vs H Q _ => ∃ (G : Hp) (a : Addr) (ws : List Wk) (p gap : Int), Ex G H ∧ vs = [.ref a, .int p, .int gap] ∧ Dp K G (.ref a) (dWs ws) ∧ ws.length ≤ 200 ∧ badAt ws = none ∧ Ret G H (DV K (dTop (topP (evs gap p ws)))) Q
theorem sa_deficitN {a : Addr} {ws : List Wk} {p gap : Int} (hd : Dp K G (.ref a) (dWs ws)) (hl : ws.length ≤ 200) (hb : badAt ws = none) : SA (spDeficitN K) [.ref a, .int p, .int gap] G (DV K (dTop (topP (evs gap p ws)))) := fun H e Q _ q => ⟨G, a, ws, p, gap, e, rfl, hd, hl, hb, q⟩
def spLeastN (K : PySem.W.Frag) : Sp := fun vs H Q _ => ∃ (G : Hp) (a : Addr) (ws : List Wk) (gap : Int), Ex G H ∧ vs = [.ref a, .int gap] ∧ Dp K G (.ref a) (dWs ws) ∧ ws.length ≤ 200 ∧ badAt ws = none ∧ ∀ ks : List Int, ks.Pairwise (· < ·) → (∀ k, k ∈ ks ↔ ∃ v ∈ ws, v.1 = k ∨ v.2.1 = k) → Ret G H (DV K (dPs (setsOf gap ws ks))) Q
theorem sa_leastN {a : Addr} {ws : List Wk} {gap : Int} {ps : List Int} (hd : Dp K G (.ref a) (dWs ws)) (hl : ws.length ≤ 200) (hb : badAt ws = none) (h1 : ps.Pairwise (· < ·)) (h2 : ∀ v ∈ ws, WOk ps v) : SA (spLeastN K) [.ref a, .int gap] G (DV K (dPs (setsOf gap ws ps))) := fun H e Q _ q => ⟨G, a, ws, gap, e, rfl, hd, hl, hb, fun ks ka km v G' H' g p => q v G' H' g (by rw [← sets_eq ka h1 km h2]; exact p)⟩
def spLinkN (K : PySem.W.Frag) : Sp := fun vs H Q _ => ∃ (G : Hp) (a : Addr) (ws : List Wk) (gap : Int), Ex G H ∧ vs = [.ref a, .int gap] ∧ Dp K G (.ref a) (dWs ws) ∧ ws.length ≤ 200 ∧ badAt ws = none ∧ Ret G H (DV K (dPs (srtP (linksP gap ws)))) Q
theorem sa_linkN {a : Addr} {ws : List Wk} {gap : Int} (hd : Dp K G (.ref a) (dWs ws)) (hl : ws.length ≤ 200) (hb : badAt ws = none) : SA (spLinkN K) [.ref a, .int gap] G (DV K (dPs (srtP (linksP gap ws)))) := fun H e Q _ q => ⟨G, a, ws, gap, e, rfl, hd, hl, hb, q⟩
def spIsLN (K : PySem.W.Frag) : Sp := fun vs H Q _ => ∃ (G : Hp) (a b : Addr) (ws : List Wk) (ls : List (Int × Int)) (gap : Int), Ex G H ∧ vs = [.ref a, .ref b, .int gap] ∧ Dp K G (.ref a) (dWs ws) ∧ Dp K G (.ref b) (dPs ls) ∧ ws.length ≤ 200 ∧ ls.length ≤ 900 ∧ badAt ws = none ∧ Ret G H (XV (.bl (fitsB ws gap ls))) Q
theorem sa_isLN {a b : Addr} {ws : List Wk} {ls : List (Int × Int)} {gap : Int} (hd : Dp K G (.ref a) (dWs ws)) (dl : Dp K G (.ref b) (dPs ls)) (hl : ws.length ≤ 200) (hll : ls.length ≤ 900) (hb : badAt ws = none) : SA (spIsLN K) [.ref a, .ref b, .int gap] G (XV (.bl (fitsB ws gap ls))) := fun H e Q _ q => ⟨G, a, b, ws, ls, gap, e, rfl, hd, dl, hl, hll, hb, q⟩
def WkS (ps : List Int) (v : Wk) : Prop := WOk ps v ∧ v.2.2.1 < v.2.2.2
theorem wks_bad {ps : List Int} {ws : List Wk} (h : ∀ v ∈ ws, WkS ps v) : badAt ws = none := by
  unfold badAt
  rw [List.findIdx?_eq_none_iff]
  intro v hv
  exact decide_eq_false (by have := (h v hv).2; omega)
def spWorkS (K : PySem.W.Frag) : Sp := fun vs H Q _ => ∃ (G : Hp) (c kd : Int) (a : Addr) (ps : List Int), Ex G H ∧ vs = [.int c, .int kd, .ref a] ∧ SqL K G a (ps.map V.int) ∧ 1 ≤ ps.length ∧ ps.length ≤ 2000 ∧ Ret G H (fun v G' => ∃ w : Wk, WkS ps w ∧ Dp K G' v (dW w)) Q
theorem sa_workS {c kd : Int} {a : Addr} {ps : List Int} (hs : SqL K G a (ps.map V.int)) (h1 : 1 ≤ ps.length) (h2 : ps.length ≤ 2000) : SA (spWorkS K) [.int c, .int kd, .ref a] G (fun v G' => ∃ w : Wk, WkS ps w ∧ Dp K G' v (dW w)) := fun H e Q _ q => ⟨G, c, kd, a, ps, e, rfl, hs, h1, h2, q⟩
def spIsP (K : PySem.W.Frag) : Sp := fun vs H Q _ => ∃ (G : Hp) (x : V) (p : Int × Int), Ex G H ∧ vs = [x] ∧ Dp K G x (dP p) ∧ Ret G H (XV (.bl true)) Q
theorem sa_isP {x : V} {p : Int × Int} (h : Dp K G x (dP p)) : SA (spIsP K) [x] G (XV (.bl true)) := fun H e Q _ q => ⟨G, x, p, e, rfl, h, q⟩
def spIsR (K : PySem.W.Frag) : Sp := fun vs H Q _ => ∃ (G : Hp) (a b : Addr) (ws : List Wk) (ls : List (Int × Int)) (gap : Int), Ex G H ∧ vs = [.ref a, .ref b, .int gap] ∧ Dp K G (.ref a) (dWs ws) ∧ Dp K G (.ref b) (dPs ls) ∧ ws.length ≤ 200 ∧ ls.length ≤ ws.length ∧ fitsB ws gap ls = true ∧ ls.Pairwise lexLe ∧ Ret G H (XV (.bl true)) Q
theorem sa_isR {a b : Addr} {ws : List Wk} {ls : List (Int × Int)} {gap : Int} (hd : Dp K G (.ref a) (dWs ws)) (dl : Dp K G (.ref b) (dPs ls)) (hl : ws.length ≤ 200) (hll : ls.length ≤ ws.length) (hf : fitsB ws gap ls = true) (hs : ls.Pairwise lexLe) : SA (spIsR K) [.ref a, .ref b, .int gap] G (XV (.bl true)) := fun H e Q _ q => ⟨G, a, b, ws, ls, gap, e, rfl, hd, dl, hl, hll, hf, hs, q⟩
def FitV (K : PySem.W.Frag) (ws : List Wk) (gap : Int) : VP := fun v G => ∃ ls : List (Int × Int), fitsB ws gap ls = true ∧ ls.length ≤ 200 ∧ LS K (ls.map dP) v G
def spOthL (K : PySem.W.Frag) : Sp := fun vs H Q _ => ∃ (G : Hp) (a s : Addr) (ws : List Wk) (ns : List Int) (gap : Int), Ex G H ∧ vs = [.ref a, .int gap, .ref s] ∧ Dp K G (.ref a) (dWs ws) ∧ ws.length ≤ 200 ∧ SqL K G s (ns.map V.int) ∧ ns.length ≤ 63 ∧ Ret G H (FitV K ws gap) Q
theorem sa_othL {a s : Addr} {ws : List Wk} {ns : List Int} {gap : Int} (hd : Dp K G (.ref a) (dWs ws)) (hl : ws.length ≤ 200) (hs : SqL K G s (ns.map V.int)) (hn : ns.length ≤ 63) : SA (spOthL K) [.ref a, .int gap, .ref s] G (FitV K ws gap) := fun H e Q _ q => ⟨G, a, s, ws, ns, gap, e, rfl, hd, hl, hs, hn, q⟩
def spNew (K : PySem.W.Frag) : Sp := fun vs H Q _ => ∃ (G : Hp) (a b : Addr) (ws : List Wk) (ls : List (Int × Int)) (p : Int), Ex G H ∧ vs = [.ref a, .ref b, .int p] ∧ Dp K G (.ref a) (dWs ws) ∧ Dp K G (.ref b) (dPs ls) ∧ ws.length ≤ 200 ∧ ls.length ≤ 900 ∧ Ret G H (XV (.int ((newS ws ls p).length : Nat))) Q
theorem sa_new {a b : Addr} {ws : List Wk} {ls : List (Int × Int)} {p : Int} (hd : Dp K G (.ref a) (dWs ws)) (dl : Dp K G (.ref b) (dPs ls)) (hl : ws.length ≤ 200) (hll : ls.length ≤ 900) : SA (spNew K) [.ref a, .ref b, .int p] G (XV (.int ((newS ws ls p).length : Nat))) := fun H e Q _ q => ⟨G, a, b, ws, ls, p, e, rfl, hd, dl, hl, hll, q⟩
def spIsD (K : PySem.W.Frag) : Sp := fun vs H Q _ => ∃ (G : Hp) (a : Addr) (x : V) (ws : List Wk) (p gap : Int), Ex G H ∧ vs = [.ref a, .int p, .int gap, x, .int (topAt gap ws p)] ∧ Dp K G (.ref a) (dWs ws) ∧ Dp K G x (dTop (topP (evs gap p ws))) ∧ ws.length ≤ 200 ∧ Ret G H (XV (.bl true)) Q
theorem sa_isD {a : Addr} {x : V} {ws : List Wk} {p gap : Int} (hd : Dp K G (.ref a) (dWs ws)) (hx : Dp K G x (dTop (topP (evs gap p ws)))) (hl : ws.length ≤ 200) : SA (spIsD K) [.ref a, .int p, .int gap, x, .int (topAt gap ws p)] G (XV (.bl true)) := fun H e Q _ q => ⟨G, a, x, ws, p, gap, e, rfl, hd, hx, hl, q⟩
def tolD (ws : List Wk) (ps : List Int) (p gap : Int) : PyData := .tuple [dPs (srtP (linksP gap ws)), dPs (setsOf gap ws ps), dTop (topP (evs gap p ws)), .bool true]
def spTol (K : PySem.W.Frag) : Sp := fun vs H Q _ => ∃ (G : Hp) (a b : Addr) (ws : List Wk) (ls : List (Int × Int)) (ps : List Int) (p t : Int), Ex G H ∧ vs = [.ref a, .ref b, .int p, .int t] ∧ Dp K G (.ref a) (dWs ws) ∧ Dp K G (.ref b) (dPs ls) ∧ ws.length ≤ 200 ∧ ls.length ≤ 900 ∧ badAt ws = none ∧ fitsB ws (gapOf t) ls = true ∧ ps.Pairwise (· < ·) ∧ (∀ v ∈ ws, WOk ps v) ∧ Ret G H (DV K (tolD ws ps p (gapOf t))) Q
theorem sa_tol {a b : Addr} {ws : List Wk} {ls : List (Int × Int)} {ps : List Int} {p t : Int} (hd : Dp K G (.ref a) (dWs ws)) (dl : Dp K G (.ref b) (dPs ls)) (hl : ws.length ≤ 200) (hll : ls.length ≤ 900) (hb : badAt ws = none) (hf : fitsB ws (gapOf t) ls = true) (h1 : ps.Pairwise (· < ·)) (h2 : ∀ v ∈ ws, WOk ps v) : SA (spTol K) [.ref a, .ref b, .int p, .int t] G (DV K (tolD ws ps p (gapOf t))) := fun H e Q _ q => ⟨G, a, b, ws, ls, ps, p, t, e, rfl, hd, dl, hl, hll, hb, hf, h1, h2, q⟩
/-- [x for x in range(n) if p(x)]: a new list -/
theorem el_filRN {ta : TA} {j : Nat} {n : Nat} {p : Nat → Bool} (h : EA ta σ G fun us _ => us = [.int (n : Int)]) (hn : n ≤ 40000) (hw : ∀ x, wipe ((wipe σ [j]).set j (some x)) [j] = wipe σ [j]) (hj : ∀ x, ((wipe σ [j]).set j (some x))[j]? = some (some x))
    (ht : ∀ (i : Nat) G', Ex G G' → i < n → ET t ((wipe σ [j]).set j (some (.int (i : Int)))) G' (· = p i)) :
    EF (tLc (iRng1 ta) (gName j) t (tVar j) [j]) σ G (fun v G' => ∃ r : Addr, v = .ref r ∧ G r = none ∧ G' r = some (.lst (((List.range n).filter p).map fun i : Nat => V.int (i : Int)))) := by
  refine ef_lcR1 (n := (n : Int)) (fun i acc G' => acc = ((List.range i).filter p).map fun i : Nat => V.int (i : Int)) h ⟨by omega, by omega⟩ hw (fun G' _ => rfl) (fun i acc G' e1 hi hI => ?_) (fun p acc G' h1 h2 _ _ hI => ⟨p, rfl, h1, ?_⟩)
  · rw [List.range_succ, List.filter_append]
    refine ec_if (ht i G' e1 (by omega)) (fun hb => EF.imp (P := XV (.int (i : Int))) (ex_var (hj _)) fun v G2 e2 pv => ?_) (fun hb => ?_)
    · rw [show ([i].filter p) = [i] by simp [← hb], List.map_append, hI, show v = _ from pv]
      rfl
    · rw [show ([i].filter p) = [] by simp [← hb], List.append_nil]
      exact hI
  · have en : ((n : Int)).toNat = n := by omega
    rw [en] at hI
    rw [upd_same, hI]
end
end Lw

set_option Elab.async false
set_option linter.all false
set_option maxRecDepth 100000
set_option maxHeartbeats 4000000
/-! the program's defs -/
namespace Kx
open PySem L2 Lw
open Evl (Ex)
def top (i : Nat) : Stmt := PySem.Challenge.pw_railhouse_k65_whole_fewest_sets.main.body.getD i (.Pass ⟨0, 0, 0, 0⟩)
abbrev s__check_workings : Stmt := top 8
theorem sc__check_workings : FnScope ["workings", "index", "_", "start", "end"] ["workings"] (defScope s__check_workings) := ⟨rfl, rfl, rfl, by decide +kernel, rfl, by decide +kernel, by decide +kernel⟩
abbrev s__changes : Stmt := top 9
theorem sc__changes : FnScope ["workings", "turning", "changes", "origin", "goal", "start", "end"] ["workings", "turning"] (defScope s__changes) := ⟨rfl, rfl, rfl, by decide +kernel, rfl, by decide +kernel, by decide +kernel⟩
abbrev s__greatest_surplus : Stmt := top 10
theorem sc__greatest_surplus : FnScope ["changes", "surplus", "greatest", "at", "moment", "change"] ["changes"] (defScope s__greatest_surplus) := ⟨rfl, rfl, rfl, by decide +kernel, rfl, by decide +kernel, by decide +kernel⟩
abbrev s_deficit : Stmt := top 4
theorem sc_deficit : FnScope ["workings", "place", "turning"] ["workings", "place", "turning"] (defScope s_deficit) := ⟨rfl, rfl, rfl, by decide +kernel, rfl, by decide +kernel, by decide +kernel⟩
abbrev s_least_sets : Stmt := top 5
theorem sc_least_sets : FnScope ["workings", "turning", "changes", "found", "place", "number"] ["workings", "turning"] (defScope s_least_sets) := ⟨rfl, rfl, rfl, by decide +kernel, rfl, by decide +kernel, by decide +kernel⟩
abbrev s__arrivals : Stmt := top 11
theorem sc__arrivals : FnScope ["workings", "found", "end", "number", "goal", "row"] ["workings"] (defScope s__arrivals) := ⟨rfl, rfl, rfl, by decide +kernel, rfl, by decide +kernel, by decide +kernel⟩
abbrev s__departures : Stmt := top 12
theorem sc__departures : FnScope ["workings", "number", "row"] ["workings"] (defScope s__departures) := ⟨rfl, rfl, rfl, by decide +kernel, rfl, by decide +kernel, by decide +kernel⟩
abbrev s__may_link : Stmt := top 13
theorem sc__may_link : FnScope ["workings", "first", "second", "turning", "number", "_", "goal", "end", "origin", "start"] ["workings", "first", "second", "turning"] (defScope s__may_link) := ⟨rfl, rfl, rfl, by decide +kernel, rfl, by decide +kernel, by decide +kernel⟩
abbrev s_link : Stmt := top 6
theorem sc_link : FnScope ["workings", "turning", "waiting", "links", "start", "number", "origin", "ends", "_", "first"] ["workings", "turning"] (defScope s_link) := ⟨rfl, rfl, rfl, by decide +kernel, rfl, by decide +kernel, by decide +kernel⟩
abbrev s_is_linking : Stmt := top 7
theorem sc_is_linking : FnScope ["workings", "links", "turning", "firsts", "seconds", "first", "_", "second"] ["workings", "links", "turning"] (defScope s_is_linking) := ⟨rfl, rfl, rfl, by decide +kernel, rfl, by decide +kernel, by decide +kernel⟩
section
variable {P : Program} {w : World} {K : PySem.W.Frag} {mg : Str → Option Value} {base : Heap} {C CB : Addr} {f : Addr} {fd : FuncData}
theorem ok_check (m_enumerate : mg "enumerate" = none) (F : Fun K "_check_workings" "_check_workings" s__check_workings f fd) : FnOk P w K mg base CX0 1 f fd ["workings"] (spCheckN K) := by
  refine F.ok sc__check_workings (fun vs H Q E h => ?_) (fun cdv A outer s H vs Q E hr h => ?_)
  · obtain ⟨G, a, ws, _, rfl, _⟩ := h
    rfl
  · obtain ⟨G, a, ws, hG, rfl, hd, hb, k⟩ := h
    refine ⟨_, (pss_one (ps_for PassesOwn.never rfl (pi_enum (by rfl) m_enumerate (pa_cons (pv 0) pa_nil)) (pg_tup rfl (pgs_cons (pg_name (i := 1) sc__check_workings.nd rfl (by first | exact Or.inl rfl | exact Or.inr rfl)) (pgs_cons (pg_tup rfl (pgs_cons (pg_name (i := 2) sc__check_workings.nd rfl (by first | exact Or.inl rfl | exact Or.inr rfl)) (pgs_cons (pg_name (i := 2) sc__check_workings.nd rfl (by first | exact Or.inl rfl | exact Or.inr rfl)) (pgs_cons (pg_name (i := 3) sc__check_workings.nd rfl (by first | exact Or.inl rfl | exact Or.inr rfl)) (pgs_cons (pg_name (i := 4) sc__check_workings.nd rfl (by first | exact Or.inl rfl | exact Or.inr rfl)) pgs_nil))))) pgs_nil)))
 (pss_one (ps_if (pt_cmpR op_le (pv 4) (pv 3) (nomark _))
 (pss_never) pss_nil)))), ?_⟩
    obtain ⟨a', xs, e, hs, hx⟩ := dp_lst hd
    cases e
    refine st_forEn (xs := xs) hG (ex_var (v := .ref a) rfl) hs (fun i σ' H' => Ex H H' ∧ ∃ v1 v2 v3 v4, σ' = [some (.ref a), v1, v2, v3, v4]) (fun H' e => ⟨e, _, _, _, _, rfl⟩) (fun i σ' H' hw => hG.trans hw.1) (fun i x T σ' H' hi hw hT => ?_) (fun σ' H' hw => ?_)
    · obtain ⟨e, v1, v2, v3, v4, rfl⟩ := hw
      obtain ⟨d, hd1, dy⟩ := dpa_get hx hi
      rw [List.getElem?_map] at hd1
      obtain ⟨v, hv, rfl⟩ := Option.map_eq_some_iff.mp hd1
      have eT : Ex H (upd H' T (.tup [.int (i : Nat), x])) := e.trans (ex_in hT)
      obtain ⟨b, rfl, hb4⟩ := dp_W dy
      have hbv : badW v = false := by
        unfold badAt at hb
        rw [List.findIdx?_eq_none_iff] at hb
        exact hb v (List.mem_of_getElem? hv)
      refine g_one_in (Evl.st_of upd_same) (g_four (Evl.ex_t (hG.trans eT) hb4) (g_n ?_))
      exact st_if0 (hG.trans eT) ((et_leI (a := v.2.2.2) (b := v.2.2.1) (ex_var rfl) (ex_var rfl)).imp fun b hb' => by rw [hb']; exact hbv) fun H2 e2 => ⟨eT.trans e2, _, _, _, _, rfl⟩
    · obtain ⟨e, v1, v2, v3, v4, rfl⟩ := hw
      exact k _ G H' (.same hG e) rfl
theorem ok_changes (F : Fun K "_changes" "_changes" s__changes f fd) : FnOk P w K mg base CX0 1 f fd ["workings", "turning"] (spChanges K) := by
  refine F.ok sc__changes (fun vs H Q E h => ?_) (fun cdv A outer s H vs Q E hr h => ?_)
  · obtain ⟨G, a, ws, gap, _, rfl, _⟩ := h
    rfl
  · obtain ⟨G, a, ws, gap, hG, rfl, hd, hl, k⟩ := h
    refine ⟨_, (pss_cons (ps_set (i := 2) sc__changes.nd rfl (by first | exact Or.inl rfl | exact Or.inr rfl) pe_dnewK)
 (pss_cons (ps_for PassesOwn.never rfl (pi_list (pv 0)) (pg_tup rfl (pgs_cons (pg_name (i := 3) sc__changes.nd rfl (by first | exact Or.inl rfl | exact Or.inr rfl)) (pgs_cons (pg_name (i := 4) sc__changes.nd rfl (by first | exact Or.inl rfl | exact Or.inr rfl)) (pgs_cons (pg_name (i := 5) sc__changes.nd rfl (by first | exact Or.inl rfl | exact Or.inr rfl)) (pgs_cons (pg_name (i := 6) sc__changes.nd rfl (by first | exact Or.inl rfl | exact Or.inr rfl)) pgs_nil)))))
 (pss_cons (ps_expr (pe_bm PySem.F.plainAttrs_list PySem.F.slot_list_append PySem.F.type_list_append mt_append (pe_dsetd (pv 2) (pv 3) (pe_lst pa_nil) ⟨by rfl, by rfl, by rfl, by rfl⟩) (pa_cons (pe_tup (pa_cons (pv 5) (pa_cons pe_int pa_nil))) pa_nil)))
 (pss_one (ps_expr (pe_bm PySem.F.plainAttrs_list PySem.F.slot_list_append PySem.F.type_list_append mt_append (pe_dsetd (pv 2) (pv 4) (pe_lst pa_nil) ⟨by rfl, by rfl, by rfl, by rfl⟩) (pa_cons (pe_tup (pa_cons (pe_op op_add (pv 6) (pv 1)) (pa_cons (pe_un un_neg pe_int) pa_nil))) pa_nil))))))
 (pss_one (ps_ret (pv 2))))), ?_⟩
    obtain ⟨a', xs, e, hs, hx⟩ := dp_lst hd
    cases e
    refine fun d hd0 => ?_
    have h0 := db_new (K := K) hG hd0
    have hG0 : Ex G (upd H d (.dK [])) := hG.trans (ex_in hd0)
    refine st_forK (xs := xs) hG0 (ex_var (v := .ref a) rfl) hs (fun i σ' H' => DB K G H H' d (chg gap (ws.take i)) ∧ ∃ v3 v4 v5 v6, σ' = [some (.ref a), some (.int gap), some (.ref d), v3, v4, v5, v6]) (fun H' e => ?_) (fun i σ' H' hw => ?_) (fun i x σ' H' hi hw => ?_) (fun σ' H' hw => ?_)
    · refine ⟨?_, _, _, _, _, rfl⟩
      exact ⟨G, [], ⟨Ex.refl G, hG0.trans e, (ex_in hd0).trans e, fun _ _ h => h⟩, none_back hG hd0, e _ _ upd_same, by simp, by simp, by simp, rfl⟩
    · obtain ⟨⟨G', es, g, _⟩, _⟩ := hw
      exact g.up.trans g.ok
    · obtain ⟨hB, v3, v4, v5, v6, rfl⟩ := hw
      obtain ⟨dd, hd1, dy⟩ := dpa_get hx hi
      rw [List.getElem?_map] at hd1
      obtain ⟨v, hv, rfl⟩ := Option.map_eq_some_iff.mp hd1
      obtain ⟨b, rfl, hb4⟩ := dp_W dy
      have hGH : Ex G H' := by
        obtain ⟨G', es, g, _⟩ := hB
        exact g.up.trans g.ok
      have ok := chg_ok gap (ws.take i)
      have hl1 : 2 * (ws.take i).length ≤ 400 := by rw [List.length_take]; omega
      refine g_four (Evl.ex_t hGH hb4) ?_
      refine st_dset (m := chg gap (ws.take i)) (k := v.1) (x := dP (v.2.2.1, 1)) hd0 hB ok.nd (by have := ok.len; omega) (fun p hp => by have := ok.row p hp; omega) rfl (fun G' _ => ex_var rfl) (fun G' _ => ef_pairI (ex_var rfl) ex_c) fun H2 hB2 => ?_
      refine st_dset (k := v.2.1) (x := dP (v.2.2.2 + gap, -1)) hd0 hB2 (addM_nd ok.nd) (by have := ok.len; have := @addM_len (chg gap (ws.take i)) v.1 (dP (v.2.2.1, 1)); omega) (fun p hp => by have := addM_row ok.row p hp; omega) rfl (fun G' _ => ex_var rfl) (fun G' _ => ef_pairI (ex_add (ex_var rfl) (ex_var rfl)) ex_neg) fun H3 hB3 => ?_
      refine ⟨?_, _, _, _, _, rfl⟩
      rw [List.take_succ, hv, Option.toList_some, chg_snoc]
      exact hB3
    · obtain ⟨hB, v3, v4, v5, v6, rfl⟩ := hw
      rw [List.take_of_length_le (by have := dpa_len hx; rw [List.length_map] at this; omega)] at hB
      obtain ⟨Gf, g, hk⟩ := hB.get hd0
      exact st_ret (P := fun v G' => ∃ d, v = .ref d ∧ DkAt K G' d (chg gap ws)) g.ok (ef_var (v := .ref d) rfl ⟨d, rfl, hk⟩) fun v G' H3 g3 p => k v G' H3 (g.trans g3) p
theorem ok_gs (B : Blt mg) (F : Fun K "_greatest_surplus" "_greatest_surplus" s__greatest_surplus f fd) : FnOk P w K mg base CX0 1 f fd ["changes"] (spGS K) := by
  have m_sorted := B.sorted
  refine F.ok sc__greatest_surplus (fun vs H Q E h => ?_) (fun cdv A outer s H vs Q E hr h => ?_)
  · obtain ⟨G, x, l, _, rfl, _⟩ := h
    rfl
  · obtain ⟨G, x, l, hG, rfl, hd, k⟩ := h
    refine ⟨_, (pss_cons (ps_asg (pe_tup (pa_cons pe_int (pa_cons pe_non pa_nil))) (pg_tup rfl (pgs_cons (pg_name (i := 2) sc__greatest_surplus.nd rfl (by first | exact Or.inl rfl | exact Or.inr rfl)) (pgs_cons (pg_name (i := 3) sc__greatest_surplus.nd rfl (by first | exact Or.inl rfl | exact Or.inr rfl)) pgs_nil))))
 (pss_cons (ps_set (i := 1) sc__greatest_surplus.nd rfl (by first | exact Or.inl rfl | exact Or.inr rfl) pe_int)
 (pss_cons (ps_for PassesOwn.never rfl (pi_list (pe_callB cr_sortPD (by rfl) m_sorted (by decide +kernel) (pa_cons (pv 0) pa_nil))) (pg_tup rfl (pgs_cons (pg_name (i := 4) sc__greatest_surplus.nd rfl (by first | exact Or.inl rfl | exact Or.inr rfl)) (pgs_cons (pg_name (i := 5) sc__greatest_surplus.nd rfl (by first | exact Or.inl rfl | exact Or.inr rfl)) pgs_nil)))
 (pss_cons (ps_aug (i := 1) sc__greatest_surplus.nd rfl (by first | exact Or.inl rfl | exact Or.inr rfl) (pv 5) ip_add)
 (pss_one (ps_if (pt_cmpR op_gt (pv 1) (pv 2) (nomark _))
 (pss_one (ps_par (i := 2) (j := 3) (by rfl) sc__greatest_surplus.nd rfl rfl (by decide) rfl rfl (pa_cons (pv 1) (pa_cons (pv 4) pa_nil)) (by rfl))) pss_nil))))
 (pss_one (ps_ret (pe_tup (pa_cons (pv 2) (pa_cons (pv 3) pa_nil)))))))), ?_⟩
    obtain ⟨a, xs, rfl, hs, hx⟩ := dp_lst hd
    refine st_asgG hG (ef_tup (P := fun v G' => ∃ q, v = .ref q ∧ SqT K G' q [.int 0, .non]) (ea_x ex_c (ea_x ex_c ea_nil)) (fun vs _ h => by rw [h]; simp) fun q vs G' _ _ _ ev => ⟨q, rfl, by rw [ev]; exact Evl.st_of upd_same⟩) fun v0 G1 H1 g1 ⟨q0, e0, hq0⟩ => ?_
    subst e0
    refine g_two (Evl.ex_t g1.ok hq0) ?_
    dsimp only
    refine st_asg (P := XV (.int 0)) g1.ok ex_c fun v1 G2 H2 g2 p1 => ?_
    cases (show v1 = .int 0 from p1)
    have gA := g1.trans g2
    refine st_forE g2.ok (ed_srtP (js := l) (ex_var (v := .ref a) rfl) (Evl.ex_l gA.up hs) (dpax hx gA.up)) fun G3 H3 b ys g3 hys hdy => ⟨fun i σ' H' => Ex H3 H' ∧ ∃ s r v4 v5, σ' = [some (.ref a), some (.int s), some (.int r.1), some (vOpt r.2), v4, v5] ∧ goS ((srtP l).take i) 0 (0, none) = r ∧ s = (((srtP l).take i).map (·.2)).sum, ?_, fun i σ' H' hw => g3.ok.trans hw.1, fun i y σ' H' hi hw => ?_, fun σ' H' hw => ?_⟩
    · exact ⟨Ex.refl _, 0, (0, none), _, _, rfl, rfl, rfl⟩
    · obtain ⟨e, s, r, v4, v5, rfl, hr1, hs1⟩ := hw
      obtain ⟨dd, hd1, dy⟩ := dpa_get hdy hi
      rw [List.getElem?_map] at hd1
      obtain ⟨⟨m, c⟩, hp, rfl⟩ := Option.map_eq_some_iff.mp hd1
      obtain ⟨b2, rfl, hb2⟩ := dp_P dy
      have eH := g3.ok.trans e
      have tk : (srtP l).take (i + 1) = (srtP l).take i ++ [(m, c)] := by rw [List.take_succ, hp, Option.toList_some]
      have hrr : goS ((srtP l).take (i + 1)) 0 (0, none) = if s + c > r.1 then (s + c, some m) else r := by
        rw [tk, goS_snoc, hr1, ← hs1, Int.zero_add]
      have hss : s + c = (((srtP l).take (i + 1)).map (·.2)).sum := by rw [tk, List.map_append, List.sum_append, ← hs1]; simp
      refine g_two (Evl.ex_t eH hb2) ?_
      refine st_augI (a := s) (b := c) eH rfl (ex_var rfl) fun G4 H4 g4 => ?_
      refine st_if (p := (· = decide (s + c > r.1))) g4.ok (et_gtI (ex_var rfl) (ex_var rfl)) (fun h H5 e5 => ?_) (fun h H5 e5 => ?_)
      · refine st_par2 (g4.ok.trans e5) (ex_var (v := .int (s + c)) rfl) (ex_var (v := .int m) rfl) fun G6 H6 g6 => ⟨e.trans (g4.hp.trans (e5.trans g6.hp)), s + c, (s + c, some m), _, _, rfl, ?_, hss⟩
        rw [hrr, if_pos (of_decide_eq_true h.symm)]
      · refine ⟨e.trans (g4.hp.trans e5), s + c, r, _, _, rfl, ?_, hss⟩
        rw [hrr, if_neg (of_decide_eq_false h.symm)]
    · obtain ⟨e, s, r, v4, v5, rfl, hr1, hs1⟩ := hw
      rw [List.take_of_length_le (by have := dpa_len hdy; rw [List.length_map] at this; omega)] at hr1
      have gB := gA.trans g3
      refine st_ret (P := DV K (dTop (topP l))) (g3.ok.trans e) (ef_tup (ea_two (Pa := XV (.int r.1)) (Pb := XV (vOpt r.2)) mo_XV mo_XV (ex_var rfl) (ex_var rfl)) (fun vs _ ⟨x, y, ev, _⟩ => by rw [ev]; simp) fun q vs G' _ _ _ ⟨x, y, ev, hx, hy⟩ => ?_) fun v G' H' g p => k v G' H' ((gB.then e).trans g) p
      rw [ev, show x = _ from hx, show y = _ from hy]
      unfold topP
      rw [hr1]
      exact dp_mkT upd_same (.cons (.int _) (.cons dp_opt .nil))
theorem st_forTE {σ : L2.St} {G H : Hp} {D : Ends} {xs : List V} {tl : TE} {g : TG} {tu : TS} (hG : Ex G H) (h : EF tl σ G fun v G' => ∃ a, v = .ref a ∧ SqT K G' a xs)
    (k : ∀ G1 H1 a, Gr G G1 H H1 → SqT K G1 a xs → ∃ W : Nat → L2.St → Hp → Prop, W 0 σ H1 ∧ (∀ i σ' H', W i σ' H' → Ex G1 H') ∧ (∀ i x σ' H', xs[i]? = some x → W i σ' H' → g x σ' H' fun σ2 H2 => tu { D with nx := W (i + 1), ct := W (i + 1), bk := D.nx } σ2 H2) ∧ ∀ σ' H', W xs.length σ' H' → D.nx σ' H') : tFor (iTup K tl) g tu D σ H :=
  h H hG _ fun v G1 H1 g1 ⟨a, ev, hs⟩ => by
    obtain ⟨W, h0, hl, hs', hd'⟩ := k G1 H1 a g1 hs
    exact ⟨a, ev, ⟨xs, Evl.ex_t g1.ok hs⟩, for_tup W h0 (fun i σ' H' _ w => Evl.ex_t (hl i σ' H' w) hs) hs' hd'⟩
theorem rows_src {σ : L2.St} {G : Hp} {a : Addr} {ws : List Wk} {i j : Nat} {k1 k2 : Int} {sel1 sel2 : Wk → Int} {tl : TE} (hl : EF tl σ G (XV (.ref a))) (hd : Dp K G (.ref a) (dWs ws)) (hn : ws.length ≤ 200) (hw : ∀ p q, wipe (((wipe σ [i, j]).set i p).set j q) [i, j] = wipe σ [i, j])
    (hi : ∀ p q, (((wipe σ [i, j]).set i p).set j q)[i]? = some p) (hj : ∀ p q, (((wipe σ [i, j]).set i p).set j q)[j]? = some q) {n1 n2 : Nat} (e1 : k1 = (n1 : Int)) (e2 : k2 = (n2 : Int)) (h1 : ∀ v : Wk, ([V.int v.1, .int v.2.1, .int v.2.2.1, .int v.2.2.2])[n1]? = some (.int (sel1 v))) (h2 : ∀ v : Wk, ([V.int v.1, .int v.2.1, .int v.2.2.1, .int v.2.2.2])[n2]? = some (.int (sel2 v))) :
    EF (tLc (iEnum K (tCons tl tNil)) (gTup K 2 (gCons (gName i) (gCons (gName j) gNil))) tYes (tTup (tCons (tOp (rIxT K) (tVar j) (tC (.int k1))) (tCons (tVar i) (tCons (tOp (rIxT K) (tVar j) (tC (.int k2))) tNil)))) [i, j]) σ G (LS K (((List.range ws.length).map fun n => ((sel1 (wk ws n), (n : Int), sel2 (wk ws n)) : T3i)).map enc3)) := by
  obtain ⟨xs, hs, hx, hlen, _⟩ := wk_at hd
  subst e1 e2
  rw [List.map_map, ← hlen]
  refine el_mapEn hl hs (by omega) hw fun n x G' e hn => ?_
  obtain ⟨dd, hd1, dy⟩ := dpa_get hx hn
  rw [List.getElem?_map] at hd1
  obtain ⟨v, hv, rfl⟩ := Option.map_eq_some_iff.mp hd1
  have dv := dpx dy e
  rw [show ((enc3 ∘ fun n => ((sel1 (wk ws n), (n : Int), sel2 (wk ws n)) : T3i)) n) = enc3 (sel1 v, (n : Int), sel2 v) by simp [wk_get hv]]
  exact ef_tup (ea_x (ex_wk (ex_var (hj _ _)) dv ex_c (h1 v)) (ea_x (ex_var (hi _ _)) (ea_x (ex_wk (ex_var (hj _ _)) dv ex_c (h2 v)) ea_nil))) (fun vs _ h => by rw [h]; simp) fun q vs G' _ _ _ ev => dp_mkT upd_same (by rw [ev]; exact dpa_ints [_, _, _])
theorem ok_arr (B : Blt mg) (m_enumerate : mg "enumerate" = none) (F : Fun K "_arrivals" "_arrivals" s__arrivals f fd) : FnOk P w K mg base CX0 1 f fd ["workings"] (spArr K) := by
  have m_sorted := B.sorted
  refine F.ok sc__arrivals (fun vs H Q E h => ?_) (fun cdv A outer s H vs Q E hr h => ?_)
  · obtain ⟨G, a, ws, _, rfl, _⟩ := h
    rfl
  · obtain ⟨G, a, ws, hG, rfl, hd, hl, k⟩ := h
    refine ⟨_, (pss_cons (ps_set (i := 1) sc__arrivals.nd rfl (by first | exact Or.inl rfl | exact Or.inr rfl) pe_dnewK)
 (pss_cons (ps_for PassesOwn.never rfl (pi_list (pe_callB (cr_sortD (enc := enc3) (hu65 hr)) (by rfl) m_sorted (by decide +kernel) (pa_cons (pe_lc (own := [("number", 3), ("row", 5)]) (g := (gTup K 2 (gCons (gName 3) (gCons (gName 5) gNil)))) (tt := tYes) (te := (tTup (tCons (tOp (rIxT K) (tVar 5) (tC (.int 3))) (tCons (tVar 3) (tCons (tOp (rIxT K) (tVar 5) (tC (.int 1))) tNil))))) rfl sc__arrivals.nd (pi_enum (by rfl) m_enumerate (pa_cons (pv 0) pa_nil)) (blkOk_by (N := ["workings", "found", "end", "number", "goal", "row"]) (sc := defScope s__arrivals) (by decide +kernel)) (fun _ _ _ _ _ => (pg_tup rfl (pgs_cons (pg_name (i := 3) sc__arrivals.nd rfl (Or.inl rfl)) (pgs_cons (pg_name (i := 5) sc__arrivals.nd rfl (Or.inl rfl)) pgs_nil)))) (fun _ _ _ _ _ => pts_nil) (fun _ _ _ _ _ => (pe_tup (pa_cons (pe_ix ix_tup (pv 5) pe_int (fun _ _ => rfl)) (pa_cons (pv 3) (pa_cons (pe_ix ix_tup (pv 5) pe_int (fun _ _ => rfl)) pa_nil)))))) pa_nil))) (pg_tup rfl (pgs_cons (pg_name (i := 2) sc__arrivals.nd rfl (by first | exact Or.inl rfl | exact Or.inr rfl)) (pgs_cons (pg_name (i := 3) sc__arrivals.nd rfl (by first | exact Or.inl rfl | exact Or.inr rfl)) (pgs_cons (pg_name (i := 4) sc__arrivals.nd rfl (by first | exact Or.inl rfl | exact Or.inr rfl)) pgs_nil))))
 (pss_one (ps_expr (pe_bm PySem.F.plainAttrs_list PySem.F.slot_list_append PySem.F.type_list_append mt_append (pe_dsetd (pv 1) (pv 4) (pe_lst pa_nil) ⟨by rfl, by rfl, by rfl, by rfl⟩) (pa_cons (pe_tup (pa_cons (pv 2) (pa_cons (pv 3) pa_nil))) pa_nil)))))
 (pss_one (ps_ret (pv 1))))), ?_⟩
    refine fun d hd0 => ?_
    have gd0 : G d = none := none_back hG hd0
    have hG0 : Ex G (upd H d (.dK [])) := hG.trans (ex_in hd0)
    dsimp only
    refine st_forE (ds := (arrS ws).map enc3) hG0 ((ed_sort3i (l := arrT ws) (rows_src (i := 3) (j := 5) (k1 := 3) (k2 := 1) (n1 := 3) (n2 := 1) (sel1 := fun v => v.2.2.2) (sel2 := fun v => v.2.1) (ex_var (v := .ref a) rfl) hd hl (fun _ _ => rfl) (fun _ _ => rfl) (fun _ _ => rfl) rfl rfl (fun _ => rfl) (fun _ => rfl)).ls_dv).ls_dv) fun G1 H1 c ys g1 hys hdy => ⟨fun i σ' H' => DB K G1 H H' d (arrF ((arrS ws).take i)) ∧ ∃ v2 v3 v4 v5, σ' = [some (.ref a), some (.ref d), v2, v3, v4, v5], ?_, fun i σ' H' hw => ?_, fun i y σ' H' hi hw => ?_, fun σ' H' hw => ?_⟩
    · exact ⟨⟨G1, [], ⟨Ex.refl _, g1.ok, (ex_in hd0).trans g1.hp, fun _ _ h => h⟩, g1.2.2.2 d (ne_none_of upd_same) gd0, g1.hp _ _ upd_same, by simp, by simp, by simp, rfl⟩, _, _, _, _, rfl⟩
    · obtain ⟨⟨G', es, g, _⟩, _⟩ := hw
      exact g.up.trans g.ok
    · obtain ⟨hB, v2, v3, v4, v5, rfl⟩ := hw
      have hGH : Ex G1 H' := by
        obtain ⟨G', es, g, _⟩ := hB
        exact g.up.trans g.ok
      obtain ⟨dd, hd1, dy⟩ := dpa_get hdy hi
      rw [List.getElem?_map] at hd1
      obtain ⟨t, ht, rfl⟩ := Option.map_eq_some_iff.mp hd1
      obtain ⟨b, rfl, hb⟩ := dp_3 dy
      have ok := arr_ok ((arrS ws).take i)
      have hlen : ((arrS ws).take i).length ≤ 200 := by rw [List.length_take, arrS_len]; omega
      refine g_three (Evl.ex_t hGH hb) ?_
      refine st_dset (k := t.2.2) (x := dP (pr t)) hd0 hB ok.nd (by have := ok.len; omega) (fun p hp => by have := ok.row p hp; omega) rfl (fun G' _ => ex_var rfl) (fun G' _ => ef_pairI (ex_var rfl) (ex_var rfl)) fun H2 hB2 => ⟨?_, _, _, _, _, rfl⟩
      rw [List.take_succ, ht, Option.toList_some, arrF_snoc]
      exact hB2
    · obtain ⟨hB, v2, v3, v4, v5, rfl⟩ := hw
      rw [List.take_of_length_le (by have := dpa_len hdy; rw [List.length_map] at this; omega), ← arrM_eq] at hB
      obtain ⟨G', es, g, rest⟩ := hB
      exact ⟨.ref d, rfl, k d H' hd0 ⟨G', es, (g1.low (ex_in hd0)).chain g, rest⟩⟩
theorem ok_dep (B : Blt mg) (m_enumerate : mg "enumerate" = none) (F : Fun K "_departures" "_departures" s__departures f fd) : FnOk P w K mg base CX0 1 f fd ["workings"] (spDep K) := by
  have m_sorted := B.sorted
  refine F.ok sc__departures (fun vs H Q E h => ?_) (fun cdv A outer s H vs Q E hr h => ?_)
  · obtain ⟨G, a, ws, _, rfl, _⟩ := h
    rfl
  · obtain ⟨G, a, ws, hG, rfl, hd, hl, k⟩ := h
    refine ⟨_, (pss_one (ps_ret (pe_callB (cr_sortD (enc := enc3) (hu65 hr)) (by rfl) m_sorted (by decide +kernel) (pa_cons (pe_lc (own := [("number", 1), ("row", 2)]) (g := (gTup K 2 (gCons (gName 1) (gCons (gName 2) gNil)))) (tt := tYes) (te := (tTup (tCons (tOp (rIxT K) (tVar 2) (tC (.int 2))) (tCons (tVar 1) (tCons (tOp (rIxT K) (tVar 2) (tC (.int 0))) tNil))))) rfl sc__departures.nd (pi_enum (by rfl) m_enumerate (pa_cons (pv 0) pa_nil)) (blkOk_by (N := ["workings", "number", "row"]) (sc := defScope s__departures) (by decide +kernel)) (fun _ _ _ _ _ => (pg_tup rfl (pgs_cons (pg_name (i := 1) sc__departures.nd rfl (Or.inl rfl)) (pgs_cons (pg_name (i := 2) sc__departures.nd rfl (Or.inl rfl)) pgs_nil)))) (fun _ _ _ _ _ => pts_nil) (fun _ _ _ _ _ => (pe_tup (pa_cons (pe_ix ix_tup (pv 2) pe_int (fun _ _ => rfl)) (pa_cons (pv 1) (pa_cons (pe_ix ix_tup (pv 2) pe_int (fun _ _ => rfl)) pa_nil)))))) pa_nil)))), ?_⟩
    exact st_ret (P := LS K ((depS ws).map enc3)) hG (ed_sort3i (l := depT ws) (rows_src (i := 1) (j := 2) (k1 := 2) (k2 := 0) (n1 := 2) (n2 := 0) (sel1 := fun v => v.2.2.1) (sel2 := fun v => v.1) (ex_var (v := .ref a) rfl) hd hl (fun _ _ => rfl) (fun _ _ => rfl) (fun _ _ => rfl) rfl rfl (fun _ => rfl) (fun _ => rfl)).ls_dv) k
theorem ok_may (B : Blt mg) (F : Fun K "_may_link" "_may_link" s__may_link f fd) : FnOk P w K mg base CX0 1 f fd ["workings", "first", "second", "turning"] (spMay K) := by
  have m_len := B.len
  refine F.ok sc__may_link (fun vs H Q E h => ?_) (fun cdv A outer s H vs Q E hr h => ?_)
  · obtain ⟨G, a, ws, x, y, gap, _, rfl, _⟩ := h
    rfl
  · obtain ⟨G, a, ws, x, y, gap, hG, rfl, hd, hl, k⟩ := h
    refine ⟨_, (pss_cons (ps_for PassesOwn.never rfl (pi_tup (pe_tup (pa_cons (pv 1) (pa_cons (pv 2) pa_nil)))) (pg_name (i := 4) sc__may_link.nd rfl (by first | exact Or.inl rfl | exact Or.inr rfl))
 (pss_one (ps_if (PW.pt (pw_or (pt_cmpR op_lt (pv 4) pe_int (nomark _)) (pw_or1 (pt_cmpR op_ge (pv 4) (pe_callB call_len_seq (by rfl) m_len PySem.boot_len (pa_cons (pv 0) pa_nil)) (nomark _)))))
 (pss_one (ps_ret pe_bl)) pss_nil)))
 (pss_cons (ps_asg (pe_ix ix_list (pv 0) (pv 1) (fun _ _ => rfl)) (pg_tup rfl (pgs_cons (pg_name (i := 5) sc__may_link.nd rfl (by first | exact Or.inl rfl | exact Or.inr rfl)) (pgs_cons (pg_name (i := 6) sc__may_link.nd rfl (by first | exact Or.inl rfl | exact Or.inr rfl)) (pgs_cons (pg_name (i := 5) sc__may_link.nd rfl (by first | exact Or.inl rfl | exact Or.inr rfl)) (pgs_cons (pg_name (i := 7) sc__may_link.nd rfl (by first | exact Or.inl rfl | exact Or.inr rfl)) pgs_nil))))))
 (pss_cons (ps_asg (pe_ix ix_list (pv 0) (pv 2) (fun _ _ => rfl)) (pg_tup rfl (pgs_cons (pg_name (i := 8) sc__may_link.nd rfl (by first | exact Or.inl rfl | exact Or.inr rfl)) (pgs_cons (pg_name (i := 5) sc__may_link.nd rfl (by first | exact Or.inl rfl | exact Or.inr rfl)) (pgs_cons (pg_name (i := 9) sc__may_link.nd rfl (by first | exact Or.inl rfl | exact Or.inr rfl)) (pgs_cons (pg_name (i := 5) sc__may_link.nd rfl (by first | exact Or.inl rfl | exact Or.inr rfl)) pgs_nil))))))
 (pss_one (ps_ret (pe_and (pe_cmpR op_eq (pv 6) (pv 8) (nomark _)) (pe_one (pe_cmpR op_le (pe_op op_add (pv 7) (pv 3)) (pv 9) (nomark _))))))))), ?_⟩
    have len : ∀ {σ : L2.St} {G' : Hp}, Ex G G' → σ[0]? = some (some (.ref a)) → EF (tCB (Evl.rLenS K) (tCons (tVar 0) tNil)) σ G' (XV (.int (ws.length : Int))) := fun e h => (ex_lenD (ds := ws.map dW) (EF.dv (ex_var h) (dpx hd e))).imp fun v _ _ p => by rw [show v = _ from p, List.length_map]; rfl
    refine st_forTE (xs := [.int x, .int y]) hG (ef_tup (ea_x (ex_var rfl) (ea_x (ex_var rfl) ea_nil)) (fun vs _ h => by rw [h]; simp) fun q vs G' _ _ _ ev => ⟨q, rfl, by rw [ev]; exact Evl.st_of upd_same⟩) fun G1 H1 c g1 hc => ⟨fun i σ' H' => Ex H1 H' ∧ (0 < i → 0 ≤ x ∧ x < (ws.length : Int)) ∧ (1 < i → 0 ≤ y ∧ y < (ws.length : Int)) ∧ ∃ v4, σ' = [some (.ref a), some (.int x), some (.int y), some (.int gap), v4, none, none, none, none, none], ?_, fun i σ' H' hw => g1.ok.trans hw.1, fun i z σ' H' hi hw => ?_, fun σ' H' hw => ?_⟩
    · exact ⟨Ex.refl _, fun h => absurd h (by omega), fun h => absurd h (by omega), _, rfl⟩
    · obtain ⟨e, p1, p2, v4, rfl⟩ := hw
      obtain ⟨n, rfl, hn⟩ : ∃ n : Int, z = .int n ∧ ((i = 0 ∧ n = x) ∨ (i = 1 ∧ n = y)) := by
        match i, hi with
        | 0, hi => cases hi; exact ⟨x, rfl, .inl ⟨rfl, rfl⟩⟩
        | 1, hi => cases hi; exact ⟨y, rfl, .inr ⟨rfl, rfl⟩⟩
      refine st_if (p := (· = decide (n < 0 ∨ n ≥ (ws.length : Int)))) (g1.ok.trans e) (et_orD (et_ltI (ex_var rfl) ex_c) (et_geI (ex_var rfl) (len g1.up rfl))) (fun h H2 e2 => ?_) (fun h H2 e2 => ?_)
      · have h' := of_decide_eq_true h.symm
        have hb : goesB ws gap x y = false := decide_eq_false fun z => by omega
        exact st_ret (P := XV (.bl false)) (g1.ok.trans (e.trans e2)) ex_c fun v G' H3 g p => k v G' H3 ((g1.then (e.trans e2)).trans g) (by rw [hb]; exact p)
      · have h' := of_decide_eq_false h.symm
        refine ⟨e.trans e2, fun _ => ?_, fun _ => ?_, _, rfl⟩
        · rcases hn with ⟨_, rfl⟩ | ⟨rfl, _⟩
          · omega
          · exact p1 (by omega)
        · rcases hn with ⟨rfl, _⟩ | ⟨_, rfl⟩
          · omega
          · omega
    · obtain ⟨e, p1, p2, v4, rfl⟩ := hw
      obtain ⟨x0, x1⟩ := p1 (by simp)
      obtain ⟨y0, y1⟩ := p2 (by simp)
      obtain ⟨n, rfl⟩ : ∃ n : Nat, x = (n : Int) := ⟨x.toNat, by omega⟩
      obtain ⟨m, rfl⟩ : ∃ m : Nat, y = (m : Int) := ⟨y.toNat, by omega⟩
      obtain ⟨xs, hs, hx, hlen, at'⟩ := wk_at hd
      have hn : ws[n]? = some (wk ws n) := by rw [wk_get (List.getElem?_eq_getElem (by omega))]; exact List.getElem?_eq_getElem (by omega)
      have hm : ws[m]? = some (wk ws m) := by rw [wk_get (List.getElem?_eq_getElem (by omega))]; exact List.getElem?_eq_getElem (by omega)
      obtain ⟨bn, n1, n2⟩ := at' n _ hn
      obtain ⟨bm, m1, m2⟩ := at' m _ hm
      have gA := g1.then e
      refine st_asgG (P := XV (.ref bn)) gA.ok (ex_ixL (ex_var (v := .ref a) rfl) (ex_var rfl) rfl (Evl.ex_l gA.up hs) n1) fun v G2 H2 g2 p2 => ?_
      cases (show v = _ from p2)
      have gB := gA.trans g2
      refine g_four (Evl.ex_t (gB.up.trans g2.ok) n2) ?_
      dsimp only
      refine st_asgG (P := XV (.ref bm)) g2.ok (ex_ixL (ex_var (v := .ref a) rfl) (ex_var rfl) rfl (Evl.ex_l gB.up hs) m1) fun v G3 H3 g3 p3 => ?_
      cases (show v = _ from p3)
      have gC := gB.trans g3
      refine g_four (Evl.ex_t (gC.up.trans g3.ok) m2) ?_
      dsimp only
      refine st_ret (P := BV (· = goesB ws gap (n : Int) (m : Int))) g3.ok (eb_and (p := (· = decide ((wk ws n).2.1 = (wk ws m).1))) (q := (· = decide ((wk ws n).2.2.2 + gap ≤ (wk ws m).2.2.1))) (ei_eq (EF.iv (ex_var rfl)) (EF.iv (ex_var rfl)) fun a b ha hb => by rw [ha, hb]) (fun _ => ec_int (f := fun i j => decide (i ≤ j)) (EF.iv (ex_add (ex_var (v := .int (wk ws n).2.2.2) rfl) (ex_var (v := .int gap) rfl))) (EF.iv (ex_var rfl)) fun a b ha hb => by rw [ha, hb]) (fun h1 b hb => ?_) fun h1 => ?_) fun v G' H4 g ⟨z, ez, hz⟩ => k v G' H4 (gC.trans g) (by rw [ez, hz]; rfl)
      · have q1 := of_decide_eq_true h1.symm
        rw [hb]
        unfold goesB
        rw [Bool.eq_iff_iff, decide_eq_true_eq, decide_eq_true_eq]
        simp only [Int.toNat_natCast]
        exact ⟨fun h => ⟨x0, x1, y0, y1, q1, h⟩, fun h => h.2.2.2.2.2⟩
      · have q1 := of_decide_eq_false h1.symm
        refine (decide_eq_false fun h => ?_).symm
        simp only [Int.toNat_natCast] at h
        exact q1 h.2.2.2.2.1
end
end Kx

set_option Elab.async false
set_option linter.all false
set_option maxRecDepth 100000
set_option maxHeartbeats 4000000
namespace Kx
open PySem L2 Lw
open Evl (Ex)
section
variable {P : Program} {w : World} {K : PySem.W.Frag} {mg : Str → Option Value} {base : Heap} {C CB : Addr} {f : Addr} {fd : FuncData}
theorem ok_deficit (Cc : Cal P w K mg base "_check_workings" 1 ["workings"] (spCheckN K)) (Ch : Cal P w K mg base "_changes" 1 ["workings", "turning"] (spChanges K)) (Cg : Cal P w K mg base "_greatest_surplus" 1 ["changes"] (spGS K)) (F : Fun K "deficit" "deficit" s_deficit f fd) : FnOk P w K mg base CX0 2 f fd ["workings", "place", "turning"] (spDeficitN K) := by
  obtain ⟨f1, fd1, G__check_workings, m__check_workings, k__check_workings, b__check_workings⟩ := Cc
  obtain ⟨f2, fd2, G__changes, m__changes, k__changes, b__changes⟩ := Ch
  obtain ⟨f3, fd3, G__greatest_surplus, m__greatest_surplus, k__greatest_surplus, b__greatest_surplus⟩ := Cg
  refine F.ok sc_deficit (fun vs H Q E h => ?_) (fun cdv A outer s H vs Q E hr h => ?_)
  · obtain ⟨G, a, ws, p, gap, _, rfl, _⟩ := h
    rfl
  · obtain ⟨G, a, ws, p, gap, hG, rfl, hd, hl, hb, k0⟩ := h
    refine ⟨_, (pss_cons (ps_expr (pe_call G__check_workings (hr.mono (by decide)) rfl m__check_workings k__check_workings b__check_workings .nil pass0 (pa_cons (pv 0) pa_nil)))
 (pss_one (ps_ret (pe_call G__greatest_surplus (hr.mono (by decide)) rfl m__greatest_surplus k__greatest_surplus b__greatest_surplus .nil pass0 (pa_cons (pe_dget2 (hu1 hr) (pe_call G__changes (hr.mono (by decide)) rfl m__changes k__changes b__changes .nil pass0 (pa_cons (pv 0) (pa_cons (pv 2) pa_nil))) (pv 1) (pe_lst pa_nil) ⟨by rfl, by rfl, by rfl, by rfl⟩) pa_nil))))), ?_⟩
    refine st_checkN hG (ex_var (v := .ref a) rfl) hd hb (fun H2 e2 => ?_)
    refine st_ret (P := DV K (dTop (topP (evs gap p ws)))) (hG.trans e2) (ef_call (ea_one (P := DV K (dPs (evs gap p ws))) ((ef_dgetC (m := chg gap ws) (k := p) (ex_call2 (ex_var (v := .ref a) rfl) (ex_var (v := .int gap) rfl) fun G' e => sa_changes (dpx hd e) hl) (ex_var rfl) (el_lst (ds := []) ea_nil (by simp) fun vs G' _ h => by rw [h]; exact .nil).ls_dv).imp fun v G' _ p => by rw [(chg_ok gap ws).get] at p; exact p)) fun vs G' _ ⟨x, ev, hx⟩ => by rw [ev]; exact sa_gs hx) fun v G' H3 g p => k0 v G' H3 ((Gr.same hG e2).trans g) p
theorem ok_least (B : Blt mg) (Cc : Cal P w K mg base "_check_workings" 1 ["workings"] (spCheckN K)) (Ch : Cal P w K mg base "_changes" 1 ["workings", "turning"] (spChanges K)) (Cg : Cal P w K mg base "_greatest_surplus" 1 ["changes"] (spGS K)) (F : Fun K "least_sets" "least_sets" s_least_sets f fd) : FnOk P w K mg base CX0 2 f fd ["workings", "turning"] (spLeastN K) := by
  obtain ⟨f1, fd1, G__check_workings, m__check_workings, k__check_workings, b__check_workings⟩ := Cc
  obtain ⟨f2, fd2, G__changes, m__changes, k__changes, b__changes⟩ := Ch
  obtain ⟨f3, fd3, G__greatest_surplus, m__greatest_surplus, k__greatest_surplus, b__greatest_surplus⟩ := Cg
  have m_list := B.list
  have m_sorted := B.sorted
  refine F.ok sc_least_sets (fun vs H Q E h => ?_) (fun cdv A outer s H vs Q E hr h => ?_)
  · obtain ⟨G, a, ws, gap, _, rfl, _⟩ := h
    rfl
  · obtain ⟨G, a, ws, gap, hG, rfl, hd, hl, hb, k0⟩ := h
    refine ⟨_, (pss_cons (ps_expr (pe_call G__check_workings (hr.mono (by decide)) rfl m__check_workings k__check_workings b__check_workings .nil pass0 (pa_cons (pv 0) pa_nil)))
 (pss_cons (ps_set (i := 2) sc_least_sets.nd rfl (by first | exact Or.inl rfl | exact Or.inr rfl) (pe_call G__changes (hr.mono (by decide)) rfl m__changes k__changes b__changes .nil pass0 (pa_cons (pv 0) (pa_cons (pv 1) pa_nil))))
 (pss_cons (ps_setLc (i := 3) (own := [("place", 4)]) (g := (gName 4)) (tt := tYes) (te := (tTup (tCons (tVar 4) (tCons (tOp (rIxT K) (tCall (spGS K) [] E0 (tCons (tDGet (tVar 2) (tVar 4)) tNil)) (tC (.int 0))) tNil)))) rfl sc_least_sets.nd rfl rfl (sw_true rfl rfl rfl (by decide +kernel)) (pi_list (pe_callB cr_sortedI (by rfl) m_sorted (by decide +kernel) (pa_cons (pe_callTy (call_list_dK rfl) (by rfl) m_list (by decide +kernel) (pa_cons (pv 2) pa_nil)) pa_nil))) (blkOk_by (N := ["workings", "turning", "changes", "found", "place", "number"]) (sc := defScope s_least_sets) (by decide +kernel)) (fun _ _ _ _ _ => pg_name (i := 4) sc_least_sets.nd rfl (Or.inl rfl)) (fun _ _ _ _ _ => pts_nil) (fun _ _ _ _ _ => (pe_tup (pa_cons (pv 4) (pa_cons (pe_ix ix_tup (pe_call G__greatest_surplus (hr.mono (by decide)) rfl m__greatest_surplus k__greatest_surplus b__greatest_surplus .nil pass0 (pa_cons (pe_dget (hu1 hr) (pv 2) (pv 4) (fun _ _ => rfl)) pa_nil)) pe_int (fun _ _ => rfl)) pa_nil)))))
 (pss_one (ps_ret (pe_lc (own := [("place", 4), ("number", 5)]) (g := (gTup K 2 (gCons (gName 4) (gCons (gName 5) gNil)))) rfl sc_least_sets.nd (pi_list (pv 3)) (blkOk_by (N := ["workings", "turning", "changes", "found", "place", "number"]) (sc := defScope s_least_sets) (by decide +kernel)) (fun _ _ _ _ _ => (pg_tup rfl (pgs_cons (pg_name (i := 4) sc_least_sets.nd rfl (Or.inl rfl)) (pgs_cons (pg_name (i := 5) sc_least_sets.nd rfl (Or.inl rfl)) pgs_nil)))) (fun _ _ _ _ _ => pts_one (pt_cmpR op_gt (pv 5) pe_int (nomark _))) (fun _ _ _ _ _ => (pe_tup (pa_cons (pv 4) (pa_cons (pv 5) pa_nil)))))))))), ?_⟩
    refine st_checkN hG (ex_var (v := .ref a) rfl) hd hb (fun H2 e2 => ?_)
    refine st_asg (hG.trans e2) (ex_call2 (ex_var (v := .ref a) rfl) (ex_var (v := .int gap) rfl) fun G' e => sa_changes (dpx hd e) hl) fun v3 G3 H3 g3 ⟨d, ed, hk⟩ => ?_
    subst ed
    have ok := chg_ok gap ws
    obtain ⟨ks, hks⟩ : ∃ ks, ks = srtI ((chg gap ws).map (·.1)) := ⟨_, rfl⟩
    have kp : ks.Perm ((chg gap ws).map (·.1)) := hks ▸ srtI_perm _
    have ka : ks.Pairwise (· < ·) := by
      have h1 : ks.Pairwise (· ≤ ·) := hks ▸ srtI_sorted _
      have h2 : ks.Nodup := kp.nodup_iff.mpr ok.nd
      exact (h1.and h2).imp fun ⟨x, y⟩ => by omega
    have kn : ks.length ≤ 400 := by rw [kp.length_eq, List.length_map]; have := ok.len; omega
    have km : ∀ k, k ∈ ks ↔ ∃ v ∈ ws, v.1 = k ∨ v.2.1 = k := fun k => kp.mem_iff.trans (ok.key k)
    dsimp only
    refine st_asg (P := LS K (ks.map fun k => dP (k, topAt gap ws k))) g3.ok ?_ fun v4 G4 H4 g4 p4 => ?_
    · have e1 : (List.range (ks.map V.int).length).map (fun i => dP (ks.getD i 0, topAt gap ws (ks.getD i 0))) = ks.map fun k => dP (k, topAt gap ws k) := by
        apply List.ext_getElem
        · simp
        · intro i h1 h2
          have h3 : i < ks.length := by simpa using h2
          simp [h3]
      rw [← e1]
      refine el_mapX (xs := ks.map V.int) ((ef_sortQ (ns := (chg gap ws).map (·.1)) (el_listD (ex_var (v := .ref d) rfl) hk)).imp fun v G' _ p => by rw [hks]; exact p) (by rw [List.length_map]; omega) (fun x => rfl) fun i x G' e hi => ?_
      rw [List.getElem?_map] at hi
      obtain ⟨k, hik, rfl⟩ := Option.map_eq_some_iff.mp hi
      have hkd : ks.getD i 0 = k := by rw [List.getD_eq_getElem?_getD, hik]; rfl
      rw [hkd]
      have hkm : k ∈ (chg gap ws).map (·.1) := kp.mem_iff.mp (List.mem_of_getElem? hik)
      refine ef_pairI (ex_var rfl) (ed_ixT (q := (· = 0)) (ef_call (ea_one (P := DV K (dPs (evs gap k ws))) ((ef_dget (ex_var (v := .ref d) rfl) (hk.ex e) (ex_var (v := .int k) rfl) (getM_L hkm)).imp fun v G' _ p => by rw [ok.get] at p; exact p)) fun vs G' _ ⟨x, ev, hx⟩ => by rw [ev]; exact sa_gs hx) (EF.iv ex_c) fun i hi => ⟨0, .int (topAt gap ws k), hi, rfl, fun v G' d => by cases d; rfl⟩)
    · obtain ⟨b, xs, rfl, hb1, hx⟩ := p4
      refine st_ret (P := DV K (dPs (setsOf gap ws ks))) g4.ok ((el_posP (js := ks.map fun k => (k, topAt gap ws k)) (ex_var (v := .ref b) rfl) (Evl.sq_of hb1) (by rw [List.map_map]; exact hx) (by rw [List.length_map]; omega) (fun p q => rfl) (fun p q => rfl) (fun p q => rfl)).ls_dv) fun v G' H5 g p => k0 ks ka km v G' H5 ((Gr.same hG e2).trans (g3.trans (g4.trans g))) p
theorem ex_all {σ : L2.St} {G : Hp} {ta : TE} {bs : List Bool} (h : EF ta σ G (DV K (.list (bs.map PyData.bool)))) : EF (tCB (rAll K) (tCons ta tNil)) σ G (XV (.bl (bs.all id))) := fun H e Q k => h H e _ fun v G1 H1 g1 d => by
  obtain ⟨a, xs, rfl, hs, hd⟩ := dp_lst d
  rw [dpa_bls_eq hd] at hs
  exact ⟨a, bs, rfl, Evl.ex_l g1.ok hs, k _ G1 H1 g1 rfl⟩
theorem run_snoc {gap : Int} {ws : List Wk} {l : List T3i} {t : T3i} : runP gap ws (l ++ [t]) = stepQ gap (runP gap ws l) t := by simp [runP]
theorem step_q {gap : Int} {st : Qf × List (Int × Int)} {t : T3i} {k : Int} : ((stepQ gap st t).1 k).length ≤ (st.1 k).length := by
  unfold stepQ
  split
  · rename_i x r h
    split
    · show (popF st.1 t.2.2 r k).length ≤ _
      unfold popF
      split
      · rename_i hk
        rw [hk, h]; simp
      · exact Nat.le_refl _
    · exact Nat.le_refl _
  · exact Nat.le_refl _
theorem run_q {gap : Int} {ws : List Wk} {l : List T3i} {k : Int} : ((runP gap ws l).1 k).length ≤ ws.length := by
  have key : ∀ (l : List T3i) st, ((l.foldl (stepQ gap) st).1 k).length ≤ (st.1 k).length := fun l => by
    induction l with
    | nil => intro st; exact Nat.le_refl _
    | cons t l ih => intro st; exact Nat.le_trans (ih _) step_q
  refine Nat.le_trans (key l (queue0 ws, [])) ?_
  show (queue0 ws k).length ≤ _
  unfold queue0
  rw [List.length_map]
  exact Nat.le_trans (List.length_filter_le _ _) (by rw [arrS_len]; exact Nat.le_refl _)
theorem ok_link (B : Blt mg) (Cc : Cal P w K mg base "_check_workings" 1 ["workings"] (spCheckN K)) (Ca : Cal P w K mg base "_arrivals" 1 ["workings"] (spArr K)) (Cd : Cal P w K mg base "_departures" 1 ["workings"] (spDep K)) (F : Fun K "link" "link" s_link f fd) : FnOk P w K mg base CX0 2 f fd ["workings", "turning"] (spLinkN K) := by
  obtain ⟨f1, fd1, G__check_workings, m__check_workings, k__check_workings, b__check_workings⟩ := Cc
  obtain ⟨f2, fd2, G__arrivals, m__arrivals, k__arrivals, b__arrivals⟩ := Ca
  obtain ⟨f3, fd3, G__departures, m__departures, k__departures, b__departures⟩ := Cd
  have m_sorted := B.sorted
  refine F.ok sc_link (fun vs H Q E h => ?_) (fun cdv A outer s H vs Q E hr h => ?_)
  · obtain ⟨G, a, ws, gap, _, rfl, _⟩ := h
    rfl
  · obtain ⟨G, a, ws, gap, hG, rfl, hd, hl, hb, k0⟩ := h
    refine ⟨_, (pss_cons (ps_expr (pe_call G__check_workings (hr.mono (by decide)) rfl m__check_workings k__check_workings b__check_workings .nil pass0 (pa_cons (pv 0) pa_nil)))
 (pss_cons (ps_set (i := 2) sc_link.nd rfl (by first | exact Or.inl rfl | exact Or.inr rfl) (pe_call G__arrivals (hr.mono (by decide)) rfl m__arrivals k__arrivals b__arrivals .nil pass0 (pa_cons (pv 0) pa_nil)))
 (pss_cons (ps_set (i := 3) sc_link.nd rfl (by first | exact Or.inl rfl | exact Or.inr rfl) (pe_lst pa_nil))
 (pss_cons (ps_for PassesOwn.never rfl (pi_list (pe_call G__departures (hr.mono (by decide)) rfl m__departures k__departures b__departures .nil pass0 (pa_cons (pv 0) pa_nil))) (pg_tup rfl (pgs_cons (pg_name (i := 4) sc_link.nd rfl (by first | exact Or.inl rfl | exact Or.inr rfl)) (pgs_cons (pg_name (i := 5) sc_link.nd rfl (by first | exact Or.inl rfl | exact Or.inr rfl)) (pgs_cons (pg_name (i := 6) sc_link.nd rfl (by first | exact Or.inl rfl | exact Or.inr rfl)) pgs_nil))))
 (pss_cons (ps_set (i := 7) sc_link.nd rfl (by first | exact Or.inl rfl | exact Or.inr rfl) (pe_dget2 (hu1 hr) (pv 2) (pv 6) (pe_lst pa_nil) ⟨by rfl, by rfl, by rfl, by rfl⟩))
 (pss_one (ps_if (PW.pt (pw_and (pt_truth (pv 7) (fun _ => rfl)) (pw_and1 (pt_cmpR op_le (pe_op op_add (pe_ix ix_tup (pe_ix ix_list (pv 7) pe_int (fun _ _ => rfl)) pe_int (fun _ _ => rfl)) (pv 1)) (pv 4) (nomark _)))))
 (pss_cons (ps_asg (pe_bm PySem.F.plainAttrs_list PySem.F.slot_list_pop PySem.F.type_list_pop mt_popAt (pv 7) (pa_cons pe_int pa_nil)) (pg_tup rfl (pgs_cons (pg_name (i := 8) sc_link.nd rfl (by first | exact Or.inl rfl | exact Or.inr rfl)) (pgs_cons (pg_name (i := 9) sc_link.nd rfl (by first | exact Or.inl rfl | exact Or.inr rfl)) pgs_nil))))
 (pss_one (ps_expr (pe_bm PySem.F.plainAttrs_list PySem.F.slot_list_append PySem.F.type_list_append mt_append (pv 3) (pa_cons (pe_tup (pa_cons (pv 9) (pa_cons (pv 5) pa_nil))) pa_nil))))) pss_nil))))
 (pss_one (ps_ret (pe_callB cr_sortPD (by rfl) m_sorted (by decide +kernel) (pa_cons (pv 3) pa_nil)))))))), ?_⟩
    refine st_checkN hG (ex_var (v := .ref a) rfl) hd hb (fun H2 e2 => ?_)
    have hG2 := hG.trans e2
    refine ⟨.ref a, rfl, G, a, ws, hG2, rfl, hd, hl, fun d H3 hdn ⟨G', es, g, gd, hdd, he, nd, dn, em⟩ => ?_⟩
    dsimp only
    refine ⟨by decide, fun q hq => ?_⟩
    have h2q : H2 q = none := none_back g.hp hq
    have gq : G' q = none := none_back g.ok hq
    have aok := arr_ok (arrS ws)
    have nad : ∀ e ∈ es, e.2.1 ≠ q := fun e m z => by have := (he e m).l; rw [z, hq] at this; cases this
    have qd : q ≠ d := fun z => by rw [z, hdd] at hq; cases hq
    have Q0 : QOk K G H2 (upd H3 q (.lst [])) d q (queue0 ws) [] G' es [] := {
      g := g.put h2q gq, gd := gd, hd := by rw [upd_ne qd.symm]; exact hdd, he := fun e m => (he e m).other (nad e m), nd := nd, dn := dn
      kn := by
        have z : es.map (fun e => e.1) = (arrM ws).map (·.1) := by rw [← em, List.map_map]; rfl
        rw [z]; exact aok.nd
      gt := fun k => by rw [em]; exact aok.get k
      gq := gq, hq := upd_same, dq := .nil, qn := fun m => by obtain ⟨e, m1, m2⟩ := List.mem_map.mp m; exact nad e m1 m2, ne := qd }
    refine st_forE (ds := (depS ws).map enc3) Q0.g.ok ((ex_call1 (ex_var (v := .ref a) rfl) fun G'' e => sa_dep (dpx hd (Q0.g.up.trans e)) hl).ls_dv) fun G3 H4 c ys g3 hys hdy => ?_
    have Q1 := Q0.grow g3
    have hqH : H2 q = none := h2q
    refine ⟨fun i σ' H' => QSt K G3 H2 H' d q (runP gap ws ((depS ws).take i)).1 (runP gap ws ((depS ws).take i)).2 ∧ ∃ v4 v5 v6 v7 v8 v9, σ' = [some (.ref a), some (.int gap), some (.ref d), some (.ref q), v4, v5, v6, v7, v8, v9], ?_, fun i σ' H' hw => hw.1.know, fun i y σ' H' hi hw => ?_, fun σ' H' hw => ?_⟩
    · exact ⟨⟨G3, es, [], { Q1 with g := ⟨Ex.refl _, g3.ok, Q1.g.hp, fun _ _ h => h⟩ }⟩, _, _, _, _, _, _, rfl⟩
    · obtain ⟨hQ, v4, v5, v6, v7, v8, v9, rfl⟩ := hw
      obtain ⟨dd, hd1, dy⟩ := dpa_get hdy hi
      rw [List.getElem?_map] at hd1
      obtain ⟨t, ht, rfl⟩ := Option.map_eq_some_iff.mp hd1
      obtain ⟨b, rfl, hb3⟩ := dp_3 dy
      have tk : (depS ws).take (i + 1) = (depS ws).take i ++ [t] := by rw [List.take_succ, ht, Option.toList_some]
      have ll : (runP gap ws ((depS ws).take i)).2.length ≤ 200 := by have := @run_len gap ws ((depS ws).take i); rw [List.length_take, depS_len] at this; omega
      have nx : runP gap ws ((depS ws).take (i + 1)) = stepQ gap (runP gap ws ((depS ws).take i)) t := by rw [tk, run_snoc]
      have qlen := fun k => @run_q gap ws ((depS ws).take i) k
      generalize runP gap ws ((depS ws).take i) = st at hQ ll nx qlen
      refine g_three (Evl.ex_t hQ.know hb3) ?_
      refine st_qget (o := t.2.2) hdn hQ rfl (fun G' _ => ex_var rfl) fun l vs Gl Hl u1 o1 gl hl' hdv hQ2 hpop => ?_
      dsimp only
      have eK : Ex (upd Gl l (.lst vs)) Hl := ex_know o1 hl'
      cases hf : st.1 t.2.2 with
      | nil =>
        rw [hf] at hdv
        cases hdv
        refine st_if0 eK (et_and (p := (· = false)) (q := fun _ => True) (s := (· = false)) (et_truL (ex_var (v := .ref l) rfl) (Evl.sq_of upd_same)) (fun z => nomatch z) (fun z => nomatch z) fun _ => rfl) fun H5 e5 => ⟨?_, _, _, _, _, _, _, rfl⟩
        rw [nx, show stepQ gap st t = st by unfold stepQ; rw [hf]]
        exact hQ2.ex e5
      | cons x r =>
        rw [hf] at hdv
        obtain ⟨x1, vt, rfl, dx1, dvt⟩ : ∃ x1 vt, vs = x1 :: vt ∧ Dp K Gl x1 (dP x) ∧ DpAll K Gl vt (r.map dP) := by
          cases hdv with
          | cons a b => exact ⟨_, _, rfl, a, b⟩
        obtain ⟨bx, rfl, hbx⟩ := dp_P dx1
        have vl : vt.length < 1000 := by
          have h1 := dpa_len dvt
          rw [List.length_map] at h1
          have := qlen t.2.2
          rw [hf, List.length_cons] at this
          omega
        refine st_if (p := (· = decide (x.1 + gap ≤ t.1))) eK (et_and (p := (· = true)) (q := (· = decide (x.1 + gap ≤ t.1))) (et_truL (ex_var (v := .ref l) rfl) (Evl.sq_of upd_same)) (fun _ => et_leI (ex_add (ex_ixT (i := 0) (ex_ixL (i := 0) (ex_var (v := .ref l) rfl) ex_c rfl (Evl.sq_of upd_same) rfl) ex_c (Evl.ex_t (ex_in gl) hbx) rfl) (ex_var rfl)) (ex_var rfl)) (fun _ b hb => hb) fun z => nomatch z) (fun h H5 e5 => ?_) (fun h H5 e5 => ?_)
        · have hle := of_decide_eq_true h.symm
          refine st_pop0 (b := bx) (u := .int x.1) (v := .int x.2) (e5 _ _ hl') vl rfl (o1.trans e5) gl hbx ?_
          dsimp only
          refine st_qapp (p := (x.2, t.2.1)) hqH (hpop x r H5 hf e5) (by omega) rfl (fun G' _ => ef_pairI (ex_var rfl) (ex_var rfl)) fun H6 hQ3 => ⟨?_, _, _, _, _, _, _, rfl⟩
          rw [nx, show stepQ gap st t = (popF st.1 t.2.2 r, st.2 ++ [(x.2, t.2.1)]) by unfold stepQ; rw [hf]; exact if_pos hle]
          exact hQ3
        · have hle := of_decide_eq_false h.symm
          refine ⟨?_, _, _, _, _, _, _, rfl⟩
          rw [nx, show stepQ gap st t = st by unfold stepQ; rw [hf]; exact if_neg hle]
          exact hQ2.ex e5
    · obtain ⟨hQ, v4, v5, v6, v7, v8, v9, rfl⟩ := hw
      rw [List.take_of_length_le (by have := dpa_len hdy; rw [List.length_map] at this; omega)] at hQ
      obtain ⟨G5, es5, vs5, q5⟩ := hQ
      have gF : Gr G G5 H2 H' := Q1.g.chain q5.g
      refine st_ret (P := DV K (dPs (srtP (linksP gap ws)))) (ex_know gF.ok q5.hq) ((ed_srtPQ (js := linksP gap ws) (EF.dv (ex_var (v := .ref q) rfl) (dp_mkL upd_same (dpax q5.dq (ex_in q5.gq))))).ls_dv) fun v G6 H6 g6 p6 => k0 v G6 H6 ((Gr.same hG e2).trans ((gF.know hG2 hqH q5.hq).trans g6)) p6
open PyProof.Rows in
theorem metN_le {ns : List Int} : metN ns ≤ ns.length := firstMet_length_le _ _
theorem ok_isl (B : Blt mg) (m_set : mg "set" = none) (m_all : mg "all" = none) (Cc : Cal P w K mg base "_check_workings" 1 ["workings"] (spCheckN K)) (Cm : Cal P w K mg base "_may_link" 1 ["workings", "first", "second", "turning"] (spMay K)) (F : Fun K "is_linking" "is_linking" s_is_linking f fd) : FnOk P w K mg base CX0 2 f fd ["workings", "links", "turning"] (spIsLN K) := by
  obtain ⟨f1, fd1, G__check_workings, m__check_workings, k__check_workings, b__check_workings⟩ := Cc
  obtain ⟨f2, fd2, G__may_link, m__may_link, k__may_link, b__may_link⟩ := Cm
  have m_len := B.len
  refine F.ok sc_is_linking (fun vs H Q E h => ?_) (fun cdv A outer s H vs Q E hr h => ?_)
  · obtain ⟨G, a, b, ws, ls, gap, _, rfl, _⟩ := h
    rfl
  · obtain ⟨G, a, b, ws, ls, gap, hG, rfl, hd, dl, hl, hll, hb, k0⟩ := h
    refine ⟨_, (pss_cons (ps_expr (pe_call G__check_workings (hr.mono (by decide)) rfl m__check_workings k__check_workings b__check_workings .nil pass0 (pa_cons (pv 0) pa_nil)))
 (pss_cons (ps_setLc (i := 3) (own := [("first", 5), ("_", 6)]) (g := (gTup K 2 (gCons (gName 5) (gCons (gName 6) gNil)))) (tt := tYes) rfl sc_is_linking.nd rfl rfl (sw_true rfl rfl rfl (by decide +kernel)) (pi_list (pv 1)) (blkOk_by (N := ["workings", "links", "turning", "firsts", "seconds", "first", "_", "second"]) (sc := defScope s_is_linking) (by decide +kernel)) (fun _ _ _ _ _ => (pg_tup rfl (pgs_cons (pg_name (i := 5) sc_is_linking.nd rfl (Or.inl rfl)) (pgs_cons (pg_name (i := 6) sc_is_linking.nd rfl (Or.inl rfl)) pgs_nil)))) (fun _ _ _ _ _ => pts_nil) (fun _ _ _ _ _ => (pv 5)))
 (pss_cons (ps_setLc (i := 4) (own := [("_", 6), ("second", 7)]) (g := (gTup K 2 (gCons (gName 6) (gCons (gName 7) gNil)))) (tt := tYes) rfl sc_is_linking.nd rfl rfl (sw_true rfl rfl rfl (by decide +kernel)) (pi_list (pv 1)) (blkOk_by (N := ["workings", "links", "turning", "firsts", "seconds", "first", "_", "second"]) (sc := defScope s_is_linking) (by decide +kernel)) (fun _ _ _ _ _ => (pg_tup rfl (pgs_cons (pg_name (i := 6) sc_is_linking.nd rfl (Or.inl rfl)) (pgs_cons (pg_name (i := 7) sc_is_linking.nd rfl (Or.inl rfl)) pgs_nil)))) (fun _ _ _ _ _ => pts_nil) (fun _ _ _ _ _ => (pv 7)))
 (pss_cons (ps_if (PW.pt (pw_or (pt_cmpR op_lt (pe_lenSetD (by rfl) m_len (by rfl) m_set (pv 3)) (pe_callB call_len_seq (by rfl) m_len PySem.boot_len (pa_cons (pv 1) pa_nil)) (nomark _)) (pw_or1 (pt_cmpR op_lt (pe_lenSetD (by rfl) m_len (by rfl) m_set (pv 4)) (pe_callB call_len_seq (by rfl) m_len PySem.boot_len (pa_cons (pv 1) pa_nil)) (nomark _)))))
 (pss_one (ps_ret pe_bl)) pss_nil)
 (pss_one (ps_ret (pe_callB (cr_all rfl) (by rfl) m_all (by decide +kernel) (pa_cons (pe_lc (own := [("first", 5), ("second", 7)]) (g := (gTup K 2 (gCons (gName 5) (gCons (gName 7) gNil)))) (tt := tYes) (te := (tCall (spMay K) [] E0 (tCons (tVar 0) (tCons (tVar 5) (tCons (tVar 7) (tCons (tVar 2) tNil)))))) rfl sc_is_linking.nd (pi_list (pv 1)) (blkOk_by (N := ["workings", "links", "turning", "firsts", "seconds", "first", "_", "second"]) (sc := defScope s_is_linking) (by decide +kernel)) (fun _ _ _ _ _ => (pg_tup rfl (pgs_cons (pg_name (i := 5) sc_is_linking.nd rfl (Or.inl rfl)) (pgs_cons (pg_name (i := 7) sc_is_linking.nd rfl (Or.inl rfl)) pgs_nil)))) (fun _ _ _ _ _ => pts_nil) (fun _ _ _ _ _ => (pe_call G__may_link (hr.mono (by decide)) rfl m__may_link k__may_link b__may_link .nil pass0 (pa_cons (pv 0) (pa_cons (pv 5) (pa_cons (pv 7) (pa_cons (pv 2) pa_nil))))))) pa_nil)))))))), ?_⟩
    refine st_checkN hG (ex_var (v := .ref a) rfl) hd hb (fun H2 e2 => ?_)
    have hG2 := hG.trans e2
    obtain ⟨b', xs, e, hs, hx⟩ := dp_lst dl
    cases e
    dsimp only
    refine st_asg (P := LS K (ls.map fun p => .int p.1)) hG2 (el_mapP (js := ls) (ex_var (v := .ref b) rfl) hs hx (by omega) (fun _ _ => rfl) fun p G' _ _ => EF.dv (ex_var rfl) (.int _)) fun v3 G3 H3 g3 ⟨l3, x3', e3, hl3, hx3⟩ => ?_
    subst e3
    dsimp only
    refine st_asg (P := LS K (ls.map fun p => .int p.2)) g3.ok (el_mapP (js := ls) (ex_var (v := .ref b) rfl) (Evl.ex_l g3.up hs) (dpax hx g3.up) (by omega) (fun _ _ => rfl) fun p G' _ _ => EF.dv (ex_var rfl) (.int _)) fun v4 G4 H4 g4 ⟨l4, x4, e4, hl4, hx4⟩ => ?_
    subst e4
    dsimp only
    have gA := g3.trans g4
    have len : ∀ {σ : L2.St} {G' : Hp}, Ex G G' → σ[1]? = some (some (.ref b)) → EF (tCB (Evl.rLenS K) (tCons (tVar 1) tNil)) σ G' (XV (.int (ls.length : Int))) := fun e h => (ex_lenD (ds := ls.map dP) (EF.dv (ex_var h) (dpx dl e))).imp fun v _ _ p => by rw [show v = _ from p, List.length_map]; rfl
    have st : ∀ (sel : Int × Int → Int) {i : Nat} {l : Addr} {ys : List V} {σ : L2.St}, G4 l = some (.lst ys) → DpAll K G4 ys (ls.map fun p => .int (sel p)) → σ[i]? = some (some (.ref l)) → EF (tLenSetD K (tVar i)) σ G4 (XV (.int (metN (ls.map sel) : Nat))) := fun sel i l ys σ h1 h2 h => ex_lenSet (EF.dv (ex_var h) (dp_mkL h1 (by rw [List.map_map]; exact h2))) (by rw [List.length_map]; omega)
    have mle : ∀ sel : Int × Int → Int, ((metN (ls.map sel) : Nat) : Int) < (ls.length : Int) ↔ ¬ (ls.map sel).Nodup := fun sel => by
      rw [← metN_iff, List.length_map]
      have := @metN_le (ls.map sel)
      rw [List.length_map] at this
      omega
    refine st_if (p := (· = decide (((metN (ls.map (·.1)) : Nat) : Int) < (ls.length : Int) ∨ ((metN (ls.map (·.2)) : Nat) : Int) < (ls.length : Int)))) g4.ok (et_orD (et_ltI (st (·.1) (g4.up _ _ hl3) (dpax hx3 g4.up) rfl) (len gA.up rfl)) (et_ltI (st (·.2) hl4 hx4 rfl) (len gA.up rfl))) (fun h H5 e5 => ?_) (fun h H5 e5 => ?_)
    · have h' := of_decide_eq_true h.symm
      rw [mle, mle] at h'
      have hf : fitsB ws gap ls = false := by
        unfold fitsB
        rcases h' with z | z
        · rw [decide_eq_false z]; rfl
        · rw [decide_eq_false z, Bool.and_false]; rfl
      exact st_ret (P := XV (.bl false)) (g4.ok.trans e5) ex_c fun v G' H' g p => k0 v G' H' ((Gr.same hG e2).trans ((gA.then e5).trans g)) (by rw [hf]; exact p)
    · have h' := of_decide_eq_false h.symm
      rw [mle, mle] at h'
      have hf : fitsB ws gap ls = (ls.map fun p => goesB ws gap p.1 p.2).all id := by
        unfold fitsB
        rw [decide_eq_true (Classical.byContradiction fun z => h' (.inl z)), decide_eq_true (Classical.byContradiction fun z => h' (.inr z)), List.all_map]
        rfl
      unfold tNext
      dsimp only
      refine st_ret (P := XV (.bl (fitsB ws gap ls))) (g4.ok.trans e5) ?_ (fun v G' H' g p => ?_)
      rotate_left
      · exact k0 v G' H' ((Gr.same hG e2).trans ((gA.then e5).trans g)) p
      rw [hf]
      refine ex_all ?_
      rw [List.map_map]
      exact EF.ls_dv <| el_mapP (js := ls) (g := fun p => .bool (goesB ws gap p.1 p.2)) (ex_var (v := .ref b) rfl) (Evl.ex_l gA.up hs) (dpax hx gA.up) (by omega) (fun _ _ => rfl) fun p G' e _ => EF.dv (ex_call4 (ex_var (v := .ref a) rfl) (ex_var (v := .int p.1) rfl) (ex_var (v := .int p.2) rfl) (ex_var (v := .int gap) rfl) fun G'' e' => sa_may (dpx hd (gA.up.trans (e.trans e'))) hl) (.bl _)
end
end Kx

set_option Elab.async false
set_option linter.all false
set_option maxRecDepth 100000
set_option maxHeartbeats 8000000
namespace Kx
open PySem L2 Lw
open Evl (Ex)
abbrev s_cell : Stmt := top 15
theorem sc_cell : FnScope ["_law_script", "_law_k"] ["_law_script", "_law_k"] (defScope s_cell) := ⟨rfl, rfl, rfl, by decide +kernel, rfl, by decide +kernel, by decide +kernel⟩
abbrev s_draw : Stmt := top 16
theorem sc_draw : FnScope ["_law_cell_here", "_law_k", "_law_size", "_law_rest", "_law_mixed", "_law_turn"] ["_law_cell_here", "_law_k", "_law_size"] (defScope s_draw) := ⟨rfl, rfl, rfl, by decide +kernel, rfl, by decide +kernel, by decide +kernel⟩
section
variable {P : Program} {w : World} {K : PySem.W.Frag} {mg : Str → Option Value} {base : Heap} {C : Addr} {f : Addr} {fd : FuncData}
theorem ok_cell (B : Blt mg) (F : Fun K "_law_cell" "_law_cell" s_cell f fd) : FnOk P w K mg base CX0 1 f fd ["_law_script", "_law_k"] (Lw.spCell K) := by
  have m_len := B.len
  have m_int := B.int
  refine F.ok sc_cell (fun vs H Q E h => ?_) (fun cdv A outer s H vs Q E hr h => ?_)
  · obtain ⟨G, l, ns, k, _, rfl, _⟩ := h
    rfl
  · obtain ⟨G, l, ns, kk, hG, rfl, hs, hn, h0, h1, k⟩ := h
    refine ⟨_, (pss_cons (ps_if (pt_cmpR op_lt (pv 1) (pe_callB call_len_seq (by rfl) m_len PySem.boot_len (pa_cons (pv 0) pa_nil)) (nomark _))
 (pss_one (ps_ret (pe_ix ix_list (pv 0) (pv 1) (fun _ _ => rfl)))) pss_nil)
 (pss_cons (ps_if (pt_cmpR op_eq (pe_callB call_len_seq (by rfl) m_len PySem.boot_len (pa_cons (pv 0) pa_nil)) pe_int (nomark _))
 (pss_one (ps_ret (pe_op op_mul pe_int (pv 1)))) pss_nil)
 (pss_one (ps_ret (pe_op op_add (pe_ix ix_list (pv 0) (pe_op op_mod (pe_callTy call_int1 (by rfl) m_int (by decide +kernel) (pa_cons (pv 1) pa_nil)) (pe_callB call_len_seq (by rfl) m_len PySem.boot_len (pa_cons (pv 0) pa_nil))) (fun _ _ => rfl)) (pe_op op_mul pe_int (pv 1))))))), ?_⟩
    have lenv : ∀ {H' : Hp}, Ex G H' → EF (tCB (Evl.rLenS K) (tCons (tVar 0) tNil)) [some (.ref l), some (.int kk)] H' (XV (.int (ns.length : Int))) := fun {H'} e => (ex_lenL (ex_var (v := .ref l) rfl) (Evl.ex_l e hs)).imp fun y _ _ p => by rw [show y = _ from p, List.length_map]; rfl
    refine st_if (p := (· = decide (kk < (ns.length : Int)))) hG (et_test (ec_int (f := fun i j => decide (i < j)) (EF.iv (ex_var rfl)) (EF.iv (lenv (Ex.refl G))) fun a b ha hb => by rw [ha, hb])) (fun h H' e => ?_) (fun h H' e => ?_)
    · have hlt := of_decide_eq_true h.symm
      obtain ⟨j, rfl⟩ : ∃ j : Nat, kk = (j : Int) := ⟨kk.toNat, by omega⟩
      have hj : j < ns.length := by omega
      exact st_ret (P := XV (.int ns[j])) (hG.trans e) (ex_ixL (ex_var rfl) (ex_var rfl) rfl hs (by rw [List.getElem?_map, List.getElem?_eq_getElem hj]; rfl)) (fun v G' H2 g p => k v G' H2 ((Gr.same hG e).trans g) ⟨_, p, trivial⟩)
    refine st_if (p := (· = decide ((ns.length : Int) = 0))) (hG.trans e) (et_test (ei_eq (EF.iv (lenv (Ex.refl G))) (EF.iv ex_c) fun a b ha hb => by rw [ha, hb])) (fun h2 H2 e2 => ?_) (fun h2 H2 e2 => ?_)
    · exact st_ret (P := IV fun _ => True) (hG.trans (e.trans e2)) (ei_mul (p := (· = 7919)) (q := fun _ => True) (EF.iv ex_c) (EF.ivp (ex_var rfl) trivial) (fun a ha => by omega) fun _ _ _ _ => trivial) (fun v G' H3 g p => k v G' H3 ((Gr.same hG (e.trans e2)).trans g) p)
    · have hne := of_decide_eq_false h2.symm
      refine st_ret (P := IV fun _ => True) (hG.trans (e.trans e2)) (ei_add (p := fun _ => True) (q := fun _ => True) (ed_ixL (ds := ns.map PyData.int) (q := fun z => 0 ≤ z ∧ z < (ns.length : Int)) (EF.dv (ex_var (v := .ref l) rfl) (.lst hs (dpa_ints ns))) (ei_mod (n := (ns.length : Int)) (ei_int (EF.iv (ex_var rfl))) (EF.iv (lenv (Ex.refl G))) (by omega) fun a _ => ⟨Int.emod_nonneg _ (by omega), Int.emod_lt_of_pos _ (by omega)⟩) fun i hi => ?_) (ei_mul (p := (· = 7919)) (q := fun _ => True) (EF.iv ex_c) (EF.ivp (ex_var rfl) trivial) (fun a ha => by omega) fun _ _ _ _ => trivial) fun _ _ _ _ => trivial) (fun v G' H3 g p => k v G' H3 ((Gr.same hG (e.trans e2)).trans g) p)
      have hj : i.toNat < ns.length := by omega
      exact ⟨i.toNat, .int ns[i.toNat], by omega, by rw [List.getElem?_map, List.getElem?_eq_getElem hj]; rfl, fun v G' d => by cases d; exact ⟨_, rfl, trivial⟩⟩
theorem ok_draw (B : Blt mg) (F : Fun K "_law_draw" "_law_draw" s_draw f fd) : FnOk P w K mg base CX0 1 f fd ["_law_cell_here", "_law_k", "_law_size"] spDraw := by
  have m_abs := B.abs
  have m_int := B.int
  have m_range := B.range
  refine F.ok sc_draw (fun vs H Q E h => ?_) (fun cdv A outer s H vs Q E hr h => ?_)
  · obtain ⟨G, c, k, n, _, rfl, _⟩ := h
    rfl
  · obtain ⟨G, c, kk, n, hG, rfl, h0, h1, h2, h3, k⟩ := h
    refine ⟨_, (pss_cons (ps_set (i := 3) sc_draw.nd rfl (by first | exact Or.inl rfl | exact Or.inr rfl) (pe_callB call_abs (by rfl) m_abs (by decide +kernel) (pa_cons (pv 0) pa_nil)))
 (Evl.pss_cut (ps_if (pt_cmpR op_ge (pv 3) pe_int (nomark _))
 (pss_cons (ps_for PassesOwn.never rfl (pi_range1 rfl m_range (pa_cons (pv 1) pa_nil)) (pg_name (i := 5) sc_draw.nd rfl (by first | exact Or.inl rfl | exact Or.inr rfl))
 (pss_one (ps_set (i := 3) sc_draw.nd rfl (by first | exact Or.inl rfl | exact Or.inr rfl) (pe_op op_fdiv (pv 3) pe_int))))
 (pss_one (ps_if (pt_cmpR op_gt (pv 3) pe_int (nomark _))
 (pss_one (ps_ret (pe_op op_mod (pe_callTy call_int1 (by rfl) m_int (by decide +kernel) (pa_cons (pe_op op_mod (pe_callTy call_int1 (by rfl) m_int (by decide +kernel) (pa_cons (pv 3) pa_nil)) pe_int) pa_nil)) (pv 2)))) pss_nil))) pss_nil)
 (pss_cons (ps_set (i := 4) sc_draw.nd rfl (by first | exact Or.inl rfl | exact Or.inr rfl) (pe_op op_mod (pe_callTy call_int1 (by rfl) m_int (by decide +kernel) (pa_cons (pe_op op_add (pe_op op_add (pe_callB call_abs (by rfl) m_abs (by decide +kernel) (pa_cons (pv 0) pa_nil)) (pe_op op_mul pe_int (pv 1))) pe_int) pa_nil)) pe_int))
 (pss_cons (ps_set (i := 4) sc_draw.nd rfl (by first | exact Or.inl rfl | exact Or.inr rfl) (pe_op op_mod (pe_callTy call_int1 (by rfl) m_int (by decide +kernel) (pa_cons (pe_op op_mul (pv 4) (pe_op op_add (pv 4) pe_int)) pa_nil)) pe_int))
 (pss_cons (ps_set (i := 4) sc_draw.nd rfl (by first | exact Or.inl rfl | exact Or.inr rfl) (pe_op op_mod (pe_callTy call_int1 (by rfl) m_int (by decide +kernel) (pa_cons (pe_op op_add (pe_op op_mul (pv 4) (pe_op op_add (pv 4) pe_int)) (pe_op op_mul pe_int (pv 1))) pa_nil)) pe_int))
 (pss_one (ps_ret (pe_op op_mod (pe_callTy call_int1 (by rfl) m_int (by decide +kernel) (pa_cons (pe_op op_fdiv (pv 4) pe_int) pa_nil)) (pv 2))))))))), ?_⟩
    have fin : ∀ {G' H' : Hp} {σ : L2.St} {te : TE} {i : Nat}, Ex H H' → EF te σ G' (IV fun _ => True) → Ex G' H' → σ[i]? = some (some (.int n)) → EF (tOp (rI (fun _ j => 0 < j) fun i j => .int (i % j)) (tCB rIntI (tCons te tNil)) (tVar i)) σ G' (IV fun z => 0 ≤ z ∧ z < n) := fun e hv _ hi =>
      ei_mod (n := n) (ei_int hv) (EF.iv (ex_var hi)) (by omega) fun a _ => ⟨Int.emod_nonneg _ (by omega), Int.emod_lt_of_pos _ (by omega)⟩
    refine st_asg (P := IV fun _ => True) hG (ei_abs (EF.iv (ex_var (v := .int c) rfl))) fun v1 G1 H1 g1 ⟨r1, e1, _⟩ => ?_
    subst e1
    refine ⟨fun σ' H' => Ex H H' ∧ ∃ r v5, σ' = [some (.int c), some (.int kk), some (.int n), some (.int r), none, v5], ?_, ?_⟩
    · refine st_if (p := fun _ => True) (Ex.refl H1) (et_test (ec_int (p := fun _ => True) (q := fun _ => True) (f := fun i j => decide (j ≤ i)) (EF.ivp (ex_var rfl) trivial) (EF.ivp ex_c trivial) fun _ _ _ _ => trivial)) (fun _ H2 e2 => ?_) (fun _ H2 e2 => ⟨g1.hp.trans e2, _, _, rfl⟩)
      refine st_forR1 (n := kk) (Ex.refl H2) ((ea_one (ex_var (v := .int kk) rfl)).imp fun vs G' _ ⟨x, ev, hx⟩ => by rw [ev, show x = _ from hx]) (by omega) (by omega) (fun i σ' H' => Ex H H' ∧ ∃ r v5, σ' = [some (.int c), some (.int kk), some (.int n), some (.int r), none, v5]) (fun H' e => ⟨g1.hp.trans (e2.trans e), _, _, rfl⟩) (fun i σ' H' hi hw => ?_) (fun σ' H' hw => ?_)
      · obtain ⟨e, r, v5, rfl⟩ := hw
        refine st_asg (P := IV fun _ => True) (Ex.refl H') (ei_div (n := 64) (EF.iv (ex_var (v := .int r) rfl)) (EF.iv ex_c) (by omega) (by omega) fun _ _ => trivial) fun v2 G2 H2 g2 ⟨r2, er, _⟩ => ?_
        subst er
        exact ⟨e.trans g2.hp, _, _, rfl⟩
      · obtain ⟨e, r, v5, rfl⟩ := hw
        refine st_if (p := fun _ => True) (Ex.refl H') (et_test (ec_int (p := fun _ => True) (q := fun _ => True) (f := fun i j => decide (j < i)) (EF.ivp (ex_var (v := .int r) rfl) trivial) (EF.ivp ex_c trivial) fun _ _ _ _ => trivial)) (fun _ H3 e3 => ?_) (fun _ H3 e3 => ⟨e.trans e3, _, _, rfl⟩)
        exact st_ret (P := IV fun z => 0 ≤ z ∧ z < n) (hG.trans (e.trans e3)) (fin (e.trans e3) (ei_mod (n := 64) (s := fun _ => True) (ei_int (EF.iv (ex_var (v := .int r) rfl))) (EF.iv ex_c) (by omega) fun _ _ => trivial) (hG.trans (e.trans e3)) rfl) fun v G' H4 g p => k v G' H4 ((Gr.same hG (e.trans e3)).trans g) p
    · rintro σ1 H2 ⟨e2, r, v5, rfl⟩
      have big : ∀ (m : Int), 0 < m → m ≤ 2147483647 → ∀ a, (fun z : Int => 0 ≤ z ∧ z < 2147483647) (a % m) := fun m hm hm2 a => ⟨Int.emod_nonneg _ (by omega), by have := Int.emod_lt_of_pos a hm; omega⟩
      refine st_asg (P := IV fun z => 0 ≤ z ∧ z < 2147483647) (Ex.refl H2) (ei_mod (n := 2147483647) (ei_int (p := fun _ => True) (ei_add (p := fun _ => True) (q := fun _ => True) (ei_add (p := fun _ => True) (q := fun _ => True) (ei_abs (EF.iv (ex_var (v := .int c) rfl))) (ei_mul (p := (· = 7919)) (q := fun _ => True) (EF.iv ex_c) (EF.ivp (ex_var (v := .int kk) rfl) trivial) (fun a ha => by omega) fun _ _ _ _ => trivial) fun _ _ _ _ => trivial) (EF.ivp ex_c trivial) fun _ _ _ _ => trivial)) (EF.iv ex_c) (by omega) fun a _ => big _ (by omega) (by omega) a) fun v1 G3 H3 g3 ⟨m1, em1, hm1⟩ => ?_
      subst em1
      refine st_asg (P := IV fun z => 0 ≤ z ∧ z < 2147483647) (Ex.refl H3) (ei_mod (n := 2147483629) (ei_int (p := fun _ => True) (ei_mul (p := fun z => 0 ≤ z ∧ z < 2147483647) (q := fun _ => True) (EF.ivp (ex_var (v := .int m1) rfl) hm1) (ei_add (p := fun _ => True) (q := fun _ => True) (EF.ivp (ex_var (v := .int m1) rfl) trivial) (EF.ivp ex_c trivial) fun _ _ _ _ => trivial) (fun a ha => by omega) fun _ _ _ _ => trivial)) (EF.iv ex_c) (by omega) fun a _ => big _ (by omega) (by omega) a) fun v1 G4 H4 g4 ⟨m2, em2, hm2⟩ => ?_
      subst em2
      refine st_asg (P := IV fun z => 0 ≤ z ∧ z < 2147483647) (Ex.refl H4) (ei_mod (n := 2147483647) (ei_int (p := fun _ => True) (ei_add (p := fun _ => True) (q := fun _ => True) (ei_mul (p := fun z => 0 ≤ z ∧ z < 2147483647) (q := fun _ => True) (EF.ivp (ex_var (v := .int m2) rfl) hm2) (ei_add (p := fun _ => True) (q := fun _ => True) (EF.ivp (ex_var (v := .int m2) rfl) trivial) (EF.ivp ex_c trivial) fun _ _ _ _ => trivial) (fun a ha => by omega) fun _ _ _ _ => trivial) (ei_mul (p := (· = 31)) (q := fun _ => True) (EF.iv ex_c) (EF.ivp (ex_var (v := .int kk) rfl) trivial) (fun a ha => by omega) fun _ _ _ _ => trivial) fun _ _ _ _ => trivial)) (EF.iv ex_c) (by omega) fun a _ => big _ (by omega) (by omega) a) fun v1 G5 H5 g5 ⟨m3, em3, hm3⟩ => ?_
      subst em3
      have eH : Ex H H5 := e2.trans (g3.hp.trans (g4.hp.trans g5.hp))
      exact st_ret (P := IV fun z => 0 ≤ z ∧ z < n) (hG.trans eH) (fin eH (ei_div (n := 9) (s := fun _ => True) (EF.iv (ex_var (v := .int m3) rfl)) (EF.iv ex_c) (by omega) (by omega) fun _ _ => trivial) (hG.trans eH) rfl) fun v G' H6 g p => k v G' H6 ((Gr.same hG eH).trans g) p
end
end Kx

set_option Elab.async false
set_option linter.all false
set_option maxRecDepth 100000
set_option maxHeartbeats 8000000
namespace Kx
open PySem L2 Lw
open Evl (Ex)
abbrev s_same : Stmt := top 17
theorem sc_same : FnScope ["_law_actual", "_law_wanted", "_law_k"] ["_law_actual", "_law_wanted"] (defScope s_same) := ⟨rfl, rfl, rfl, by decide +kernel, rfl, by decide +kernel, by decide +kernel⟩
section
variable {P : Program} {w : World} {K : PySem.W.Frag} {mg : Str → Option Value} {base : Heap} {C : Addr} {f : Addr} {fd : FuncData}
theorem ok_same0 (B : Blt mg) (F : Fun K "_law_same" "_law_same" s_same f fd) : FnOk P w K mg base CX0 1 f fd ["_law_actual", "_law_wanted"] (spSameB K 0) := by
  have m_len := B.len
  have m_range := B.range
  have m_isinstance := B.isinstance
  have m_int := B.int
  have m_str := B.str
  have m_bool := B.bool
  have m_list := B.list
  have m_tuple := B.tuple
  refine F.ok sc_same (fun vs H Q E h => ?_) (fun cdv A outer s H vs Q E hr h => ?_)
  · obtain ⟨G, x, y, d, _, rfl, _⟩ := h
    rfl
  · obtain ⟨G, x, y, d, hG, rfl, dx, dy, ok, k⟩ := h
    refine ⟨_, (pss_cons (ps_if (pt_cmpR op_isN (pv 1) pe_non (nomark _))
 (pss_one (ps_ret (pe_cmpR op_isN (pv 0) pe_non (nomark _)))) pss_nil)
 (pss_cons (ps_if (pt_cmpR (op_isC (c := true)) (pv 1) pe_bl (nomark _))
 (pss_one (ps_ret (pe_cmpR (op_isC (c := true)) (pv 0) pe_bl (nomark _)))) pss_nil)
 (pss_cons (ps_if (pt_cmpR (op_isC (c := false)) (pv 1) pe_bl (nomark _))
 (pss_one (ps_ret (pe_cmpR (op_isC (c := false)) (pv 0) pe_bl (nomark _)))) pss_nil)
 (pss_cons (ps_if (pt_val (pe_callB call_isi (by rfl) m_isinstance (by decide +kernel) (pa_cons (pv 1) (pa_cons (pe_bltn (v := .ty "int") (u := .type "int") rfl m_int (by decide +kernel) rfl) pa_nil))))
 (pss_one (ps_ret (pe_and (pe_callB call_isi (by rfl) m_isinstance (by decide +kernel) (pa_cons (pv 0) (pa_cons (pe_bltn (v := .ty "int") (u := .type "int") rfl m_int (by decide +kernel) rfl) pa_nil))) (pe_and (pe_not (pe_callB call_isi (by rfl) m_isinstance (by decide +kernel) (pa_cons (pv 0) (pa_cons (pe_bltn (v := .ty "bool") (u := .type "bool") rfl m_bool (by decide +kernel) rfl) pa_nil)))) (pe_one (pe_cmpR op_eq (pv 0) (pv 1) (nomark _))))))) pss_nil)
 (pss_cons (ps_if (pt_val (pe_callB call_isi (by rfl) m_isinstance (by decide +kernel) (pa_cons (pv 1) (pa_cons (pe_bltn (v := .ty "str") (u := .type "str") rfl m_str (by decide +kernel) rfl) pa_nil))))
 (pss_one (ps_ret (pe_and (pe_callB call_isi (by rfl) m_isinstance (by decide +kernel) (pa_cons (pv 0) (pa_cons (pe_bltn (v := .ty "str") (u := .type "str") rfl m_str (by decide +kernel) rfl) pa_nil))) (pe_one (pe_cmpR op_eq (pv 0) (pv 1) (nomark _)))))) pss_nil)
 (pss_cons (ps_if (PW.pt (pw_and (pt_val (pe_callB call_isi (by rfl) m_isinstance (by decide +kernel) (pa_cons (pv 1) (pa_cons (pe_bltn (v := .ty "list") (u := .type "list") rfl m_list (by decide +kernel) rfl) pa_nil)))) (pw_and1 (pt_not (pt_val (pe_callB call_isi (by rfl) m_isinstance (by decide +kernel) (pa_cons (pv 0) (pa_cons (pe_bltn (v := .ty "list") (u := .type "list") rfl m_list (by decide +kernel) rfl) pa_nil))))))))
 (pss_one (ps_ret pe_bl)) pss_nil)
 (pss_cons (ps_if (PW.pt (pw_and (pt_val (pe_callB call_isi (by rfl) m_isinstance (by decide +kernel) (pa_cons (pv 1) (pa_cons (pe_bltn (v := .ty "tuple") (u := .type "tuple") rfl m_tuple (by decide +kernel) rfl) pa_nil)))) (pw_and1 (pt_not (pt_val (pe_callB call_isi (by rfl) m_isinstance (by decide +kernel) (pa_cons (pv 0) (pa_cons (pe_bltn (v := .ty "tuple") (u := .type "tuple") rfl m_tuple (by decide +kernel) rfl) pa_nil))))))))
 (pss_one (ps_ret pe_bl)) pss_nil)
 (pss_cons (ps_if (pt_cmpR op_ne (pe_callB call_len_seq (by rfl) m_len PySem.boot_len (pa_cons (pv 0) pa_nil)) (pe_callB call_len_seq (by rfl) m_len PySem.boot_len (pa_cons (pv 1) pa_nil)) (nomark _))
 (pss_one (ps_ret pe_bl)) pss_nil)
 (pss_cons ps_never
 (pss_one (ps_ret pe_bl))))))))))), ?_⟩
    rcases okb_cases ok with rfl | ⟨bb, rfl⟩ | ⟨ki, hki⟩
    · cases dx
      cases dy
      refine st_if (p := (· = true)) hG (et_test (EF.bl (ex_isN (ex_var (v := .non) rfl) ex_c) (by simp))) (fun _ H1 e1 => ?_) (fun h => nomatch h)
      exact st_ret (P := XV (.bl true)) (hG.trans e1) ((ex_isN (ex_var (v := .non) rfl) ex_c).imp fun v _ _ h => (show v = _ from h).trans (by simp)) fun v G' H2 g p => k v G' H2 ((Gr.same hG e1).trans g) p
    · cases dx
      cases dy
      refine st_if0 hG (et_test (EF.bl (ex_isN (ex_var (v := .bl bb) rfl) ex_c) (by simp))) fun H1 e1 => ?_
      cases bb with
      | true =>
        refine st_if (p := (· = true)) (hG.trans e1) (et_test (EF.bl (ex_isC (c := true) (ex_var (v := .bl true) rfl) ex_c) (by simp))) (fun _ H2 e2 => ?_) (fun h => nomatch h)
        exact st_ret (P := XV (.bl true)) (hG.trans (e1.trans e2)) ((ex_isC (c := true) (ex_var (v := .bl true) rfl) ex_c).imp fun v _ _ h => (show v = _ from h).trans (by simp)) fun v G' H3 g p => k v G' H3 ((Gr.same hG (e1.trans e2)).trans g) p
      | false =>
        refine st_if0 (hG.trans e1) (et_test (EF.bl (ex_isC (c := true) (ex_var (v := .bl false) rfl) ex_c) (by simp))) fun H2 e2 => ?_
        refine st_if (p := (· = true)) (hG.trans (e1.trans e2)) (et_test (EF.bl (ex_isC (c := false) (ex_var (v := .bl false) rfl) ex_c) (by simp))) (fun _ H3 e3 => ?_) (fun h => nomatch h)
        exact st_ret (P := XV (.bl true)) (hG.trans (e1.trans (e2.trans e3))) ((ex_isC (c := false) (ex_var (v := .bl false) rfl) ex_c).imp fun v _ _ h => (show v = _ from h).trans (by simp)) fun v G' H4 g p => k v G' H4 ((Gr.same hG (e1.trans (e2.trans e3))).trans g) p
    have ny := dp_not dy hki
    refine st_if0 hG (et_test (EF.bl (ex_isN (ex_var (v := y) rfl) ex_c) (decide_eq_false ny.1))) fun H1 e1 => ?_
    refine st_if0 (hG.trans e1) (et_test (EF.bl (ex_isC (c := true) (ex_var (v := y) rfl) ex_c) (decide_eq_false (ny.2 true)))) fun H2 e2 => ?_
    refine st_if0 (hG.trans (e1.trans e2)) (et_test (EF.bl (ex_isC (c := false) (ex_var (v := y) rfl) ex_c) (decide_eq_false (ny.2 false)))) fun H3 e3 => ?_
    have hG3 : Ex G H3 := hG.trans (e1.trans (e2.trans e3))
    have eH3 : Ex H H3 := e1.trans (e2.trans e3)
    cases d with
    | int z =>
      cases dx
      cases dy
      refine st_if (p := (· = true)) hG3 (et_B (EF.bl (ex_isi (d := .int z) (k := .i) (r := true) (ex_var (v := .int z) rfl) ex_c (.int z) rfl (by decide +kernel)) rfl)) (fun _ H4 e4 => ?_) (fun h => nomatch h)
      refine st_ret (P := BV (· = true)) (hG3.trans e4) (eb_and (p := (· = true)) (q := (· = true)) (EF.bl (ex_isi (d := .int z) (k := .i) (r := true) (ex_var (v := .int z) rfl) ex_c (.int z) rfl (by decide +kernel)) rfl) (fun _ => eb_and (p := (· = true)) (q := (· = true)) (eb_not (EF.bl (ex_isi (d := .int z) (k := .i) (r := false) (ex_var (v := .int z) rfl) ex_c (.int z) rfl (by decide +kernel)) rfl)) (fun _ => ei_eq (EF.iv (ex_var (v := .int z) rfl)) (EF.iv (ex_var (v := .int z) rfl)) fun a b ha hb => by rw [ha, hb]; simp) (fun _ b hb => hb) (fun h => nomatch h)) (fun _ b hb => hb) (fun h => nomatch h)) (fun v G' H5 g p => k v G' H5 ((Gr.same hG (eH3.trans e4)).trans g) (by obtain ⟨b, eb, hb⟩ := p; rw [eb, hb]; rfl))
    | str z =>
      cases dx
      cases dy
      refine st_if0 hG3 (et_B (EF.bl (ex_isi (d := .str z) (k := .s) (r := false) (ex_var (v := .str z) rfl) ex_c (.str z) rfl (by decide +kernel)) rfl)) fun H4 e4 => ?_
      refine st_if (p := (· = true)) (hG3.trans e4) (et_B (EF.bl (ex_isi (d := .str z) (k := .s) (r := true) (ex_var (v := .str z) rfl) ex_c (.str z) rfl (by decide +kernel)) rfl)) (fun _ H5 e5 => ?_) (fun h => nomatch h)
      refine st_ret (P := BV (· = true)) (hG3.trans (e4.trans e5)) (eb_and (p := (· = true)) (q := (· = true)) (EF.bl (ex_isi (d := .str z) (k := .s) (r := true) (ex_var (v := .str z) rfl) ex_c (.str z) rfl (by decide +kernel)) rfl) (fun _ => ex_eq (ex_var (v := .str z) rfl) (ex_var (v := .str z) rfl) rfl (by simp)) (fun _ b hb => hb) (fun h => nomatch h)) (fun v G' H5 g p => k v G' H5 ((Gr.same hG (eH3.trans (e4.trans e5))).trans g) (by obtain ⟨b, eb, hb⟩ := p; rw [eb, hb]; rfl))
    | list ds => exact ok.elim
    | tuple ds => exact ok.elim
    | none => cases hki
    | bool b => cases hki
    | dict ds => cases hki
theorem ok_sameS (B : Blt mg) (F : Fun K "_law_same" "_law_same" s_same f fd) {n : Nat} (Cs : Cal P w K mg base "_law_same" (n + 1) ["_law_actual", "_law_wanted"] (spSameB K n)) : FnOk P w K mg base CX0 (n + 2) f fd ["_law_actual", "_law_wanted"] (spSameB K (n + 1)) := by
  obtain ⟨f1, fd1, G_same, m_same, k_same, b_same⟩ := Cs
  have m_len := B.len
  have m_range := B.range
  have m_isinstance := B.isinstance
  have m_int := B.int
  have m_str := B.str
  have m_bool := B.bool
  have m_list := B.list
  have m_tuple := B.tuple
  refine F.ok sc_same (fun vs H Q E h => ?_) (fun cdv A outer s H vs Q E hr h => ?_)
  · obtain ⟨G, x, y, d, _, rfl, _⟩ := h
    rfl
  · obtain ⟨G, x, y, d, hG, rfl, dx, dy, ok, k⟩ := h
    refine ⟨_, (pss_cons (ps_if (pt_cmpR op_isN (pv 1) pe_non (nomark _))
 (pss_one (ps_ret (pe_cmpR op_isN (pv 0) pe_non (nomark _)))) pss_nil)
 (pss_cons (ps_if (pt_cmpR (op_isC (c := true)) (pv 1) pe_bl (nomark _))
 (pss_one (ps_ret (pe_cmpR (op_isC (c := true)) (pv 0) pe_bl (nomark _)))) pss_nil)
 (pss_cons (ps_if (pt_cmpR (op_isC (c := false)) (pv 1) pe_bl (nomark _))
 (pss_one (ps_ret (pe_cmpR (op_isC (c := false)) (pv 0) pe_bl (nomark _)))) pss_nil)
 (pss_cons (ps_if (pt_val (pe_callB call_isi (by rfl) m_isinstance (by decide +kernel) (pa_cons (pv 1) (pa_cons (pe_bltn (v := .ty "int") (u := .type "int") rfl m_int (by decide +kernel) rfl) pa_nil))))
 (pss_one (ps_ret (pe_and (pe_callB call_isi (by rfl) m_isinstance (by decide +kernel) (pa_cons (pv 0) (pa_cons (pe_bltn (v := .ty "int") (u := .type "int") rfl m_int (by decide +kernel) rfl) pa_nil))) (pe_and (pe_not (pe_callB call_isi (by rfl) m_isinstance (by decide +kernel) (pa_cons (pv 0) (pa_cons (pe_bltn (v := .ty "bool") (u := .type "bool") rfl m_bool (by decide +kernel) rfl) pa_nil)))) (pe_one (pe_cmpR op_eq (pv 0) (pv 1) (nomark _))))))) pss_nil)
 (pss_cons (ps_if (pt_val (pe_callB call_isi (by rfl) m_isinstance (by decide +kernel) (pa_cons (pv 1) (pa_cons (pe_bltn (v := .ty "str") (u := .type "str") rfl m_str (by decide +kernel) rfl) pa_nil))))
 (pss_one (ps_ret (pe_and (pe_callB call_isi (by rfl) m_isinstance (by decide +kernel) (pa_cons (pv 0) (pa_cons (pe_bltn (v := .ty "str") (u := .type "str") rfl m_str (by decide +kernel) rfl) pa_nil))) (pe_one (pe_cmpR op_eq (pv 0) (pv 1) (nomark _)))))) pss_nil)
 (pss_cons (ps_if (PW.pt (pw_and (pt_val (pe_callB call_isi (by rfl) m_isinstance (by decide +kernel) (pa_cons (pv 1) (pa_cons (pe_bltn (v := .ty "list") (u := .type "list") rfl m_list (by decide +kernel) rfl) pa_nil)))) (pw_and1 (pt_not (pt_val (pe_callB call_isi (by rfl) m_isinstance (by decide +kernel) (pa_cons (pv 0) (pa_cons (pe_bltn (v := .ty "list") (u := .type "list") rfl m_list (by decide +kernel) rfl) pa_nil))))))))
 (pss_one (ps_ret pe_bl)) pss_nil)
 (pss_cons (ps_if (PW.pt (pw_and (pt_val (pe_callB call_isi (by rfl) m_isinstance (by decide +kernel) (pa_cons (pv 1) (pa_cons (pe_bltn (v := .ty "tuple") (u := .type "tuple") rfl m_tuple (by decide +kernel) rfl) pa_nil)))) (pw_and1 (pt_not (pt_val (pe_callB call_isi (by rfl) m_isinstance (by decide +kernel) (pa_cons (pv 0) (pa_cons (pe_bltn (v := .ty "tuple") (u := .type "tuple") rfl m_tuple (by decide +kernel) rfl) pa_nil))))))))
 (pss_one (ps_ret pe_bl)) pss_nil)
 (pss_cons (ps_if (pt_cmpR op_ne (pe_callB call_len_seq (by rfl) m_len PySem.boot_len (pa_cons (pv 0) pa_nil)) (pe_callB call_len_seq (by rfl) m_len PySem.boot_len (pa_cons (pv 1) pa_nil)) (nomark _))
 (pss_one (ps_ret pe_bl)) pss_nil)
 (pss_cons (ps_for PassesOwn.never rfl (pi_range1 rfl m_range (pa_cons (pe_callB call_len_seq (by rfl) m_len PySem.boot_len (pa_cons (pv 1) pa_nil)) pa_nil)) (pg_name (i := 2) sc_same.nd rfl (by first | exact Or.inl rfl | exact Or.inr rfl))
 (pss_one (ps_if (pt_not (pt_val (pe_call G_same (hr.mono (by omega)) rfl m_same k_same b_same .nil pass0 (pa_cons (pe_ix ix_seq (pv 0) (pv 2) (fun _ _ => rfl)) (pa_cons (pe_ix ix_seq (pv 1) (pv 2) (fun _ _ => rfl)) pa_nil)))))
 (pss_one (ps_ret pe_bl)) pss_nil)))
 (pss_one (ps_ret pe_bl))))))))))), ?_⟩
    rcases okb_cases ok with rfl | ⟨bb, rfl⟩ | ⟨ki, hki⟩
    · cases dx
      cases dy
      refine st_if (p := (· = true)) hG (et_test (EF.bl (ex_isN (ex_var (v := .non) rfl) ex_c) (by simp))) (fun _ H1 e1 => ?_) (fun h => nomatch h)
      exact st_ret (P := XV (.bl true)) (hG.trans e1) ((ex_isN (ex_var (v := .non) rfl) ex_c).imp fun v _ _ h => (show v = _ from h).trans (by simp)) fun v G' H2 g p => k v G' H2 ((Gr.same hG e1).trans g) p
    · cases dx
      cases dy
      refine st_if0 hG (et_test (EF.bl (ex_isN (ex_var (v := .bl bb) rfl) ex_c) (by simp))) fun H1 e1 => ?_
      cases bb with
      | true =>
        refine st_if (p := (· = true)) (hG.trans e1) (et_test (EF.bl (ex_isC (c := true) (ex_var (v := .bl true) rfl) ex_c) (by simp))) (fun _ H2 e2 => ?_) (fun h => nomatch h)
        exact st_ret (P := XV (.bl true)) (hG.trans (e1.trans e2)) ((ex_isC (c := true) (ex_var (v := .bl true) rfl) ex_c).imp fun v _ _ h => (show v = _ from h).trans (by simp)) fun v G' H3 g p => k v G' H3 ((Gr.same hG (e1.trans e2)).trans g) p
      | false =>
        refine st_if0 (hG.trans e1) (et_test (EF.bl (ex_isC (c := true) (ex_var (v := .bl false) rfl) ex_c) (by simp))) fun H2 e2 => ?_
        refine st_if (p := (· = true)) (hG.trans (e1.trans e2)) (et_test (EF.bl (ex_isC (c := false) (ex_var (v := .bl false) rfl) ex_c) (by simp))) (fun _ H3 e3 => ?_) (fun h => nomatch h)
        exact st_ret (P := XV (.bl true)) (hG.trans (e1.trans (e2.trans e3))) ((ex_isC (c := false) (ex_var (v := .bl false) rfl) ex_c).imp fun v _ _ h => (show v = _ from h).trans (by simp)) fun v G' H4 g p => k v G' H4 ((Gr.same hG (e1.trans (e2.trans e3))).trans g) p
    have ny := dp_not dy hki
    refine st_if0 hG (et_test (EF.bl (ex_isN (ex_var (v := y) rfl) ex_c) (decide_eq_false ny.1))) fun H1 e1 => ?_
    refine st_if0 (hG.trans e1) (et_test (EF.bl (ex_isC (c := true) (ex_var (v := y) rfl) ex_c) (decide_eq_false (ny.2 true)))) fun H2 e2 => ?_
    refine st_if0 (hG.trans (e1.trans e2)) (et_test (EF.bl (ex_isC (c := false) (ex_var (v := y) rfl) ex_c) (decide_eq_false (ny.2 false)))) fun H3 e3 => ?_
    have hG3 : Ex G H3 := hG.trans (e1.trans (e2.trans e3))
    have eH3 : Ex H H3 := e1.trans (e2.trans e3)
    cases d with
    | int z =>
      cases dx
      cases dy
      refine st_if (p := (· = true)) hG3 (et_B (EF.bl (ex_isi (d := .int z) (k := .i) (r := true) (ex_var (v := .int z) rfl) ex_c (.int z) rfl (by decide +kernel)) rfl)) (fun _ H4 e4 => ?_) (fun h => nomatch h)
      refine st_ret (P := BV (· = true)) (hG3.trans e4) (eb_and (p := (· = true)) (q := (· = true)) (EF.bl (ex_isi (d := .int z) (k := .i) (r := true) (ex_var (v := .int z) rfl) ex_c (.int z) rfl (by decide +kernel)) rfl) (fun _ => eb_and (p := (· = true)) (q := (· = true)) (eb_not (EF.bl (ex_isi (d := .int z) (k := .i) (r := false) (ex_var (v := .int z) rfl) ex_c (.int z) rfl (by decide +kernel)) rfl)) (fun _ => ei_eq (EF.iv (ex_var (v := .int z) rfl)) (EF.iv (ex_var (v := .int z) rfl)) fun a b ha hb => by rw [ha, hb]; simp) (fun _ b hb => hb) (fun h => nomatch h)) (fun _ b hb => hb) (fun h => nomatch h)) (fun v G' H5 g p => k v G' H5 ((Gr.same hG (eH3.trans e4)).trans g) (by obtain ⟨b, eb, hb⟩ := p; rw [eb, hb]; rfl))
    | str z =>
      cases dx
      cases dy
      refine st_if0 hG3 (et_B (EF.bl (ex_isi (d := .str z) (k := .s) (r := false) (ex_var (v := .str z) rfl) ex_c (.str z) rfl (by decide +kernel)) rfl)) fun H4 e4 => ?_
      refine st_if (p := (· = true)) (hG3.trans e4) (et_B (EF.bl (ex_isi (d := .str z) (k := .s) (r := true) (ex_var (v := .str z) rfl) ex_c (.str z) rfl (by decide +kernel)) rfl)) (fun _ H5 e5 => ?_) (fun h => nomatch h)
      refine st_ret (P := BV (· = true)) (hG3.trans (e4.trans e5)) (eb_and (p := (· = true)) (q := (· = true)) (EF.bl (ex_isi (d := .str z) (k := .s) (r := true) (ex_var (v := .str z) rfl) ex_c (.str z) rfl (by decide +kernel)) rfl) (fun _ => ex_eq (ex_var (v := .str z) rfl) (ex_var (v := .str z) rfl) rfl (by simp)) (fun _ b hb => hb) (fun h => nomatch h)) (fun v G' H5 g p => k v G' H5 ((Gr.same hG (eH3.trans (e4.trans e5))).trans g) (by obtain ⟨b, eb, hb⟩ := p; rw [eb, hb]; rfl))
    | list ds =>
      have sx : ∃ xs, SqA K G x xs ∧ DpAll K G xs ds := by
        obtain ⟨a, xs, rfl, hs, hd⟩ := dp_lst dx
        exact ⟨xs, ⟨a, rfl, .inl hs⟩, hd⟩
      have sy : ∃ xs, SqA K G y xs ∧ DpAll K G xs ds := by
        obtain ⟨a, xs, rfl, hs, hd⟩ := dp_lst dy
        exact ⟨xs, ⟨a, rfl, .inl hs⟩, hd⟩
      obtain ⟨xs, sx, hxs⟩ := sx
      obtain ⟨ys, sy, hys⟩ := sy
      obtain ⟨few, okd⟩ := ok
      refine st_if0 hG3 (et_B (EF.bl (ex_isi (d := .list ds) (k := .l) (r := false) (ex_var (v := y) rfl) ex_c dy rfl (by decide +kernel)) rfl)) fun H4 e4 => ?_
      refine st_if0 (hG3.trans e4) (et_B (EF.bl (ex_isi (d := .list ds) (k := .l) (r := false) (ex_var (v := y) rfl) ex_c dy rfl (by decide +kernel)) rfl)) fun H5 e5 => ?_
      have hG5 : Ex G H5 := hG3.trans (e4.trans e5)
      refine st_if0 hG5 (et_and (p := (· = true)) (q := (· = false)) (s := (· = false)) (et_B (EF.bl (ex_isi (d := .list ds) (k := .l) (r := true) (ex_var (v := y) rfl) ex_c dy rfl (by decide +kernel)) rfl)) (fun _ => et_not (et_B (EF.bl (ex_isi (d := .list ds) (k := .l) (r := true) (ex_var (v := x) rfl) ex_c dx rfl (by decide +kernel)) rfl))) (fun _ b hb => hb) (fun _ => rfl)) fun H6 e6 => ?_
      refine st_if0 (hG5.trans e6) (et_and (p := (· = false)) (q := fun _ => True) (s := (· = false)) (et_B (EF.bl (ex_isi (d := .list ds) (k := .l) (r := false) (ex_var (v := y) rfl) ex_c dy rfl (by decide +kernel)) rfl)) (fun h => nomatch h) (fun h => nomatch h) (fun _ => rfl)) fun H7 e7 => ?_
      have hG7 : Ex G H7 := hG5.trans (e6.trans e7)
      have eH7 : Ex H H7 := eH3.trans (e4.trans (e5.trans (e6.trans e7)))
      refine st_if0 hG7 (et_test (ei_ne (EF.iv (ex_lenA (ex_var (v := x) rfl) sx)) (EF.iv (ex_lenA (ex_var (v := y) rfl) sy)) fun a b ha hb => ?_)) fun H8 e8 => ?_
      · rw [ha, hb, dpa_len hxs, dpa_len hys]
        simp
      refine st_forR1 (n := (ds.length : Int)) (hG7.trans e8) ((ea_one (ex_lenA (ex_var (v := y) rfl) sy)).imp fun vs G' _ ⟨x, ev, hx⟩ => by rw [ev, show x = _ from hx, dpa_len hys]) (by omega) (by omega) (fun i σ' H' => Ex H H' ∧ ∃ v, σ' = [some x, some y, v]) (fun H' e => ⟨eH7.trans (e8.trans e), _, rfl⟩) (fun i σ' H' hi hw => ?_) (fun σ' H9 hw => ?_)
      · obtain ⟨e, v, rfl⟩ := hw
        have hi' : i < ds.length := by omega
        obtain ⟨u, hu, du⟩ := dpa_get' hxs (List.getElem?_eq_getElem hi')
        obtain ⟨v, hv, dv⟩ := dpa_get' hys (List.getElem?_eq_getElem hi')
        exact st_if0 (hG.trans e) (et_not (et_B (EF.bl (ex_call2 (P := XV (.bl true)) (ex_ixA (ex_var (v := x) rfl) (ex_var (v := .int (i : Int)) rfl) sx hu) (ex_ixA (ex_var (v := y) rfl) (ex_var (v := .int (i : Int)) rfl) sy hv) fun G' e' => sa_sameB (dpx du e') (dpx dv e') (okd _ (List.getElem_mem hi'))) rfl))) fun H2 e2 => ⟨e.trans e2, _, rfl⟩
      · obtain ⟨e, v, rfl⟩ := hw
        dsimp only
        refine st_ret (P := XV (.bl true)) (hG.trans e) ex_c fun v G' H2 g p => ?_
        exact k v G' H2 ((Gr.same hG e).trans g) p
    | tuple ds =>
      have sx : ∃ xs, SqA K G x xs ∧ DpAll K G xs ds := by
        obtain ⟨a, xs, rfl, hs, hd⟩ := dp_tup dx
        exact ⟨xs, ⟨a, rfl, .inr hs⟩, hd⟩
      have sy : ∃ xs, SqA K G y xs ∧ DpAll K G xs ds := by
        obtain ⟨a, xs, rfl, hs, hd⟩ := dp_tup dy
        exact ⟨xs, ⟨a, rfl, .inr hs⟩, hd⟩
      obtain ⟨xs, sx, hxs⟩ := sx
      obtain ⟨ys, sy, hys⟩ := sy
      obtain ⟨few, okd⟩ := ok
      refine st_if0 hG3 (et_B (EF.bl (ex_isi (d := .tuple ds) (k := .t) (r := false) (ex_var (v := y) rfl) ex_c dy rfl (by decide +kernel)) rfl)) fun H4 e4 => ?_
      refine st_if0 (hG3.trans e4) (et_B (EF.bl (ex_isi (d := .tuple ds) (k := .t) (r := false) (ex_var (v := y) rfl) ex_c dy rfl (by decide +kernel)) rfl)) fun H5 e5 => ?_
      have hG5 : Ex G H5 := hG3.trans (e4.trans e5)
      refine st_if0 hG5 (et_and (p := (· = false)) (q := fun _ => True) (s := (· = false)) (et_B (EF.bl (ex_isi (d := .tuple ds) (k := .t) (r := false) (ex_var (v := y) rfl) ex_c dy rfl (by decide +kernel)) rfl)) (fun h => nomatch h) (fun h => nomatch h) (fun _ => rfl)) fun H6 e6 => ?_
      refine st_if0 (hG5.trans e6) (et_and (p := (· = true)) (q := (· = false)) (s := (· = false)) (et_B (EF.bl (ex_isi (d := .tuple ds) (k := .t) (r := true) (ex_var (v := y) rfl) ex_c dy rfl (by decide +kernel)) rfl)) (fun _ => et_not (et_B (EF.bl (ex_isi (d := .tuple ds) (k := .t) (r := true) (ex_var (v := x) rfl) ex_c dx rfl (by decide +kernel)) rfl))) (fun _ b hb => hb) (fun _ => rfl)) fun H7 e7 => ?_
      have hG7 : Ex G H7 := hG5.trans (e6.trans e7)
      have eH7 : Ex H H7 := eH3.trans (e4.trans (e5.trans (e6.trans e7)))
      refine st_if0 hG7 (et_test (ei_ne (EF.iv (ex_lenA (ex_var (v := x) rfl) sx)) (EF.iv (ex_lenA (ex_var (v := y) rfl) sy)) fun a b ha hb => ?_)) fun H8 e8 => ?_
      · rw [ha, hb, dpa_len hxs, dpa_len hys]
        simp
      refine st_forR1 (n := (ds.length : Int)) (hG7.trans e8) ((ea_one (ex_lenA (ex_var (v := y) rfl) sy)).imp fun vs G' _ ⟨x, ev, hx⟩ => by rw [ev, show x = _ from hx, dpa_len hys]) (by omega) (by omega) (fun i σ' H' => Ex H H' ∧ ∃ v, σ' = [some x, some y, v]) (fun H' e => ⟨eH7.trans (e8.trans e), _, rfl⟩) (fun i σ' H' hi hw => ?_) (fun σ' H9 hw => ?_)
      · obtain ⟨e, v, rfl⟩ := hw
        have hi' : i < ds.length := by omega
        obtain ⟨u, hu, du⟩ := dpa_get' hxs (List.getElem?_eq_getElem hi')
        obtain ⟨v, hv, dv⟩ := dpa_get' hys (List.getElem?_eq_getElem hi')
        exact st_if0 (hG.trans e) (et_not (et_B (EF.bl (ex_call2 (P := XV (.bl true)) (ex_ixA (ex_var (v := x) rfl) (ex_var (v := .int (i : Int)) rfl) sx hu) (ex_ixA (ex_var (v := y) rfl) (ex_var (v := .int (i : Int)) rfl) sy hv) fun G' e' => sa_sameB (dpx du e') (dpx dv e') (okd _ (List.getElem_mem hi'))) rfl))) fun H2 e2 => ⟨e.trans e2, _, rfl⟩
      · obtain ⟨e, v, rfl⟩ := hw
        dsimp only
        refine st_ret (P := XV (.bl true)) (hG.trans e) ex_c fun v G' H2 g p => ?_
        exact k v G' H2 ((Gr.same hG e).trans g) p
    | none => cases hki
    | bool b => cases hki
    | dict ds => cases hki
end
end Kx

set_option Elab.async false
set_option linter.all false
set_option maxRecDepth 100000
set_option maxHeartbeats 8000000
namespace Kx
open PySem L2 Lw
open Evl (Ex)
abbrev s_places : Stmt := top 18
theorem sc_places : FnScope ["_law_cell_here", "_law_size", "_law_first", "_law_second", "_law_third", "_law_fourth"] ["_law_cell_here", "_law_size"] (defScope s_places) := ⟨rfl, rfl, rfl, by decide +kernel, rfl, by decide +kernel, by decide +kernel⟩
abbrev s_working : Stmt := top 19
theorem sc_working : FnScope ["_law_cell_here", "_law_kind", "_law_places_here", "_law_begin", "_law_span", "_law_origin", "_law_goal"] ["_law_cell_here", "_law_kind", "_law_places_here"] (defScope s_working) := ⟨rfl, rfl, rfl, by decide +kernel, rfl, by decide +kernel, by decide +kernel⟩
abbrev s_goes_on : Stmt := top 21
theorem sc_goes_on : FnScope ["_law_workings", "_law_first", "_law_second", "_law_gap"] ["_law_workings", "_law_first", "_law_second", "_law_gap"] (defScope s_goes_on) := ⟨rfl, rfl, rfl, by decide +kernel, rfl, by decide +kernel, by decide +kernel⟩
abbrev s_surplus : Stmt := top 26
theorem sc_surplus : FnScope ["_law_workings", "_law_place", "_law_gap", "_law_moment", "_law_left", "_law_ready", "_law_row"] ["_law_workings", "_law_place", "_law_gap", "_law_moment"] (defScope s_surplus) := ⟨rfl, rfl, rfl, by decide +kernel, rfl, by decide +kernel, by decide +kernel⟩
abbrev s_is_pair : Stmt := top 22
theorem sc_is_pair : FnScope ["_law_actual", "_law_part"] ["_law_actual"] (defScope s_is_pair) := ⟨rfl, rfl, rfl, by decide +kernel, rfl, by decide +kernel, by decide +kernel⟩
abbrev s_is_run : Stmt := top 23
theorem sc_is_run : FnScope ["_law_workings", "_law_links", "_law_gap", "_law_at", "_law_other"] ["_law_workings", "_law_links", "_law_gap"] (defScope s_is_run) := ⟨rfl, rfl, rfl, by decide +kernel, rfl, by decide +kernel, by decide +kernel⟩
abbrev s_new_sets : Stmt := top 25
theorem sc_new_sets : FnScope ["_law_workings", "_law_links", "_law_place", "_law_seconds", "_law_pair", "_law_k"] ["_law_workings", "_law_links", "_law_place"] (defScope s_new_sets) := ⟨rfl, rfl, rfl, by decide +kernel, rfl, by decide +kernel, by decide +kernel⟩
section
variable {P : Program} {w : World} {K : PySem.W.Frag} {mg : Str → Option Value} {base : Heap} {C CB : Addr} {f : Addr} {fd : FuncData}
theorem ok_drawB (B : Blt mg) (F : Fun K "_law_draw" "_law_draw" s_draw f fd) : FnOk P w K mg base CX0 1 f fd ["_law_cell_here", "_law_k", "_law_size"] spDrawB := by
  have m_abs := B.abs
  have m_int := B.int
  have m_range := B.range
  refine F.ok sc_draw (fun vs H Q E h => ?_) (fun cdv A outer s H vs Q E hr h => ?_)
  · obtain ⟨G, c, k, n, _, rfl, _⟩ := h
    rfl
  · obtain ⟨G, c, kk, n, hG, rfl, h0, h1, h2, h3, k⟩ := h
    refine ⟨_, (pss_cons (ps_set (i := 3) sc_draw.nd rfl (by first | exact Or.inl rfl | exact Or.inr rfl) (pe_callB call_abs (by rfl) m_abs (by decide +kernel) (pa_cons (pv 0) pa_nil)))
 (Evl.pss_cut (ps_if (pt_cmpR op_ge (pv 3) pe_int (nomark _))
 (pss_cons (ps_for PassesOwn.never rfl (pi_range1 rfl m_range (pa_cons (pv 1) pa_nil)) (pg_name (i := 5) sc_draw.nd rfl (by first | exact Or.inl rfl | exact Or.inr rfl))
 (pss_one (ps_set (i := 3) sc_draw.nd rfl (by first | exact Or.inl rfl | exact Or.inr rfl) (pe_op op_fdiv (pv 3) pe_int))))
 (pss_one (ps_if (pt_cmpR op_gt (pv 3) pe_int (nomark _))
 (pss_one (ps_ret (pe_op op_mod (pe_callTy call_int1 (by rfl) m_int (by decide +kernel) (pa_cons (pe_op op_mod (pe_callTy call_int1 (by rfl) m_int (by decide +kernel) (pa_cons (pv 3) pa_nil)) pe_int) pa_nil)) (pv 2)))) pss_nil))) pss_nil)
 (pss_cons (ps_set (i := 4) sc_draw.nd rfl (by first | exact Or.inl rfl | exact Or.inr rfl) (pe_op op_mod (pe_callTy call_int1 (by rfl) m_int (by decide +kernel) (pa_cons (pe_op op_add (pe_op op_add (pe_callB call_abs (by rfl) m_abs (by decide +kernel) (pa_cons (pv 0) pa_nil)) (pe_op op_mul pe_int (pv 1))) pe_int) pa_nil)) pe_int))
 (pss_cons (ps_set (i := 4) sc_draw.nd rfl (by first | exact Or.inl rfl | exact Or.inr rfl) (pe_op op_mod (pe_callTy call_int1 (by rfl) m_int (by decide +kernel) (pa_cons (pe_op op_mul (pv 4) (pe_op op_add (pv 4) pe_int)) pa_nil)) pe_int))
 (pss_cons (ps_set (i := 4) sc_draw.nd rfl (by first | exact Or.inl rfl | exact Or.inr rfl) (pe_op op_mod (pe_callTy call_int1 (by rfl) m_int (by decide +kernel) (pa_cons (pe_op op_add (pe_op op_mul (pv 4) (pe_op op_add (pv 4) pe_int)) (pe_op op_mul pe_int (pv 1))) pa_nil)) pe_int))
 (pss_one (ps_ret (pe_op op_mod (pe_callTy call_int1 (by rfl) m_int (by decide +kernel) (pa_cons (pe_op op_fdiv (pv 4) pe_int) pa_nil)) (pv 2))))))))), ?_⟩
    have fin : ∀ {G' H' : Hp} {σ : L2.St} {te : TE} {i : Nat}, Ex H H' → EF te σ G' (IV fun _ => True) → Ex G' H' → σ[i]? = some (some (.int n)) → EF (tOp (rI (fun _ j => 0 < j) fun i j => .int (i % j)) (tCB rIntI (tCons te tNil)) (tVar i)) σ G' (IV fun z => 0 ≤ z ∧ z < n) := fun e hv _ hi =>
      ei_mod (n := n) (ei_int hv) (EF.iv (ex_var hi)) (by omega) fun a _ => ⟨Int.emod_nonneg _ (by omega), Int.emod_lt_of_pos _ (by omega)⟩
    refine st_asg (P := IV fun _ => True) hG (ei_abs (EF.iv (ex_var (v := .int c) rfl))) fun v1 G1 H1 g1 ⟨r1, e1, _⟩ => ?_
    subst e1
    refine ⟨fun σ' H' => Ex H H' ∧ ∃ r v5, σ' = [some (.int c), some (.int kk), some (.int n), some (.int r), none, v5], ?_, ?_⟩
    · refine st_if (p := fun _ => True) (Ex.refl H1) (et_test (ec_int (p := fun _ => True) (q := fun _ => True) (f := fun i j => decide (j ≤ i)) (EF.ivp (ex_var rfl) trivial) (EF.ivp ex_c trivial) fun _ _ _ _ => trivial)) (fun _ H2 e2 => ?_) (fun _ H2 e2 => ⟨g1.hp.trans e2, _, _, rfl⟩)
      refine st_forR1 (n := kk) (Ex.refl H2) ((ea_one (ex_var (v := .int kk) rfl)).imp fun vs G' _ ⟨x, ev, hx⟩ => by rw [ev, show x = _ from hx]) (by omega) (by omega) (fun i σ' H' => Ex H H' ∧ ∃ r v5, σ' = [some (.int c), some (.int kk), some (.int n), some (.int r), none, v5]) (fun H' e => ⟨g1.hp.trans (e2.trans e), _, _, rfl⟩) (fun i σ' H' hi hw => ?_) (fun σ' H' hw => ?_)
      · obtain ⟨e, r, v5, rfl⟩ := hw
        refine st_asg (P := IV fun _ => True) (Ex.refl H') (ei_div (n := 64) (EF.iv (ex_var (v := .int r) rfl)) (EF.iv ex_c) (by omega) (by omega) fun _ _ => trivial) fun v2 G2 H2 g2 ⟨r2, er, _⟩ => ?_
        subst er
        exact ⟨e.trans g2.hp, _, _, rfl⟩
      · obtain ⟨e, r, v5, rfl⟩ := hw
        refine st_if (p := fun _ => True) (Ex.refl H') (et_test (ec_int (p := fun _ => True) (q := fun _ => True) (f := fun i j => decide (j < i)) (EF.ivp (ex_var (v := .int r) rfl) trivial) (EF.ivp ex_c trivial) fun _ _ _ _ => trivial)) (fun _ H3 e3 => ?_) (fun _ H3 e3 => ⟨e.trans e3, _, _, rfl⟩)
        exact st_ret (P := IV fun z => 0 ≤ z ∧ z < n) (hG.trans (e.trans e3)) (fin (e.trans e3) (ei_mod (n := 64) (s := fun _ => True) (ei_int (EF.iv (ex_var (v := .int r) rfl))) (EF.iv ex_c) (by omega) fun _ _ => trivial) (hG.trans (e.trans e3)) rfl) fun v G' H4 g p => k v G' H4 ((Gr.same hG (e.trans e3)).trans g) p
    · rintro σ1 H2 ⟨e2, r, v5, rfl⟩
      have big : ∀ (m : Int), 0 < m → m ≤ 2147483647 → ∀ a, (fun z : Int => 0 ≤ z ∧ z < 2147483647) (a % m) := fun m hm hm2 a => ⟨Int.emod_nonneg _ (by omega), by have := Int.emod_lt_of_pos a hm; omega⟩
      refine st_asg (P := IV fun z => 0 ≤ z ∧ z < 2147483647) (Ex.refl H2) (ei_mod (n := 2147483647) (ei_int (p := fun _ => True) (ei_add (p := fun _ => True) (q := fun _ => True) (ei_add (p := fun _ => True) (q := fun _ => True) (ei_abs (EF.iv (ex_var (v := .int c) rfl))) (ei_mul (p := (· = 7919)) (q := fun _ => True) (EF.iv ex_c) (EF.ivp (ex_var (v := .int kk) rfl) trivial) (fun a ha => by omega) fun _ _ _ _ => trivial) fun _ _ _ _ => trivial) (EF.ivp ex_c trivial) fun _ _ _ _ => trivial)) (EF.iv ex_c) (by omega) fun a _ => big _ (by omega) (by omega) a) fun v1 G3 H3 g3 ⟨m1, em1, hm1⟩ => ?_
      subst em1
      refine st_asg (P := IV fun z => 0 ≤ z ∧ z < 2147483647) (Ex.refl H3) (ei_mod (n := 2147483629) (ei_int (p := fun _ => True) (ei_mul (p := fun z => 0 ≤ z ∧ z < 2147483647) (q := fun _ => True) (EF.ivp (ex_var (v := .int m1) rfl) hm1) (ei_add (p := fun _ => True) (q := fun _ => True) (EF.ivp (ex_var (v := .int m1) rfl) trivial) (EF.ivp ex_c trivial) fun _ _ _ _ => trivial) (fun a ha => by omega) fun _ _ _ _ => trivial)) (EF.iv ex_c) (by omega) fun a _ => big _ (by omega) (by omega) a) fun v1 G4 H4 g4 ⟨m2, em2, hm2⟩ => ?_
      subst em2
      refine st_asg (P := IV fun z => 0 ≤ z ∧ z < 2147483647) (Ex.refl H4) (ei_mod (n := 2147483647) (ei_int (p := fun _ => True) (ei_add (p := fun _ => True) (q := fun _ => True) (ei_mul (p := fun z => 0 ≤ z ∧ z < 2147483647) (q := fun _ => True) (EF.ivp (ex_var (v := .int m2) rfl) hm2) (ei_add (p := fun _ => True) (q := fun _ => True) (EF.ivp (ex_var (v := .int m2) rfl) trivial) (EF.ivp ex_c trivial) fun _ _ _ _ => trivial) (fun a ha => by omega) fun _ _ _ _ => trivial) (ei_mul (p := (· = 31)) (q := fun _ => True) (EF.iv ex_c) (EF.ivp (ex_var (v := .int kk) rfl) trivial) (fun a ha => by omega) fun _ _ _ _ => trivial) fun _ _ _ _ => trivial)) (EF.iv ex_c) (by omega) fun a _ => big _ (by omega) (by omega) a) fun v1 G5 H5 g5 ⟨m3, em3, hm3⟩ => ?_
      subst em3
      have eH : Ex H H5 := e2.trans (g3.hp.trans (g4.hp.trans g5.hp))
      exact st_ret (P := IV fun z => 0 ≤ z ∧ z < n) (hG.trans eH) (fin eH (ei_div (n := 9) (s := fun _ => True) (EF.iv (ex_var (v := .int m3) rfl)) (EF.iv ex_c) (by omega) (by omega) fun _ _ => trivial) (hG.trans eH) rfl) fun v G' H6 g p => k v G' H6 ((Gr.same hG eH).trans g) p
theorem ok_places (F : Fun K "_law_places" "_law_places" s_places f fd) (Cd : Cal P w K mg base "_law_draw" 1 ["_law_cell_here", "_law_k", "_law_size"] spDraw) : FnOk P w K mg base CX0 2 f fd ["_law_cell_here", "_law_size"] (spPlaces K) := by
  obtain ⟨f1, fd1, G_draw, m_draw, k_draw, b_draw⟩ := Cd
  refine F.ok sc_places (fun vs H Q E h => ?_) (fun cdv A outer s H vs Q E hr h => ?_)
  · obtain ⟨G, c, n, _, rfl, _⟩ := h
    rfl
  · obtain ⟨G, c, n, hG, rfl, h1, h4, k⟩ := h
    refine ⟨_, (pss_cons (ps_set (i := 2) sc_places.nd rfl (by first | exact Or.inl rfl | exact Or.inr rfl) (pe_call G_draw (hr.mono (by decide)) rfl m_draw k_draw b_draw .nil pass0 (pa_cons (pv 0) (pa_cons pe_int (pa_cons pe_int pa_nil)))))
 (pss_cons (ps_set (i := 3) sc_places.nd rfl (by first | exact Or.inl rfl | exact Or.inr rfl) (pe_op op_add (pe_op op_add (pv 2) pe_int) (pe_call G_draw (hr.mono (by decide)) rfl m_draw k_draw b_draw .nil pass0 (pa_cons (pv 0) (pa_cons pe_int (pa_cons pe_int pa_nil))))))
 (pss_cons (ps_set (i := 4) sc_places.nd rfl (by first | exact Or.inl rfl | exact Or.inr rfl) (pe_op op_add (pe_op op_add (pv 3) pe_int) (pe_op op_mul pe_int (pe_call G_draw (hr.mono (by decide)) rfl m_draw k_draw b_draw .nil pass0 (pa_cons (pv 0) (pa_cons pe_int (pa_cons pe_int pa_nil)))))))
 (pss_cons (ps_set (i := 5) sc_places.nd rfl (by first | exact Or.inl rfl | exact Or.inr rfl) (pe_op op_add (pe_op op_add (pv 4) pe_int) (pe_op op_mul pe_int (pe_call G_draw (hr.mono (by decide)) rfl m_draw k_draw b_draw .nil pass0 (pa_cons (pv 0) (pa_cons pe_int (pa_cons pe_int pa_nil)))))))
 (pss_one (ps_ret (pe_slice sl_list (pe_lst (pa_cons (pv 2) (pa_cons (pv 3) (pa_cons (pv 4) (pa_cons (pv 5) pa_nil))))) po_none (po_some (pv 1))))))))), ?_⟩
    have dr : ∀ {σ : L2.St} {G' : Hp} {i m : Int}, σ[0]? = some (some (.int c)) → 0 ≤ i ∧ i ≤ 2000 → 1 ≤ m ∧ m ≤ 2000 → EF (tCall spDraw [] E0 (tCons (tVar 0) (tCons (tC (.int i)) (tCons (tC (.int m)) tNil)))) σ G' (IV fun z => 0 ≤ z ∧ z < m) := fun h hi hm => ei_draw (EF.ivp (ex_var h) trivial) (EF.ivp ex_c hi) (EF.iv ex_c) hm.1 hm.2
    refine st_asg (P := IV fun z => 0 ≤ z ∧ z < 40) hG (dr rfl ⟨by omega, by omega⟩ ⟨by omega, by omega⟩) fun v2 G2 H2 g2 ⟨a, ea, _⟩ => ?_
    subst ea
    refine st_asg (P := IV fun z => a < z) g2.ok (ei_add (p := (· = a + 1)) (q := fun z => 0 ≤ z ∧ z < 9) (EF.iv (ex_add (ex_var (v := .int a) rfl) (ex_c (v := .int 1)))) (dr rfl ⟨by omega, by omega⟩ ⟨by omega, by omega⟩) fun x y hx hy => by omega) fun v3 G3 H3 g3 ⟨b, eb, hb⟩ => ?_
    subst eb
    dsimp only
    refine st_asg (P := IV fun z => b < z) g3.ok (ei_add (p := (· = b + 1)) (q := fun z => 0 ≤ z) (EF.iv (ex_add (ex_var (v := .int b) rfl) (ex_c (v := .int 1)))) (ei_mul (p := (· = 1000)) (q := fun z => 0 ≤ z ∧ z < 50) (EF.iv ex_c) (dr rfl ⟨by omega, by omega⟩ ⟨by omega, by omega⟩) (fun x hx => by omega) fun x y hx hy => by rw [hx]; omega) fun x y hx hy => by omega) fun v4 G4 H4 g4 ⟨c3, ec, hc⟩ => ?_
    subst ec
    dsimp only
    refine st_asg (P := IV fun z => c3 < z) g4.ok (ei_add (p := (· = c3 + 1)) (q := fun z => 0 ≤ z) (EF.iv (ex_add (ex_var (v := .int c3) rfl) (ex_c (v := .int 1)))) (ei_mul (p := (· = 300000000)) (q := fun z => 0 ≤ z ∧ z < 4) (EF.iv ex_c) (dr rfl ⟨by omega, by omega⟩ ⟨by omega, by omega⟩) (fun x hx => by omega) fun x y hx hy => by rw [hx]; omega) fun x y hx hy => by omega) fun v5 G5 H5 g5 ⟨d, ed, hd⟩ => ?_
    subst ed
    dsimp only
    have gA := g2.trans (g3.trans (g4.trans g5))
    refine st_ret (P := RL K fun ps => ps.length = n ∧ ps.Pairwise (· < ·)) g5.ok ((el_to (ds := ([a, b, c3, d] : List Int).map PyData.int) (k := n) ((el_lst (ea_x (ex_var rfl) (ea_x (ex_var rfl) (ea_x (ex_var rfl) (ea_x (ex_var rfl) ea_nil)))) (by simp) fun vs G' _ h => by rw [h]; exact dpa_ints [a, b, c3, d]).ls_dv) (ex_var rfl)).imp fun v G' _ p => ⟨([a, b, c3, d] : List Int).take n, ⟨by rw [List.length_take]; simp; omega, List.Pairwise.sublist (List.take_sublist _ _) (by simp; omega)⟩, by rw [List.map_take]; exact p⟩) fun v G' H' g p => k v G' H' (gA.trans g) p
theorem ok_working (B : Blt mg) (F : Fun K "_law_working" "_law_working" s_working f fd) (Cd : Cal P w K mg base "_law_draw" 1 ["_law_cell_here", "_law_k", "_law_size"] spDraw) : FnOk P w K mg base CX0 2 f fd ["_law_cell_here", "_law_kind", "_law_places_here"] (spWorkS K) := by
  obtain ⟨f1, fd1, G_draw, m_draw, k_draw, b_draw⟩ := Cd
  have m_len := B.len
  have m_abs := B.abs
  have m_int := B.int
  refine F.ok sc_working (fun vs H Q E h => ?_) (fun cdv A outer s H vs Q E hr h => ?_)
  · obtain ⟨G, c, kd, a, ps, _, rfl, _⟩ := h
    rfl
  · obtain ⟨G, c, kd, a, ps, hG, rfl, hs, h1, h2, k⟩ := h
    refine ⟨_, (pss_cons (ps_set (i := 3) sc_working.nd rfl (by first | exact Or.inl rfl | exact Or.inr rfl) (pe_call G_draw (hr.mono (by decide)) rfl m_draw k_draw b_draw .nil pass0 (pa_cons (pv 0) (pa_cons pe_int (pa_cons pe_int pa_nil)))))
 (pss_cons (ps_set (i := 4) sc_working.nd rfl (by first | exact Or.inl rfl | exact Or.inr rfl) (pe_op op_add pe_int (pe_call G_draw (hr.mono (by decide)) rfl m_draw k_draw b_draw .nil pass0 (pa_cons (pv 0) (pa_cons pe_int (pa_cons pe_int pa_nil))))))
 (Evl.pss_cut (ps_if (pt_cmpR op_eq (pv 1) pe_int (nomark _))
 (pss_cons (ps_set (i := 3) sc_working.nd rfl (by first | exact Or.inl rfl | exact Or.inr rfl) (pe_op op_add (pe_op op_mul pe_int (pe_call G_draw (hr.mono (by decide)) rfl m_draw k_draw b_draw .nil pass0 (pa_cons (pv 0) (pa_cons pe_int (pa_cons pe_int pa_nil))))) (pe_call G_draw (hr.mono (by decide)) rfl m_draw k_draw b_draw .nil pass0 (pa_cons (pv 0) (pa_cons pe_int (pa_cons pe_int pa_nil))))))
 (pss_one (ps_set (i := 4) sc_working.nd rfl (by first | exact Or.inl rfl | exact Or.inr rfl) (pe_op op_add (pe_op op_add pe_int (pe_op op_mul pe_int (pe_call G_draw (hr.mono (by decide)) rfl m_draw k_draw b_draw .nil pass0 (pa_cons (pv 0) (pa_cons pe_int (pa_cons pe_int pa_nil)))))) (pe_call G_draw (hr.mono (by decide)) rfl m_draw k_draw b_draw .nil pass0 (pa_cons (pv 0) (pa_cons pe_int (pa_cons pe_int pa_nil)))))))) pss_nil)
 (Evl.pss_cut (ps_if (pt_cmpR op_eq (pv 1) pe_int (nomark _))
 (pss_cons (ps_set (i := 3) sc_working.nd rfl (by first | exact Or.inl rfl | exact Or.inr rfl) (pe_op op_mod (pe_callTy call_int1 (by rfl) m_int (by decide +kernel) (pa_cons (pe_op op_fdiv (pe_callB call_abs (by rfl) m_abs (by decide +kernel) (pa_cons (pv 0) pa_nil)) pe_int) pa_nil)) pe_int))
 (pss_one (ps_set (i := 4) sc_working.nd rfl (by first | exact Or.inl rfl | exact Or.inr rfl) (pe_op op_add pe_int (pe_op op_mod (pe_callTy call_int1 (by rfl) m_int (by decide +kernel) (pa_cons (pe_op op_fdiv (pe_callB call_abs (by rfl) m_abs (by decide +kernel) (pa_cons (pv 0) pa_nil)) pe_int) pa_nil)) pe_int))))) pss_nil)
 (pss_cons (ps_set (i := 5) sc_working.nd rfl (by first | exact Or.inl rfl | exact Or.inr rfl) (pe_ix ix_list (pv 2) (pe_call G_draw (hr.mono (by decide)) rfl m_draw k_draw b_draw .nil pass0 (pa_cons (pv 0) (pa_cons pe_int (pa_cons (pe_callB call_len_seq (by rfl) m_len PySem.boot_len (pa_cons (pv 2) pa_nil)) pa_nil)))) (fun _ _ => rfl)))
 (pss_cons (ps_set (i := 6) sc_working.nd rfl (by first | exact Or.inl rfl | exact Or.inr rfl) (pe_ix ix_list (pv 2) (pe_call G_draw (hr.mono (by decide)) rfl m_draw k_draw b_draw .nil pass0 (pa_cons (pv 0) (pa_cons pe_int (pa_cons (pe_callB call_len_seq (by rfl) m_len PySem.boot_len (pa_cons (pv 2) pa_nil)) pa_nil)))) (fun _ _ => rfl)))
 (pss_one (ps_ret (pe_tup (pa_cons (pv 5) (pa_cons (pv 6) (pa_cons (pv 3) (pa_cons (pe_op op_add (pv 3) (pv 4)) pa_nil))))))))))))), ?_⟩
    have dr : ∀ {σ : L2.St} {G' : Hp} {i m : Int}, σ[0]? = some (some (.int c)) → 0 ≤ i ∧ i ≤ 2000 → 1 ≤ m ∧ m ≤ 2000 → EF (tCall spDraw [] E0 (tCons (tVar 0) (tCons (tC (.int i)) (tCons (tC (.int m)) tNil)))) σ G' (IV fun z => 0 ≤ z ∧ z < m) := fun h hi hm => ei_draw (EF.ivp (ex_var h) trivial) (EF.ivp ex_c hi) (EF.iv ex_c) hm.1 hm.2
    refine st_asg (P := IV fun z => 0 ≤ z ∧ z < 12) hG (dr rfl ⟨by omega, by omega⟩ ⟨by omega, by omega⟩) fun v3 G3 H3 g3 ⟨b0, e3, _⟩ => ?_
    subst e3
    refine st_asg (P := IV fun z => 1 ≤ z) g3.ok (ei_add (p := (· = 1)) (q := fun z => 0 ≤ z ∧ z < 4) (EF.iv ex_c) (dr rfl ⟨by omega, by omega⟩ ⟨by omega, by omega⟩) fun x y hx hy => by omega) fun v4 G4 H4 g4 ⟨s0, e4, hs0⟩ => ?_
    subst e4
    have gA := g3.trans g4
    dsimp only
    refine ⟨fun σ' H' => Ex H H' ∧ ∃ b sp v5 v6, 1 ≤ sp ∧ σ' = [some (.int c), some (.int kd), some (.ref a), some (.int b), some (.int sp), v5, v6], ?_, ?_⟩
    · refine st_if (p := (· = decide (kd = 2))) gA.ok (et_eqI (ex_var rfl) ex_c) (fun _ H5 e5 => ?_) (fun _ H5 e5 => ⟨gA.hp.trans e5, b0, s0, _, _, hs0, rfl⟩)
      refine st_asg (P := IV fun _ => True) (gA.ok.trans e5) (ei_add (p := fun _ => True) (q := fun z => 0 ≤ z ∧ z < 2) (ei_mul (p := (· = 1000003)) (q := fun z => 0 ≤ z ∧ z < 60) (EF.iv ex_c) (dr rfl ⟨by omega, by omega⟩ ⟨by omega, by omega⟩) (fun x hx => by omega) fun _ _ _ _ => trivial) (dr rfl ⟨by omega, by omega⟩ ⟨by omega, by omega⟩) fun _ _ _ _ => trivial) fun v6 G6 H6 g6 ⟨b1, e6, _⟩ => ?_
      subst e6
      refine st_asg (P := IV fun z => 1 ≤ z) g6.ok (ei_add (p := fun z => 1 ≤ z) (q := fun z => 0 ≤ z ∧ z < 2) (ei_add (p := (· = 1)) (q := fun z => 0 ≤ z) (EF.iv ex_c) (ei_mul (p := (· = 1000003)) (q := fun z => 0 ≤ z ∧ z < 6) (EF.iv ex_c) (dr rfl ⟨by omega, by omega⟩ ⟨by omega, by omega⟩) (fun x hx => by omega) fun x y hx hy => by rw [hx]; omega) fun x y hx hy => by omega) (dr rfl ⟨by omega, by omega⟩ ⟨by omega, by omega⟩) fun x y hx hy => by omega) fun v7 G7 H7 g7 ⟨s1, e7, hs1⟩ => ?_
      subst e7
      exact ⟨gA.hp.trans (e5.trans (g6.hp.trans g7.hp)), b1, s1, _, _, hs1, rfl⟩
    · rintro σ1 H5 ⟨e5, b, sp, v5, v6, hsp, rfl⟩
      have hG5 := hG.trans e5
      refine ⟨fun σ' H' => Ex H H' ∧ ∃ b sp v5 v6, 1 ≤ sp ∧ σ' = [some (.int c), some (.int kd), some (.ref a), some (.int b), some (.int sp), v5, v6], ?_, ?_⟩
      · refine st_if (p := (· = decide (kd = 3))) hG5 (et_eqI (ex_var rfl) ex_c) (fun _ H6 e6 => ?_) (fun _ H6 e6 => ⟨e5.trans e6, b, sp, _, _, hsp, rfl⟩)
        refine st_asg (P := IV fun _ => True) (hG5.trans e6) (ei_mod (n := 400000000000) (ei_int (ei_div (n := 64) (s := fun _ => True) (ei_abs (EF.iv (ex_var (v := .int c) rfl))) (EF.iv ex_c) (by omega) (by omega) fun _ _ => trivial)) (EF.iv ex_c) (by omega) fun _ _ => trivial) fun v7 G7 H7 g7 ⟨b1, e7, _⟩ => ?_
        subst e7
        refine st_asg (P := IV fun z => 1 ≤ z) g7.ok (ei_add (p := (· = 1)) (q := fun z => 0 ≤ z) (EF.iv ex_c) (ei_mod (n := 500000000000) (ei_int (ei_div (n := 4096) (s := fun _ => True) (ei_abs (EF.iv (ex_var (v := .int c) rfl))) (EF.iv ex_c) (by omega) (by omega) fun _ _ => trivial)) (EF.iv ex_c) (by omega) fun x _ => Int.emod_nonneg _ (by omega)) fun x y hx hy => by omega) fun v8 G8 H8 g8 ⟨s1, e8, hs1⟩ => ?_
        subst e8
        exact ⟨e5.trans (e6.trans (g7.hp.trans g8.hp)), b1, s1, _, _, hs1, rfl⟩
      · rintro σ1 H6 ⟨e6, b, sp, v5, v6, hsp, rfl⟩
        have hG6 := hG.trans e6
        have pick : ∀ {σ : L2.St} {G' : Hp} {i : Int}, Ex G G' → σ[0]? = some (some (.int c)) → σ[2]? = some (some (.ref a)) → 0 ≤ i ∧ i ≤ 2000 → EF (tOp (rIxL K) (tVar 2) (tCall spDraw [] E0 (tCons (tVar 0) (tCons (tC (.int i)) (tCons (tCB (Evl.rLenS K) (tCons (tVar 2) tNil)) tNil))))) σ G' (IV fun z => z ∈ ps) := fun e h0 h2' hi =>
          ed_ixL (ds := ps.map PyData.int) (q := fun z => 0 ≤ z ∧ z < (ps.length : Int)) (EF.dv (ex_var h2') (.lst (Evl.ex_l e hs) (dpa_ints ps))) (ei_draw (n := (ps.length : Int)) (EF.ivp (ex_var h0) trivial) (EF.ivp ex_c hi) (EF.iv ((ex_lenL (ex_var h2') (Evl.ex_l e hs)).imp fun v _ _ p => by rw [show v = _ from p, List.length_map]; rfl)) (by omega) (by omega)) fun z hz => by
            have hj : z.toNat < ps.length := by omega
            exact ⟨z.toNat, .int ps[z.toNat], by omega, by rw [List.getElem?_map, List.getElem?_eq_getElem hj]; rfl, fun v G' d => by cases d; exact ⟨_, rfl, List.getElem_mem _⟩⟩
        refine st_asg (P := IV fun z => z ∈ ps) hG6 (pick (Ex.refl G) rfl rfl ⟨by omega, by omega⟩) fun v7 G7 H7 g7 ⟨o, e7, ho⟩ => ?_
        subst e7
        refine st_asg (P := IV fun z => z ∈ ps) g7.ok (pick g7.up rfl rfl ⟨by omega, by omega⟩) fun v8 G8 H8 g8 ⟨gl, e8, hgl⟩ => ?_
        subst e8
        have gB := g7.trans g8
        dsimp only
        refine st_ret (P := fun v G' => ∃ w : Wk, WkS ps w ∧ Dp K G' v (dW w)) g8.ok (ef_tup (ea_x (ex_var (v := .int o) rfl) (ea_x (ex_var (v := .int gl) rfl) (ea_x (ex_var (v := .int b) rfl) (ea_x (ex_add (ex_var (v := .int b) rfl) (ex_var (v := .int sp) rfl)) ea_nil)))) (fun vs _ h => by rw [h]; simp) fun q vs G' _ _ _ ev => ⟨(o, gl, b, b + sp), ⟨⟨ho, hgl⟩, by show b < b + sp; omega⟩, dp_mkT upd_same (by rw [ev]; exact dpa_ints [o, gl, b, b + sp])⟩) fun v G' H' g p => k v G' H' ((Gr.same hG e6).trans (gB.trans g)) p
theorem ok_goes (B : Blt mg) (F : Fun K "_law_goes_on" "_law_goes_on" s_goes_on f fd) : FnOk P w K mg base CX0 1 f fd ["_law_workings", "_law_first", "_law_second", "_law_gap"] (spMay K) := by
  have m_len := B.len
  refine F.ok sc_goes_on (fun vs H Q E h => ?_) (fun cdv A outer s H vs Q E hr h => ?_)
  · obtain ⟨G, a, ws, x, y, gap, _, rfl, _⟩ := h
    rfl
  · obtain ⟨G, a, ws, x, y, gap, hG, rfl, hd, hl, k⟩ := h
    refine ⟨_, (pss_cons (ps_if (PW.pt (pw_or (pt_cmpR op_lt (pv 1) pe_int (nomark _)) (pw_or (pt_cmpR op_ge (pv 1) (pe_callB call_len_seq (by rfl) m_len PySem.boot_len (pa_cons (pv 0) pa_nil)) (nomark _)) (pw_or (pt_cmpR op_lt (pv 2) pe_int (nomark _)) (pw_or1 (pt_cmpR op_ge (pv 2) (pe_callB call_len_seq (by rfl) m_len PySem.boot_len (pa_cons (pv 0) pa_nil)) (nomark _)))))))
 (pss_one (ps_ret pe_bl)) pss_nil)
 (pss_one (ps_ret (pe_and (pe_cmpR op_eq (pe_ix ix_tup (pe_ix ix_list (pv 0) (pv 1) (fun _ _ => rfl)) pe_int (fun _ _ => rfl)) (pe_ix ix_tup (pe_ix ix_list (pv 0) (pv 2) (fun _ _ => rfl)) pe_int (fun _ _ => rfl)) (nomark _)) (pe_one (pe_cmpR op_le (pe_op op_add (pe_ix ix_tup (pe_ix ix_list (pv 0) (pv 1) (fun _ _ => rfl)) pe_int (fun _ _ => rfl)) (pv 3)) (pe_ix ix_tup (pe_ix ix_list (pv 0) (pv 2) (fun _ _ => rfl)) pe_int (fun _ _ => rfl)) (nomark _))))))), ?_⟩
    have len : ∀ {σ : L2.St} {G' : Hp}, Ex G G' → σ[0]? = some (some (.ref a)) → EF (tCB (Evl.rLenS K) (tCons (tVar 0) tNil)) σ G' (XV (.int (ws.length : Int))) := fun e h => (ex_lenD (ds := ws.map dW) (EF.dv (ex_var h) (dpx hd e))).imp fun v _ _ p => by rw [show v = _ from p, List.length_map]; rfl
    refine st_if (p := (· = decide (x < 0 ∨ (x ≥ (ws.length : Int) ∨ (y < 0 ∨ y ≥ (ws.length : Int)))))) hG (et_orD (et_ltI (ex_var rfl) ex_c) (et_orD (et_geI (ex_var rfl) (len (Ex.refl G) rfl)) (et_orD (et_ltI (ex_var rfl) ex_c) (et_geI (ex_var rfl) (len (Ex.refl G) rfl))))) (fun h H2 e2 => ?_) (fun h H2 e2 => ?_)
    · have h' := of_decide_eq_true h.symm
      have hb : goesB ws gap x y = false := decide_eq_false fun z => by omega
      exact st_ret (P := XV (.bl false)) (hG.trans e2) ex_c fun v G' H3 g p => k v G' H3 ((Gr.same hG e2).trans g) (by rw [hb]; exact p)
    · have h' := of_decide_eq_false h.symm
      obtain ⟨n, rfl⟩ : ∃ n : Nat, x = (n : Int) := ⟨x.toNat, by omega⟩
      obtain ⟨m, rfl⟩ : ∃ m : Nat, y = (m : Int) := ⟨y.toNat, by omega⟩
      have hn : ws[n]? = some (wk ws n) := by rw [wk_get (List.getElem?_eq_getElem (by omega))]; exact List.getElem?_eq_getElem (by omega)
      have hm : ws[m]? = some (wk ws m) := by rw [wk_get (List.getElem?_eq_getElem (by omega))]; exact List.getElem?_eq_getElem (by omega)
      refine st_ret (P := BV (· = goesB ws gap (n : Int) (m : Int))) (hG.trans e2) (eb_and (p := (· = decide ((wk ws n).2.1 = (wk ws m).1))) (q := (· = decide ((wk ws n).2.2.2 + gap ≤ (wk ws m).2.2.1))) (ei_eq (EF.iv (ex_wki (k := 1) (ex_var (v := .ref a) rfl) hd (ex_var rfl) hn ex_c rfl)) (EF.iv (ex_wki (k := 0) (ex_var (v := .ref a) rfl) hd (ex_var rfl) hm ex_c rfl)) fun a b ha hb => by rw [ha, hb]) (fun _ => ec_int (f := fun i j => decide (i ≤ j)) (EF.iv (ex_add (ex_wki (k := 3) (ex_var (v := .ref a) rfl) hd (ex_var rfl) hn ex_c rfl) (ex_var (v := .int gap) rfl))) (EF.iv (ex_wki (k := 2) (ex_var (v := .ref a) rfl) hd (ex_var rfl) hm ex_c rfl)) fun a b ha hb => by rw [ha, hb]) (fun h1 b hb => ?_) fun h1 => ?_) fun v G' H4 g ⟨z, ez, hz⟩ => k v G' H4 ((Gr.same hG e2).trans g) (by rw [ez, hz]; rfl)
      · have q1 := of_decide_eq_true h1.symm
        rw [hb]
        unfold goesB
        rw [Bool.eq_iff_iff, decide_eq_true_eq, decide_eq_true_eq]
        simp only [Int.toNat_natCast]
        exact ⟨fun h => ⟨by omega, by omega, by omega, by omega, q1, h⟩, fun h => h.2.2.2.2.2⟩
      · have q1 := of_decide_eq_false h1.symm
        refine (decide_eq_false fun h => ?_).symm
        simp only [Int.toNat_natCast] at h
        exact q1 h.2.2.2.2.1
theorem ok_sur (B : Blt mg) (F : Fun K "_law_surplus" "_law_surplus" s_surplus f fd) : FnOk P w K mg base CX0 1 f fd ["_law_workings", "_law_place", "_law_gap", "_law_moment"] (spSur K) := by
  have m_len := B.len
  refine F.ok sc_surplus (fun vs H Q E h => ?_) (fun cdv A outer s H vs Q E hr h => ?_)
  · obtain ⟨G, a, ws, p, gap, m, _, rfl, _⟩ := h
    rfl
  · obtain ⟨G, a, ws, p, gap, m, hG, rfl, hd, hl, k⟩ := h
    refine ⟨_, (pss_cons (ps_setLc (i := 4) (own := [("_law_row", 6)]) (g := (gName 6)) (tt := (tAnd (tTest (tOp rEq (tOp (rIxT K) (tVar 6) (tC (.int 0))) (tVar 1))) (tTest (tOp (rI0 fun i j => .bl (decide (i ≤ j))) (tOp (rIxT K) (tVar 6) (tC (.int 2))) (tVar 3))))) rfl sc_surplus.nd rfl rfl (sw_true rfl rfl rfl (by decide +kernel)) (pi_list (pv 0)) (blkOk_by (N := ["_law_workings", "_law_place", "_law_gap", "_law_moment", "_law_left", "_law_ready", "_law_row"]) (sc := defScope s_surplus) (by decide +kernel)) (fun _ _ _ _ _ => pg_name (i := 6) sc_surplus.nd rfl (Or.inl rfl)) (fun _ _ _ _ _ => pts_one (PW.pt (pw_and (pt_cmpR op_eq (pe_ix ix_tup (pv 6) pe_int (fun _ _ => rfl)) (pv 1) (nomark _)) (pw_and1 (pt_cmpR op_le (pe_ix ix_tup (pv 6) pe_int (fun _ _ => rfl)) (pv 3) (nomark _)))))) (fun _ _ _ _ _ => (pv 6)))
 (pss_cons (ps_setLc (i := 5) (own := [("_law_row", 6)]) (g := (gName 6)) (tt := (tAnd (tTest (tOp rEq (tOp (rIxT K) (tVar 6) (tC (.int 1))) (tVar 1))) (tTest (tOp (rI0 fun i j => .bl (decide (i ≤ j))) (tOp (rI0 fun i j => .int (i + j)) (tOp (rIxT K) (tVar 6) (tC (.int 3))) (tVar 2)) (tVar 3))))) rfl sc_surplus.nd rfl rfl (sw_true rfl rfl rfl (by decide +kernel)) (pi_list (pv 0)) (blkOk_by (N := ["_law_workings", "_law_place", "_law_gap", "_law_moment", "_law_left", "_law_ready", "_law_row"]) (sc := defScope s_surplus) (by decide +kernel)) (fun _ _ _ _ _ => pg_name (i := 6) sc_surplus.nd rfl (Or.inl rfl)) (fun _ _ _ _ _ => pts_one (PW.pt (pw_and (pt_cmpR op_eq (pe_ix ix_tup (pv 6) pe_int (fun _ _ => rfl)) (pv 1) (nomark _)) (pw_and1 (pt_cmpR op_le (pe_op op_add (pe_ix ix_tup (pv 6) pe_int (fun _ _ => rfl)) (pv 2)) (pv 3) (nomark _)))))) (fun _ _ _ _ _ => (pv 6)))
 (pss_one (ps_ret (pe_op op_sub (pe_callB call_len_seq (by rfl) m_len PySem.boot_len (pa_cons (pv 4) pa_nil)) (pe_callB call_len_seq (by rfl) m_len PySem.boot_len (pa_cons (pv 5) pa_nil))))))), ?_⟩
    obtain ⟨xs, hs, hx, hlen, _⟩ := wk_at hd
    refine st_asg (P := LS K ((leftN p ws m).map dW)) hG (el_filA (xs := xs) ((ex_var (v := .ref a) rfl).imp fun v G' e p => ⟨a, p, Evl.ex_l e hs⟩) hx (by omega) (fun x => rfl) (fun x => rfl) fun x v G' e _ dv => et_andD (et_eqI (ex_wk (k := 0) (ex_var rfl) dv ex_c rfl) (ex_var rfl)) fun _ => et_leI (ex_wk (k := 2) (ex_var rfl) dv ex_c rfl) (ex_var rfl)) fun v4 G4 H4 g4 p4 => ?_
    obtain ⟨l4, xs4, rfl, hl4, hx4⟩ := p4
    dsimp only
    refine st_asg (P := LS K ((readyN p gap ws m).map dW)) g4.ok (el_filA (xs := xs) ((ex_var (v := .ref a) rfl).imp fun v G' e p => ⟨a, p, Evl.ex_l (g4.up.trans e) hs⟩) (dpax hx g4.up) (by omega) (fun x => rfl) (fun x => rfl) fun x v G' e _ dv => et_andD (et_eqI (ex_wk (k := 1) (ex_var rfl) dv ex_c rfl) (ex_var rfl)) fun _ => et_leI (ex_add (ex_wk (k := 3) (ex_var rfl) dv ex_c rfl) (ex_var rfl)) (ex_var rfl)) fun v5 G5 H5 g5 p5 => ?_
    obtain ⟨l5, xs5, rfl, hl5, hx5⟩ := p5
    dsimp only
    have gA := g4.trans g5
    refine st_ret (P := XV (.int (sm (evs gap p ws) m))) g5.ok ((ex_sub (ex_lenL (ex_var (v := .ref l4) rfl) (Evl.sq_of (g5.up _ _ hl4))) (ex_lenL (ex_var (v := .ref l5) rfl) (Evl.sq_of hl5))).imp fun v G' _ pv => ?_) fun v G' H' g p => k v G' H' (gA.trans g) p
    rw [show v = _ from pv, dpa_len hx4, dpa_len hx5, List.length_map, List.length_map, surplus_eq]
    rfl
theorem ok_isp (B : Blt mg) (F : Fun K "_law_is_pair" "_law_is_pair" s_is_pair f fd) : FnOk P w K mg base CX0 1 f fd ["_law_actual"] (spIsP K) := by
  have m_len := B.len
  have m_int := B.int
  have m_bool := B.bool
  have m_tuple := B.tuple
  have m_isinstance := B.isinstance
  refine F.ok sc_is_pair (fun vs H Q E h => ?_) (fun cdv A outer s H vs Q E hr h => ?_)
  · obtain ⟨G, x, p, _, rfl, _⟩ := h
    rfl
  · obtain ⟨G, x, p, hG, rfl, hx, k⟩ := h
    refine ⟨_, (pss_cons (ps_if (PW.pt (pw_or (pt_not (pt_val (pe_callB call_isi (by rfl) m_isinstance (by decide +kernel) (pa_cons (pv 0) (pa_cons (pe_bltn (v := .ty "tuple") (u := .type "tuple") rfl m_tuple (by decide +kernel) rfl) pa_nil))))) (pw_or1 (pt_cmpR op_ne (pe_callB call_len_seq (by rfl) m_len PySem.boot_len (pa_cons (pv 0) pa_nil)) pe_int (nomark _)))))
 (pss_one (ps_ret pe_bl)) pss_nil)
 (pss_cons (ps_for PassesOwn.never rfl (pi_tup (pv 0)) (pg_name (i := 1) sc_is_pair.nd rfl (by first | exact Or.inl rfl | exact Or.inr rfl))
 (pss_one (ps_if (PW.pt (pw_or (pt_not (pt_val (pe_callB call_isi (by rfl) m_isinstance (by decide +kernel) (pa_cons (pv 1) (pa_cons (pe_bltn (v := .ty "int") (u := .type "int") rfl m_int (by decide +kernel) rfl) pa_nil))))) (pw_or1 (pt_val (pe_callB call_isi (by rfl) m_isinstance (by decide +kernel) (pa_cons (pv 1) (pa_cons (pe_bltn (v := .ty "bool") (u := .type "bool") rfl m_bool (by decide +kernel) rfl) pa_nil)))))))
 (pss_one (ps_ret pe_bl)) pss_nil)))
 (pss_one (ps_ret pe_bl)))), ?_⟩
    obtain ⟨b, rfl, hb⟩ := dp_P hx
    refine st_if0 hG (et_or (p := (· = false)) (q := (· = false)) (s := (· = false)) (et_not (et_B (EF.bl (ex_isi (d := dP p) (k := .t) (c := "tuple") (r := true) (ex_var (v := .ref b) rfl) ex_c hx rfl rfl) rfl))) (fun _ => (et_neI (ex_lenA (ex_var (v := .ref b) rfl) ⟨b, rfl, .inr hb⟩) (ex_c (v := .int 2))).imp fun c hc => by rw [hc]; rfl) (fun z => nomatch z) fun _ c hc => hc) fun H2 e2 => ?_
    refine st_forT (a := b) (xs := [.int p.1, .int p.2]) (hG.trans e2) (ex_var (v := .ref b) rfl) hb (fun i σ' H' => Ex H2 H' ∧ ∃ v1, σ' = [some (.ref b), v1]) (fun H' e => ⟨e, _, rfl⟩) (fun i σ' H' hw => hG.trans (e2.trans hw.1)) (fun i z σ' H' hi hw => ?_) (fun σ' H' hw => ?_)
    · obtain ⟨e, v1, rfl⟩ := hw
      obtain ⟨n, rfl⟩ : ∃ n : Int, z = .int n := by
        match i, hi with
        | 0, hi => cases hi; exact ⟨_, rfl⟩
        | 1, hi => cases hi; exact ⟨_, rfl⟩
      exact st_if0 (hG.trans (e2.trans e)) (et_or (p := (· = false)) (q := (· = false)) (s := (· = false)) (et_not (et_B (EF.bl (ex_isi (d := .int n) (k := .i) (c := "int") (r := true) (ex_var (v := .int n) rfl) ex_c (.int n) rfl rfl) rfl))) (fun _ => et_B (EF.bl (ex_isi (d := .int n) (k := .i) (c := "bool") (r := false) (ex_var (v := .int n) rfl) ex_c (.int n) rfl rfl) rfl)) (fun z => nomatch z) fun _ c hc => hc) fun H3 e3 => ⟨e.trans e3, _, rfl⟩
    · obtain ⟨e, v1, rfl⟩ := hw
      dsimp only
      refine st_ret (σ := [some (.ref b), v1]) (P := XV (.bl true)) (hG.trans (e2.trans e)) ex_c (fun v G' H' g pv => ?_)
      exact k v G' H' ((Gr.same hG (e2.trans e)).trans g) pv
theorem ok_isr (B : Blt mg) (F : Fun K "_law_is_run" "_law_is_run" s_is_run f fd) (Cg : Cal P w K mg base "_law_goes_on" 1 ["_law_workings", "_law_first", "_law_second", "_law_gap"] (spMay K)) (Cp : Cal P w K mg base "_law_is_pair" 1 ["_law_actual"] (spIsP K)) : FnOk P w K mg base CX0 2 f fd ["_law_workings", "_law_links", "_law_gap"] (spIsR K) := by
  obtain ⟨f1, fd1, G_goes_on, m_goes_on, k_goes_on, b_goes_on⟩ := Cg
  obtain ⟨f2, fd2, G_is_pair, m_is_pair, k_is_pair, b_is_pair⟩ := Cp
  have m_len := B.len
  have m_list := B.list
  have m_range := B.range
  have m_isinstance := B.isinstance
  refine F.ok sc_is_run (fun vs H Q E h => ?_) (fun cdv A outer s H vs Q E hr h => ?_)
  · obtain ⟨G, a, b, ws, ls, gap, _, rfl, _⟩ := h
    rfl
  · obtain ⟨G, a, b, ws, ls, gap, hG, rfl, hd, dl, hl, hll, hf, hsrt, k⟩ := h
    refine ⟨_, (pss_cons (ps_if (PW.pt (pw_or (pt_not (pt_val (pe_callB call_isi (by rfl) m_isinstance (by decide +kernel) (pa_cons (pv 1) (pa_cons (pe_bltn (v := .ty "list") (u := .type "list") rfl m_list (by decide +kernel) rfl) pa_nil))))) (pw_or1 (pt_cmpR op_gt (pe_callB call_len_seq (by rfl) m_len PySem.boot_len (pa_cons (pv 1) pa_nil)) (pe_callB call_len_seq (by rfl) m_len PySem.boot_len (pa_cons (pv 0) pa_nil)) (nomark _)))))
 (pss_one (ps_ret pe_bl)) pss_nil)
 (pss_cons (ps_for PassesOwn.never rfl (pi_range1 rfl m_range (pa_cons (pe_callB call_len_seq (by rfl) m_len PySem.boot_len (pa_cons (pv 1) pa_nil)) pa_nil)) (pg_name (i := 3) sc_is_run.nd rfl (by first | exact Or.inl rfl | exact Or.inr rfl))
 (pss_cons (ps_if (PW.pt (pw_or (pt_not (pt_val (pe_call G_is_pair (hr.mono (by decide)) rfl m_is_pair k_is_pair b_is_pair .nil pass0 (pa_cons (pe_ix ix_list (pv 1) (pv 3) (fun _ _ => rfl)) pa_nil)))) (pw_or1 (pt_not (pt_val (pe_call G_goes_on (hr.mono (by decide)) rfl m_goes_on k_goes_on b_goes_on .nil pass0 (pa_cons (pv 0) (pa_cons (pe_ix ix_tup (pe_ix ix_list (pv 1) (pv 3) (fun _ _ => rfl)) pe_int (fun _ _ => rfl)) (pa_cons (pe_ix ix_tup (pe_ix ix_list (pv 1) (pv 3) (fun _ _ => rfl)) pe_int (fun _ _ => rfl)) (pa_cons (pv 2) pa_nil))))))))))
 (pss_one (ps_ret pe_bl)) pss_nil)
 (pss_one (ps_for PassesOwn.never rfl (pi_list (pe_slice sl_list (pv 1) po_none (po_some (pv 3)))) (pg_name (i := 4) sc_is_run.nd rfl (by first | exact Or.inl rfl | exact Or.inr rfl))
 (pss_one (ps_if (PW.pt (pw_or (pt_cmpR op_eq (pe_ix ix_tup (pv 4) pe_int (fun _ _ => rfl)) (pe_ix ix_tup (pe_ix ix_list (pv 1) (pv 3) (fun _ _ => rfl)) pe_int (fun _ _ => rfl)) (nomark _)) (pw_or (pt_cmpR op_eq (pe_ix ix_tup (pv 4) pe_int (fun _ _ => rfl)) (pe_ix ix_tup (pe_ix ix_list (pv 1) (pv 3) (fun _ _ => rfl)) pe_int (fun _ _ => rfl)) (nomark _)) (pw_or1 (pt_cmpR (op_geT (hu0 hr)) (pv 4) (pe_ix ix_list (pv 1) (pv 3) (fun _ _ => rfl)) (nomark _))))))
 (pss_one (ps_ret pe_bl)) pss_nil))))))
 (pss_one (ps_ret pe_bl)))), ?_⟩
    obtain ⟨b', xs, e, hs, hx⟩ := dp_lst dl
    cases e
    have xl : xs.length = ls.length := by have := dpa_len hx; rw [List.length_map] at this; exact this
    have hfit := fits_iff.mp hf
    have atp : ∀ {σ : L2.St} {G' : Hp} {i : Nat} {p : Int × Int}, Ex G G' → σ[1]? = some (some (.ref b)) → σ[3]? = some (some (.int (i : Int))) → ls[i]? = some p → EF (tOp (rIxL K) (tVar 1) (tVar 3)) σ G' (DV K (dP p)) := fun {σ G' i p} e h1 h3 hp => by
      obtain ⟨y, hy, dy⟩ := dpa_get' (i := i) (d := dP p) hx (by rw [List.getElem?_map, hp]; rfl)
      exact EF.dv (ex_ixL (ex_var h1) (ex_var h3) rfl (Evl.ex_l e hs) hy) (dpx dy e)
    have at' : ∀ {σ : L2.St} {G' : Hp} {i j : Nat} {p : Int × Int} {z : Int}, Ex G G' → σ[1]? = some (some (.ref b)) → σ[3]? = some (some (.int (i : Int))) → ls[i]? = some p → ([PyData.int p.1, .int p.2])[j]? = some (.int z) → EF (tOp (rIxT K) (tOp (rIxL K) (tVar 1) (tVar 3)) (tC (.int (j : Int)))) σ G' (XV (.int z)) := fun {σ G' i j p z} e h1 h3 hp hz => by
      obtain ⟨y, hy, dy⟩ := dpa_get' (i := i) (d := dP p) hx (by rw [List.getElem?_map, hp]; rfl)
      exact ei_pair (ex_ixL (ex_var h1) (ex_var h3) rfl (Evl.ex_l e hs) hy) (dpx dy e) ex_c hz
    refine st_if0 hG (et_or (p := (· = false)) (q := (· = false)) (s := (· = false)) (et_not (et_B (EF.bl (ex_isi (d := dPs ls) (k := .l) (c := "list") (r := true) (ex_var (v := .ref b) rfl) ex_c dl rfl rfl) rfl))) (fun _ => (et_gtI (ex_lenL (ex_var (v := .ref b) rfl) hs) (ex_lenD (ds := ws.map dW) (EF.dv (ex_var (v := .ref a) rfl) hd))).imp fun c hc => by rw [hc, List.length_map, xl]; exact decide_eq_false (by omega)) (fun z => nomatch z) fun _ c hc => hc) fun H0 e0 => ?_
    refine st_forR1 (n := (ls.length : Int)) (hG.trans e0) ((ea_one (ex_lenL (ex_var (v := .ref b) rfl) hs)).imp fun vs G' _ ⟨x, ev, hx'⟩ => by rw [ev, show x = _ from hx', xl]) (by omega) (by omega) (fun i σ' H' => Ex H H' ∧ ∃ v3 v4, σ' = [some (.ref a), some (.ref b), some (.int gap), v3, v4]) (fun H' e => ⟨e0.trans e, _, _, rfl⟩) (fun i σ' H' hi hw => ?_) (fun σ' H' hw => ?_)
    · obtain ⟨e, v3, v4, rfl⟩ := hw
      have hil : i < ls.length := by omega
      obtain ⟨p, hp⟩ : ∃ p, ls[i]? = some p := ⟨_, List.getElem?_eq_getElem hil⟩
      obtain ⟨hg, hoth⟩ := hfit i p hp
      refine st_if0 (hG.trans e) (et_or (p := (· = false)) (q := (· = false)) (s := (· = false)) (et_not (et_B (EF.bl (ef_call (P := XV (.bl true)) (ea_one (atp (Ex.refl G) rfl rfl hp)) fun vs G' e' ⟨x, ev, hx'⟩ => by rw [ev]; exact sa_isP hx') rfl))) (fun _ => et_not (et_B (EF.bl (ex_call4 (ex_var (v := .ref a) rfl) (at' (j := 0) (Ex.refl G) rfl rfl hp rfl) (at' (j := 1) (Ex.refl G) rfl rfl hp rfl) (ex_var (v := .int gap) rfl) fun G' e' => sa_may (dpx hd e') hl) (by rw [hg]; rfl)))) (fun z => nomatch z) fun _ c hc => hc) fun H2 e2 => ?_
      refine st_forE (ds := (ls.map dP).take i) (hG.trans (e.trans e2)) ((el_to (k := i) (EF.dv (ex_var (v := .ref b) rfl) dl) (ex_var rfl)).ls_dv) fun G3 H3 c ys g3 hys hdy => ⟨fun j σ' H' => Ex H3 H' ∧ ∃ v4, σ' = [some (.ref a), some (.ref b), some (.int gap), some (.int (i : Int)), v4], ⟨Ex.refl _, _, rfl⟩, fun j σ' H' hw => g3.ok.trans hw.1, fun j y σ' H' hj hw => ?_, fun σ' H' hw => ?_⟩
      · obtain ⟨e4, v4', rfl⟩ := hw
        obtain ⟨dd, hd1, dy⟩ := dpa_get hdy hj
        have hji : j < i := by
          have := (List.getElem?_eq_some_iff.mp hd1).1
          rw [List.length_take] at this
          omega
        rw [List.getElem?_take_of_lt hji, List.getElem?_map] at hd1
        obtain ⟨o, ho, rfl⟩ := Option.map_eq_some_iff.mp hd1
        obtain ⟨ne1, ne2⟩ := hoth j o hji ho
        have hle : lexLe o p := by
          obtain ⟨hi', rfl⟩ := List.getElem?_eq_some_iff.mp hp
          obtain ⟨hj', rfl⟩ := List.getElem?_eq_some_iff.mp ho
          exact List.pairwise_iff_getElem.mp hsrt j i hj' hi' hji
        exact st_if0 (g3.ok.trans e4) (et_or (p := (· = false)) (q := (· = false)) (s := (· = false)) ((et_eqI (ei_pair (i := 0) (ex_var rfl) dy ex_c rfl) (at' (j := 0) g3.up rfl rfl hp rfl)).imp fun c hc => by rw [hc]; exact decide_eq_false ne1) (fun _ => et_or (p := (· = false)) (q := (· = false)) (s := (· = false)) ((et_eqI (ei_pair (i := 1) (ex_var rfl) dy ex_c rfl) (at' (j := 1) g3.up rfl rfl hp rfl)).imp fun c hc => by rw [hc]; exact decide_eq_false ne2) (fun _ => et_geP (EF.dv (ex_var rfl) dy) (atp g3.up rfl rfl hp) ⟨hle, fun z => ne1 (by rw [z])⟩) (fun z => nomatch z) fun _ c hc => hc) (fun z => nomatch z) fun _ c hc => hc) fun H5 e5 => ⟨e4.trans e5, _, rfl⟩
      · obtain ⟨e4, v4', rfl⟩ := hw
        exact ⟨e.trans (e2.trans (g3.hp.trans e4)), _, _, rfl⟩
    · obtain ⟨e, v3, v4, rfl⟩ := hw
      dsimp only
      refine st_ret (σ := [some (.ref a), some (.ref b), some (.int gap), v3, v4]) (P := XV (.bl true)) (hG.trans e) ex_c (fun v G' H3 g pv => ?_)
      exact k v G' H3 ((Gr.same hG e).trans g) pv
theorem ok_new (B : Blt mg) (F : Fun K "_law_new_sets" "_law_new_sets" s_new_sets f fd) : FnOk P w K mg base CX0 1 f fd ["_law_workings", "_law_links", "_law_place"] (spNew K) := by
  have m_len := B.len
  have m_range := B.range
  refine F.ok sc_new_sets (fun vs H Q E h => ?_) (fun cdv A outer s H vs Q E hr h => ?_)
  · obtain ⟨G, a, b, ws, ls, p, _, rfl, _⟩ := h
    rfl
  · obtain ⟨G, a, b, ws, ls, p, hG, rfl, hd, dl, hl, hll, k⟩ := h
    refine ⟨_, (pss_cons (ps_set (i := 3) sc_new_sets.nd rfl (by first | exact Or.inl rfl | exact Or.inr rfl) (pe_lc (own := [("_law_pair", 4)]) (g := (gName 4)) (tt := tYes) (te := (tOp (rIxT K) (tVar 4) (tC (.int 1)))) rfl sc_new_sets.nd (pi_list (pv 1)) (blkOk_by (N := ["_law_workings", "_law_links", "_law_place", "_law_seconds", "_law_pair", "_law_k"]) (sc := defScope s_new_sets) (by decide +kernel)) (fun _ _ _ _ _ => pg_name (i := 4) sc_new_sets.nd rfl (Or.inl rfl)) (fun _ _ _ _ _ => pts_nil) (fun _ _ _ _ _ => (pe_ix ix_tup (pv 4) pe_int (fun _ _ => rfl)))))
 (pss_one (ps_ret (pe_callB call_len_seq (by rfl) m_len PySem.boot_len (pa_cons (pe_lc (own := [("_law_k", 5)]) (g := (gName 5)) (tt := (tAnd (tTest (tOp rEq (tOp (rIxT K) (tOp (rIxL K) (tVar 0) (tVar 5)) (tC (.int 0))) (tVar 2))) (tTest (tOp (rNotInD K) (tVar 5) (tVar 3))))) rfl sc_new_sets.nd (pi_range1 rfl m_range (pa_cons (pe_callB call_len_seq (by rfl) m_len PySem.boot_len (pa_cons (pv 0) pa_nil)) pa_nil)) (blkOk_by (N := ["_law_workings", "_law_links", "_law_place", "_law_seconds", "_law_pair", "_law_k"]) (sc := defScope s_new_sets) (by decide +kernel)) (fun _ _ _ _ _ => pg_name (i := 5) sc_new_sets.nd rfl (Or.inl rfl)) (fun _ _ _ _ _ => pts_one (PW.pt (pw_and (pt_cmpR op_eq (pe_ix ix_tup (pe_ix ix_list (pv 0) (pv 5) (fun _ _ => rfl)) pe_int (fun _ _ => rfl)) (pv 2) (nomark _)) (pw_and1 (pt_cmpR (op_notInD (hu65 hr)) (pv 5) (pv 3) (by rfl)))))) (fun _ _ _ _ _ => (pv 5))) pa_nil))))), ?_⟩
    obtain ⟨b', xs, e, hs, hx⟩ := dp_lst dl
    cases e
    have wkn : ∀ n, n < ws.length → ws[n]? = some (wk ws n) := fun n hn => by rw [wk_get (List.getElem?_eq_getElem hn)]; exact List.getElem?_eq_getElem hn
    refine st_asg (P := LS K ((ls.map (·.2)).map PyData.int)) hG (EF.imp (P := LS K (ls.map (fun q : Int × Int => PyData.int q.2))) (el_mapA (α := Int × Int) (l := ls) (j := 4) (f := dP) (g := fun q : Int × Int => PyData.int q.2) ((ex_var (v := .ref b) rfl).imp fun v G' e p => ⟨b, p, Evl.ex_l e hs⟩) hx (by omega) (fun _ => rfl) fun x q G' e _ dq => EF.dv (ei_pair (i := 1) (ex_var rfl) dq ex_c rfl) (.int _)) fun v _ _ p => by rw [List.map_map]; exact p) fun v3 G1 H1 g1 ⟨l3, x3', e3, hl3, hx3⟩ => ?_
    subst e3
    have d3 : Dp K G1 (.ref l3) (dI (ls.map (·.2))) := dp_mkL hl3 hx3
    dsimp only
    refine st_ret (P := XV (.int ((newS ws ls p).length : Nat))) g1.ok ((ex_lenD (ds := (newS ws ls p).map fun i : Nat => PyData.int (i : Int)) (EF.ls_dv (el_filR (n := ws.length) (p := fun k : Nat => decide ((wk ws k).1 = p) && !decide ((k : Int) ∈ ls.map (·.2))) (g := fun i : Nat => PyData.int (i : Int)) ((ea_one (P := XV (.int (ws.length : Int))) ((ex_lenD (ds := ws.map dW) (EF.dv (ex_var (v := .ref a) rfl) (dpx hd g1.up))).imp fun v _ _ p => by rw [show v = _ from p, List.length_map]; rfl)).imp fun us G' _ ⟨x, ev, hx⟩ => by rw [ev, show x = V.int (ws.length : Int) from hx]) (by omega) (fun _ => rfl) (fun i G' e hi => et_andB (et_eqI (ex_wki (k := 0) (ex_var (v := .ref a) rfl) (dpx hd (g1.up.trans e)) (ex_var rfl) (wkn i hi) ex_c rfl) (ex_var rfl)) (et_niI (ex_var rfl) (EF.dv (ex_var (v := .ref l3) rfl) (dpx d3 e)))) fun i G' e hi => EF.dv (ex_var rfl) (.int _)))).imp fun v _ _ pv => by rw [show v = _ from pv, List.length_map]; rfl) fun v G' H' g pv => k v G' H' (g1.trans g) pv
end
end Kx

set_option Elab.async false
set_option linter.all false
set_option maxRecDepth 100000
set_option maxHeartbeats 4000000
/-! calls with a keyword; fewest sets: the rest -/
namespace Lw
open PySem PySem.Spec L2
open Evl (Ex)
/-- x is not c, x being c -/
def rNotC (c : Bool) : R2 := fun x y H Q => x = .bl c ∧ y = .bl c ∧ Q (.bl false) H
theorem op_notC {X : Cx} {c : Bool} : OpR X (compareOp .IsNot) (rNotC c) := by
  intro pins s σ H x y v u Q I rx ry h
  obtain ⟨rfl, rfl, q⟩ := h
  cases (show u = Value.bool c from ry)
  cases (show v = Value.bool c from rx)
  exact wpAny_isNot_self rfl ⟨.bl false, H, I, rfl, q⟩
section
variable {K : PySem.W.Frag} {σ : L2.St} {G G' H H1 : Hp} {P : VP} {ta te tl : TE} {t : TT}
theorem ef_callK {sp : Sp} {gV : List V → List V → List V} {E : XK} {t tk : TA} {us ws : List V} (h : EA t σ G fun vs _ => vs = us) (hk : EA tk σ G fun vs _ => vs = ws) (hr : ∀ G', Ex G G' → SA sp (gV us ws) G' P) : EF (tCallK sp gV E t tk) σ G P := fun H e Q q =>
  h H e _ fun vs G1 H1 g1 p1 => hk H1 (g1.up.trans g1.ok) _ fun zs G2 H2 g2 p2 => by
    subst p1 p2
    obtain ⟨G3, f1, f2, g3⟩ := g1.join g2
    exact hr G3 g3.up H2 g3.ok Q E fun v G4 H4 g4 p4 => q v G4 H4 (g3.trans g4) p4
theorem et_notC {c : Bool} {tb : TE} (ha : EF ta σ G (XV (.bl c))) (hb : EF tb σ G (XV (.bl c))) : ET (tTest (tOp (rNotC c) ta tb)) σ G (· = false) := et_test (ef_op (P := BV (· = false)) mo_XV mo_XV ha hb fun x y G' _ hx hy => by
  cases (show x = .bl c from hx)
  cases (show y = .bl c from hy)
  exact fun H e Q k => ⟨rfl, rfl, k _ G' H (.refl e) ⟨_, rfl, rfl⟩⟩)
def DayS (K : PySem.W.Frag) : VP := fun v G' => ∃ (q lp lw : Addr) (ps : List Int) (ws : List Wk) (t : Int), v = .ref q ∧ SqT K G' q [.ref lp, .ref lw, .int t] ∧ G' lp = some (.lst (ps.map V.int)) ∧ Dp K G' (.ref lw) (dWs ws) ∧ ps.Pairwise (· < ·) ∧ 1 ≤ ps.length ∧ ps.length ≤ 4 ∧ (∀ v ∈ ws, WkS ps v) ∧ 1 ≤ ws.length ∧ ws.length ≤ 101
def spDayS (K : PySem.W.Frag) : Sp := fun vs H Q _ => ∃ (G : Hp) (a : Addr) (ns : List Int), Ex G H ∧ vs = [.ref a] ∧ SqL K G a (ns.map V.int) ∧ ns.length ≤ 63 ∧ Ret G H (DayS K) Q
theorem sa_dayS {a : Addr} {ns : List Int} (hs : SqL K G a (ns.map V.int)) (hn : ns.length ≤ 63) : SA (spDayS K) [.ref a] G (DayS K) := fun H e Q _ q => ⟨G, a, ns, e, rfl, hs, hn, q⟩
end
end Lw

set_option Elab.async false
set_option linter.all false
set_option maxRecDepth 100000
set_option maxHeartbeats 8000000
namespace Kx
open PySem L2 Lw
open Evl (Ex)
abbrev s_other_links : Stmt := top 24
theorem sc_other_links : FnScope ["_law_workings", "_law_gap", "_law_script", "_law_links", "_law_used", "_law_second", "_law_free", "_law_at", "_law_x"] ["_law_workings", "_law_gap", "_law_script"] (defScope s_other_links) := ⟨rfl, rfl, rfl, by decide +kernel, rfl, by decide +kernel, by decide +kernel⟩
abbrev s_is_deficit : Stmt := top 27
theorem sc_is_deficit : FnScope ["_law_workings", "_law_place", "_law_gap", "_law_told_here", "_law_number", "_law_row", "_law_surplus_here"] ["_law_workings", "_law_place", "_law_gap", "_law_told_here", "_law_number"] (defScope s_is_deficit) := ⟨rfl, rfl, rfl, by decide +kernel, rfl, by decide +kernel, by decide +kernel⟩
abbrev s_told : Stmt := top 28
theorem sc_told : FnScope ["_law_workings", "_law_links", "_law_place", "_law_turn_time", "_law_rows", "_law_sets", "_law_pair"] ["_law_workings", "_law_links", "_law_place", "_law_turn_time"] (defScope s_told) := ⟨rfl, rfl, rfl, by decide +kernel, rfl, by decide +kernel, by decide +kernel⟩
def ggD (us ws : List Value) : List Value := match us, ws with | [x, y], [z] => [x, y, z] | _, _ => []
def gVD (us ws : List V) : List V := match us, ws with | [x, y], [z] => [x, y, z] | _, _ => []
def ggL (us ws : List Value) : List Value := match us, ws with | [x], [z] => [x, z] | _, _ => []
def gVL (us ws : List V) : List V := match us, ws with | [x], [z] => [x, z] | _, _ => []
section
variable {P : Program} {w : World} {K : PySem.W.Frag} {mg : Str → Option Value} {base : Heap} {f : Addr} {fd : FuncData}
theorem ok_oth (B : Blt mg) (F : Fun K "_law_other_links" "_law_other_links" s_other_links f fd) (Cc : Cal P w K mg base "_law_cell" 1 ["_law_script", "_law_k"] (Lw.spCell K)) (Cd : Cal P w K mg base "_law_draw" 1 ["_law_cell_here", "_law_k", "_law_size"] spDraw) (Cg : Cal P w K mg base "_law_goes_on" 1 ["_law_workings", "_law_first", "_law_second", "_law_gap"] (spMay K)) : FnOk P w K mg base CX0 2 f fd ["_law_workings", "_law_gap", "_law_script"] (spOthL K) := by
  obtain ⟨f0, fd0, G_cell, m_cell, k_cell, b_cell⟩ := Cc
  obtain ⟨f1, fd1, G_draw, m_draw, k_draw, b_draw⟩ := Cd
  obtain ⟨f2, fd2, G_goes_on, m_goes_on, k_goes_on, b_goes_on⟩ := Cg
  have m_len := B.len
  have m_range := B.range
  refine F.ok sc_other_links (fun vs H Q E h => ?_) (fun cdv A outer s H vs Q E hr h => ?_)
  · obtain ⟨G, a, s, ws, ns, gap, _, rfl, _⟩ := h
    rfl
  · obtain ⟨G, a, sc, ws, ns, gap, hG, rfl, hd, hl, hs, hn, k⟩ := h
    refine ⟨_, (pss_cons (ps_set (i := 3) sc_other_links.nd rfl (by first | exact Or.inl rfl | exact Or.inr rfl) (pe_lst pa_nil))
 (pss_cons (ps_set (i := 4) sc_other_links.nd rfl (by first | exact Or.inl rfl | exact Or.inr rfl) (pe_lst pa_nil))
 (pss_cons (ps_for PassesOwn.never rfl (pi_range1 rfl m_range (pa_cons (pe_callB call_len_seq (by rfl) m_len PySem.boot_len (pa_cons (pv 0) pa_nil)) pa_nil)) (pg_name (i := 5) sc_other_links.nd rfl (by first | exact Or.inl rfl | exact Or.inr rfl))
 (pss_cons (ps_setLc (i := 6) (own := [("_law_x", 8)]) (g := (gName 8)) (tt := (tAnd (tB (tCall (spMay K) [] E0 (tCons (tVar 0) (tCons (tVar 8) (tCons (tVar 5) (tCons (tVar 1) tNil)))))) (tTest (tOp (rNotInD K) (tVar 8) (tVar 4))))) rfl sc_other_links.nd rfl rfl (sw_true rfl rfl rfl (by decide +kernel)) (pi_range1 rfl m_range (pa_cons (pe_callB call_len_seq (by rfl) m_len PySem.boot_len (pa_cons (pv 0) pa_nil)) pa_nil)) (blkOk_by (N := ["_law_workings", "_law_gap", "_law_script", "_law_links", "_law_used", "_law_second", "_law_free", "_law_at", "_law_x"]) (sc := defScope s_other_links) (by decide +kernel)) (fun _ _ _ _ _ => pg_name (i := 8) sc_other_links.nd rfl (Or.inl rfl)) (fun _ _ _ _ _ => pts_one (PW.pt (pw_and (pt_val (pe_call G_goes_on (hr.mono (by decide)) rfl m_goes_on k_goes_on b_goes_on .nil pass0 (pa_cons (pv 0) (pa_cons (pv 8) (pa_cons (pv 5) (pa_cons (pv 1) pa_nil)))))) (pw_and1 (pt_cmpR (op_notInD (hu65 hr)) (pv 8) (pv 4) (by rfl)))))) (fun _ _ _ _ _ => (pv 8)))
 (pss_cons (ps_set (i := 7) sc_other_links.nd rfl (by first | exact Or.inl rfl | exact Or.inr rfl) (pe_call G_draw (hr.mono (by decide)) rfl m_draw k_draw b_draw .nil pass0 (pa_cons (pe_call G_cell (hr.mono (by decide)) rfl m_cell k_cell b_cell .nil pass0 (pa_cons (pv 2) (pa_cons (pe_op op_add pe_int (pv 5)) pa_nil))) (pa_cons pe_int (pa_cons (pe_op op_add (pe_callB call_len_seq (by rfl) m_len PySem.boot_len (pa_cons (pv 6) pa_nil)) pe_int) pa_nil)))))
 (pss_one (ps_if (pt_cmpR op_lt (pv 7) (pe_callB call_len_seq (by rfl) m_len PySem.boot_len (pa_cons (pv 6) pa_nil)) (nomark _))
 (pss_cons (ps_expr (pe_bm PySem.F.plainAttrs_list PySem.F.slot_list_append PySem.F.type_list_append mt_append (pv 4) (pa_cons (pe_ix ix_list (pv 6) (pv 7) (fun _ _ => rfl)) pa_nil)))
 (pss_one (ps_expr (pe_bm PySem.F.plainAttrs_list PySem.F.slot_list_append PySem.F.type_list_append mt_append (pv 3) (pa_cons (pe_tup (pa_cons (pe_ix ix_list (pv 6) (pv 7) (fun _ _ => rfl)) (pa_cons (pv 5) pa_nil))) pa_nil))))) pss_nil)))))
 (pss_one (ps_ret (pv 3)))))), ?_⟩
    have len : ∀ {σ : L2.St} {G' : Hp}, Ex G G' → σ[0]? = some (some (.ref a)) → EA (tCons (tCB (Evl.rLenS K) (tCons (tVar 0) tNil)) tNil) σ G' fun us _ => us = [.int (ws.length : Int)] := fun e h => (ea_one (P := XV (.int (ws.length : Int))) ((ex_lenD (ds := ws.map dW) (EF.dv (ex_var h) (dpx hd e))).imp fun v _ _ p => by rw [show v = _ from p, List.length_map]; rfl)).imp fun us G' _ ⟨x, ev, hx⟩ => by rw [ev, show x = V.int (ws.length : Int) from hx]
    refine ⟨by decide, fun l hl0 => ?_⟩
    dsimp only
    refine ⟨by decide, fun u hu0 => ?_⟩
    dsimp only
    have hlu : l ≠ u := fun z => by rw [← z, upd_same] at hu0; cases hu0
    have hu1 : H u = none := by rw [upd_ne hlu.symm] at hu0; exact hu0
    have gl : G l = none := none_back hG hl0
    have gu : G u = none := none_back hG hu1
    have hG1 : Ex G (upd (upd H l (.lst [])) u (.lst [])) := ex_off (ex_off hG gl) gu
    refine st_forR1 (n := (ws.length : Int)) hG1 (len (Ex.refl G) rfl) (by omega) (by omega) (fun i σ' H' => (∃ (G' : Hp) (vl : List V) (st : List Int × List (Int × Int)), Gr G G' H H' ∧ G' l = none ∧ G' u = none ∧ H' l = some (.lst vl) ∧ DpAll K G' vl (st.2.map dP) ∧ H' u = some (.lst (st.1.map V.int)) ∧ LinOk ws gap (· < (i : Int)) st ∧ st.1.length ≤ i ∧ st.2.length ≤ i) ∧ ∃ v5 v6 v7, σ' = [some (.ref a), some (.int gap), some (.ref sc), some (.ref l), some (.ref u), v5, v6, v7, none]) (fun H' e => ?_) (fun i σ' H' hi hw => ?_) (fun σ' H' hw => ?_)
    · exact ⟨⟨G, [], ([], []), ⟨Ex.refl _, hG1.trans e, ((ex_in hl0).trans (ex_in hu0)).trans e, fun _ _ h => h⟩, gl, gu, e _ _ (by rw [upd_ne hlu]; exact upd_same), .nil, e _ _ upd_same, ⟨rfl, by simp, by simp, by simp, by simp⟩, Nat.zero_le _, Nat.zero_le _⟩, _, _, _, rfl⟩
    · obtain ⟨⟨G', vl, st, g, gl', gu', hl', dvl, hu', ok, ul, ll⟩, v5, v6, v7, rfl⟩ := hw
      have eG : Ex G G' := g.up
      have il : i < ws.length := by omega
      have eK : Ex (upd G' u (.lst (st.1.map V.int))) H' := ex_know g.ok hu'
      have eI : Ex G' (upd G' u (.lst (st.1.map V.int))) := ex_in gu'
      dsimp only
      refine st_asg (P := fun v G'' => ∃ r : Addr, v = .ref r ∧ (upd G' u (.lst (st.1.map V.int))) r = none ∧ G'' r = some (.lst (((List.range ws.length).filter fun n : Nat => goesB ws gap (n : Int) (i : Int) && !decide ((n : Int) ∈ st.1)).map fun i : Nat => V.int (i : Int)))) eK (el_filRN (n := ws.length) (p := fun n => goesB ws gap (n : Int) (i : Int) && !decide ((n : Int) ∈ st.1)) (len (eG.trans eI) rfl) (by omega) (fun _ => rfl) (fun _ => rfl) fun n G'' e hn => et_andB (et_B (EF.bl (ex_call4 (ex_var (v := .ref a) rfl) (ex_var (v := .int (n : Int)) rfl) (ex_var (v := .int (i : Int)) rfl) (ex_var (v := .int gap) rfl) fun G3 e3 => sa_may (dpx hd (eG.trans (eI.trans (e.trans e3)))) hl) rfl)) (et_niI (ex_var rfl) (EF.dv (ex_var (v := .ref u) rfl) (dp_mkL (e _ _ upd_same) (dpa_ints st.1))))) fun v6' G4 H4 g4 ⟨r, ev6, hr0, hr4⟩ => ?_
      subst ev6
      have ru : r ≠ u := fun z => by rw [z, upd_same] at hr0; cases hr0
      have gF := g4.forget gu'
      have hr5 : dropA G4 u r = some (.lst (((List.range ws.length).filter fun n : Nat => goesB ws gap (n : Int) (i : Int) && !decide ((n : Int) ∈ st.1)).map fun i : Nat => V.int (i : Int))) := by rw [dropA_ne ru]; exact hr4
      have hu4 := g4.hp _ _ hu'
      have hl4 := g4.hp _ _ hl'
      have gl4 : dropA G4 u l = none := by
        rw [dropA_ne hlu]
        exact g4.2.2.2 l (ne_none_of hl') (by rw [upd_ne hlu]; exact gl')
      have gAll : Gr G (dropA G4 u) H H4 := g.trans gF
      have dv4 : DpAll K (dropA G4 u) vl (st.2.map dP) := dpax dvl gF.up
      have frm : ∀ n ∈ (List.range ws.length).filter (fun n : Nat => goesB ws gap (n : Int) (i : Int) && !decide ((n : Int) ∈ st.1)), goesB ws gap (n : Int) (i : Int) = true ∧ (n : Int) ∉ st.1 := fun n h => by simpa using (List.mem_filter.mp h).2
      have frl : ((List.range ws.length).filter fun n : Nat => goesB ws gap (n : Int) (i : Int) && !decide ((n : Int) ∈ st.1)).length ≤ 200 := Nat.le_trans (List.length_filter_le _ _) (by simp; omega)
      clear hr4
      generalize (List.range ws.length).filter (fun n : Nat => goesB ws gap (n : Int) (i : Int) && !decide ((n : Int) ∈ st.1)) = fr at hr5 frm frl
      dsimp only
      have lenR : ∀ {σ : L2.St} {G'' : Hp}, Ex (dropA G4 u) G'' → σ[6]? = some (some (.ref r)) → EF (tCB (Evl.rLenS K) (tCons (tVar 6) tNil)) σ G'' (XV (.int (fr.length : Int))) := fun e h => (ex_lenL (ex_var h) (Evl.sq_of (e _ _ hr5))).imp fun v _ _ p => by rw [show v = _ from p, List.length_map]; rfl
      refine st_asg (P := IV fun z => 0 ≤ z ∧ z < (fr.length : Int) + 1) gF.ok (ei_draw (n := (fr.length : Int) + 1) (ex_call2 (ex_var (v := .ref sc) rfl) (ex_add (ex_c (v := .int 3)) (ex_var (v := .int (i : Int)) rfl)) fun G5 e5 => sa_cell (Evl.ex_l ((eG.trans gF.up).trans e5) hs) hn (by omega) (by omega)) (EF.ivp ex_c ⟨by omega, by omega⟩) (EF.iv (ex_add (lenR (Ex.refl _) rfl) (ex_c (v := .int 1)))) (by omega) (by omega)) fun v7' G5 H5 g5 ⟨z, ez, hz⟩ => ?_
      subst ez
      dsimp only
      have gB := gAll.trans g5
      have gl5 : G5 l = none := g5.2.2.2 l (ne_none_of hl4) gl4
      have gu5 : G5 u = none := g5.2.2.2 u (ne_none_of hu4) dropA_same
      have hl5 := g5.hp _ _ hl4
      have hu5 := g5.hp _ _ hu4
      refine st_if (p := (· = decide (z < (fr.length : Int)))) g5.ok (et_ltI (ex_var (v := .int z) rfl) (lenR g5.up rfl)) (fun hlt H6 e6 => ?_) (fun hge H6 e6 => ?_)
      · have hz2 : z.toNat < fr.length := by have := of_decide_eq_true hlt.symm; omega
        obtain ⟨x, hx⟩ : ∃ x, x = fr[z.toNat] := ⟨_, rfl⟩
        obtain ⟨x1, x2⟩ := frm x (hx ▸ List.getElem_mem _)
        have hget : (fr.map fun i : Nat => V.int (i : Int))[z.toNat]? = some (.int (x : Int)) := by rw [List.getElem?_map, List.getElem?_eq_getElem hz2, hx]; rfl
        have atz : ∀ {σ : L2.St} {G'' : Hp}, Ex G5 G'' → σ[6]? = some (some (.ref r)) → σ[7]? = some (some (.int z)) → EF (tOp (rIxL K) (tVar 6) (tVar 7)) σ G'' (XV (.int (x : Int))) := fun e h6 h7 => ex_ixL (i := z.toNat) (ex_var h6) (ex_var h7) (by omega) (Evl.sq_of (e _ _ (g5.up _ _ hr5))) hget
        refine st_app (P := XV (.int (x : Int))) (g5.ok.trans e6) (e6 _ _ hu5) (ex_var (v := .ref u) rfl) (atz (Ex.refl _) rfl rfl) (by rw [List.length_map]; omega) fun v8 G6 H7 g6 p6 => ?_
        cases (show v8 = _ from p6)
        have gu6 : G6 u = none := g6.2.2.2 u (ne_none_of (e6 _ _ hu5)) gu5
        have gl6 : G6 l = none := g6.2.2.2 l (ne_none_of (e6 _ _ hl5)) gl5
        have hl6 := g6.hp _ _ (e6 _ _ hl5)
        have gC := ((gB.then e6).trans g6).put (o := .lst (st.1.map V.int ++ [.int (x : Int)])) hu1 gu6
        dsimp only
        refine st_app (P := DV K (dP ((x : Int), (i : Int)))) gC.ok (by rw [upd_ne hlu]; exact hl6) (ex_var (v := .ref l) rfl) (ef_pairI (atz g6.up rfl rfl) (ex_var (v := .int (i : Int)) rfl)) (by rw [dpa_len dvl, List.length_map]; omega) fun v9 G7 H8 g7 p7 => ?_
        have gu7 : G7 u = none := g7.2.2.2 u (by rw [upd_same]; exact fun z => nomatch z) gu6
        have gl7 : G7 l = none := g7.2.2.2 l (by rw [upd_ne hlu, hl6]; exact fun z => nomatch z) gl6
        refine ⟨⟨G7, vl ++ [v9], (st.1 ++ [(x : Int)], st.2 ++ [((x : Int), (i : Int))]), (gC.trans g7).put hl0 gl7, gl7, gu7, upd_same, ?_, ?_, ok.add x2 (by omega) x1 (fun z hz => by omega) (by omega), by simp; omega, by simp; omega⟩, _, _, _, rfl⟩
        · rw [List.map_append]
          exact dpa_snoc (dpax dv4 (g5.up.trans (g6.up.trans g7.up))) p7
        · rw [upd_ne hlu.symm, g7.hp _ _ upd_same, List.map_append]
          rfl
      · exact ⟨⟨G5, vl, st, gB.then e6, gl5, gu5, e6 _ _ hl5, dpax dv4 g5.up, e6 _ _ hu5, ok.mono fun z hz => by omega, by omega, by omega⟩, _, _, _, rfl⟩
    · obtain ⟨⟨G', vl, st, g, gl', gu', hl', dvl, hu', ok, ul, ll⟩, v5, v6, v7, rfl⟩ := hw
      exact st_ret (P := FitV K ws gap) (ex_know g.ok hl') (EF.imp (P := XV (.ref l)) (ex_var rfl) fun v G5 e p => ⟨st.2, ok.fits, by omega, l, vl, p, e _ _ upd_same, dpax dvl ((ex_in gl').trans e)⟩) fun v G5 H5 g5 p5 => k v G5 H5 ((g.know hG hl0 hl').trans g5) p5
end
end Kx

set_option Elab.async false
set_option linter.all false
set_option maxRecDepth 100000
set_option maxHeartbeats 8000000
namespace Kx
open PySem L2 Lw
open Evl (Ex)
section
variable {P : Program} {w : World} {K : PySem.W.Frag} {mg : Str → Option Value} {base : Heap} {f : Addr} {fd : FuncData}
theorem ok_isd (B : Blt mg) (F : Fun K "_law_is_deficit" "_law_is_deficit" s_is_deficit f fd) (Cs : Cal P w K mg base "_law_same" 1 ["_law_actual", "_law_wanted"] (spSameB K 0)) (Cu : Cal P w K mg base "_law_surplus" 1 ["_law_workings", "_law_place", "_law_gap", "_law_moment"] (spSur K)) : FnOk P w K mg base CX0 2 f fd ["_law_workings", "_law_place", "_law_gap", "_law_told_here", "_law_number"] (spIsD K) := by
  obtain ⟨f1, fd1, G_same, m_same, k_same, b_same⟩ := Cs
  obtain ⟨f2, fd2, G_surplus, m_surplus, k_surplus, b_surplus⟩ := Cu
  have m_len := B.len
  have m_int := B.int
  have m_bool := B.bool
  have m_tuple := B.tuple
  have m_isinstance := B.isinstance
  refine F.ok sc_is_deficit (fun vs H Q E h => ?_) (fun cdv A outer s H vs Q E hr h => ?_)
  · obtain ⟨G, a, x, ws, p, gap, _, rfl, _⟩ := h
    rfl
  · obtain ⟨G, a, x, ws, p, gap, hG, rfl, hd, hx, hl, k⟩ := h
    refine ⟨_, (pss_cons (ps_if (PW.pt (pw_or (pt_not (pt_val (pe_callB call_isi (by rfl) m_isinstance (by decide +kernel) (pa_cons (pv 3) (pa_cons (pe_bltn (v := .ty "tuple") (u := .type "tuple") rfl m_tuple (by decide +kernel) rfl) pa_nil))))) (pw_or (pt_cmpR op_ne (pe_callB call_len_seq (by rfl) m_len PySem.boot_len (pa_cons (pv 3) pa_nil)) pe_int (nomark _)) (pw_or1 (pt_not (pt_val (pe_call G_same (hr.mono (by decide)) rfl m_same k_same b_same .nil pass0 (pa_cons (pe_ix ix_tup (pv 3) pe_int (fun _ _ => rfl)) (pa_cons (pv 4) pa_nil)))))))))
 (pss_one (ps_ret pe_bl)) pss_nil)
 (pss_cons (ps_if (pt_cmpR op_eq (pv 4) pe_int (nomark _))
 (pss_one (ps_ret (pe_cmpR op_isN (pe_ix ix_tup (pv 3) pe_int (fun _ _ => rfl)) pe_non (nomark _)))) pss_nil)
 (pss_cons (ps_if (PW.pt (pw_or (pt_not (pt_val (pe_callB call_isi (by rfl) m_isinstance (by decide +kernel) (pa_cons (pe_ix ix_tup (pv 3) pe_int (fun _ _ => rfl)) (pa_cons (pe_bltn (v := .ty "int") (u := .type "int") rfl m_int (by decide +kernel) rfl) pa_nil))))) (pw_or1 (pt_val (pe_callB call_isi (by rfl) m_isinstance (by decide +kernel) (pa_cons (pe_ix ix_tup (pv 3) pe_int (fun _ _ => rfl)) (pa_cons (pe_bltn (v := .ty "bool") (u := .type "bool") rfl m_bool (by decide +kernel) rfl) pa_nil)))))))
 (pss_one (ps_ret pe_bl)) pss_nil)
 (pss_cons (ps_if (pt_cmpR op_ne (pe_call G_surplus (hr.mono (by decide)) rfl m_surplus k_surplus b_surplus .nil pass0 (pa_cons (pv 0) (pa_cons (pv 1) (pa_cons (pv 2) (pa_cons (pe_ix ix_tup (pv 3) pe_int (fun _ _ => rfl)) pa_nil))))) (pv 4) (nomark _))
 (pss_one (ps_ret pe_bl)) pss_nil)
 (pss_cons (ps_for PassesOwn.never rfl (pi_list (pv 0)) (pg_name (i := 5) sc_is_deficit.nd rfl (by first | exact Or.inl rfl | exact Or.inr rfl))
 (pss_cons (ps_set (i := 6) sc_is_deficit.nd rfl (by first | exact Or.inl rfl | exact Or.inr rfl) (pe_call G_surplus (hr.mono (by decide)) rfl m_surplus k_surplus b_surplus .nil pass0 (pa_cons (pv 0) (pa_cons (pv 1) (pa_cons (pv 2) (pa_cons (pe_ix ix_tup (pv 5) pe_int (fun _ _ => rfl)) pa_nil))))))
 (pss_one (ps_if (PW.pt (pw_or (pt_cmpR op_gt (pv 6) (pv 4) (nomark _)) (pw_or1 (PW.pt (pw_and (pt_cmpR op_eq (pv 6) (pv 4) (nomark _)) (pw_and1 (pt_cmpR op_lt (pe_ix ix_tup (pv 5) pe_int (fun _ _ => rfl)) (pe_ix ix_tup (pv 3) pe_int (fun _ _ => rfl)) (nomark _))))))))
 (pss_one (ps_ret pe_bl)) pss_nil))))
 (pss_one (ps_ret pe_bl))))))), ?_⟩
    unfold topAt
    have T := topP_ok (l := evs gap p ws) evs_one
    generalize topP (evs gap p ws) = tp at hx T
    obtain ⟨b, xs, rfl, hs, hxs⟩ := dp_tup hx
    obtain ⟨v1, hv1, ev⟩ : ∃ v1, Dp K G v1 (dOpt tp.2) ∧ xs = [.int tp.1, v1] := by
      cases hxs with
      | cons q1 q2 =>
        cases q1
        cases q2 with
        | cons q3 q4 => cases q4; exact ⟨_, q3, rfl⟩
    subst ev
    have e0 : ∀ {σ : L2.St} {G' : Hp}, Ex G G' → σ[3]? = some (some (.ref b)) → EF (tOp (rIxT K) (tVar 3) (tC (.int 0))) σ G' (XV (.int tp.1)) := fun e h => ex_ixT (i := 0) (ex_var h) ex_c (Evl.ex_t e hs) rfl
    have e1 : ∀ {σ : L2.St} {G' : Hp}, Ex G G' → σ[3]? = some (some (.ref b)) → EF (tOp (rIxT K) (tVar 3) (tC (.int 1))) σ G' (XV v1) := fun e h => ex_ixT (i := 1) (ex_var h) ex_c (Evl.ex_t e hs) rfl
    refine st_if0 hG (et_or (p := (· = false)) (q := (· = false)) (s := (· = false)) (et_not (et_B (EF.bl (ex_isi (d := dTop tp) (k := .t) (c := "tuple") (r := true) (ex_var (v := .ref b) rfl) ex_c hx rfl rfl) rfl))) (fun _ => et_or (p := (· = false)) (q := (· = false)) (s := (· = false)) ((et_neI (ex_lenA (ex_var (v := .ref b) rfl) ⟨b, rfl, .inr hs⟩) (ex_c (v := .int 2))).imp fun c hc => by rw [hc]; rfl) (fun _ => et_not (et_B (EF.bl (ex_call2 (P := XV (.bl true)) (e0 (Ex.refl G) rfl) (ex_var (v := .int tp.1) rfl) fun G' e' => sa_sameB (.int _) (.int _) trivial) rfl))) (fun z => nomatch z) fun _ c hc => hc) (fun z => nomatch z) fun _ c hc => hc) fun H0 h0 => ?_
    rcases T with ⟨e, hz⟩ | ⟨g, m, e, g0, g1, g2, g3⟩
    · subst e
      refine st_if (p := (· = true)) (hG.trans h0) ((et_eqI (ex_var (v := .int 0) rfl) (ex_c (v := .int 0))).imp fun b hb => by rw [hb]; rfl) (fun _ H1 h1 => ?_) (fun h _ _ => nomatch h)
      cases hv1
      exact st_ret (P := XV (.bl true)) (hG.trans (h0.trans h1)) (ex_isN (e1 (Ex.refl G) rfl) ex_c) fun v G' H' g p => k v G' H' ((Gr.same hG (h0.trans h1)).trans g) p
    · subst e
      cases hv1
      refine st_if0 (hG.trans h0) ((et_eqI (ex_var (v := .int g) rfl) (ex_c (v := .int 0))).imp fun b hb => by rw [hb]; exact decide_eq_false (by omega)) fun H1 h1 => ?_
      refine st_if0 (hG.trans (h0.trans h1)) (et_or (p := (· = false)) (q := (· = false)) (s := (· = false)) (et_not (et_B (EF.bl (ex_isi (d := .int m) (k := .i) (c := "int") (r := true) (e1 (Ex.refl G) rfl) ex_c (.int m) rfl rfl) rfl))) (fun _ => et_B (EF.bl (ex_isi (d := .int m) (k := .i) (c := "bool") (r := false) (e1 (Ex.refl G) rfl) ex_c (.int m) rfl rfl) rfl)) (fun z => nomatch z) fun _ c hc => hc) fun H2 h2 => ?_
      refine st_if0 (hG.trans (h0.trans (h1.trans h2))) ((et_neI (ex_call4 (ex_var (v := .ref a) rfl) (ex_var (v := .int p) rfl) (ex_var (v := .int gap) rfl) (e1 (Ex.refl G) rfl) fun G' e' => sa_sur (dpx hd e') hl) (ex_var (v := .int g) rfl)).imp fun c hc => by rw [hc, g1]; simp) fun H3 h3 => ?_
      have h03 : Ex H H3 := h0.trans (h1.trans (h2.trans h3))
      refine st_forE (ds := ws.map dW) (hG.trans h03) (EF.dv (ex_var (v := .ref a) rfl) hd) fun G4 H4 c ys g4 hys hdy => ⟨fun j σ' H' => Ex H4 H' ∧ ∃ v5 v6, σ' = [some (.ref a), some (.int p), some (.int gap), some (.ref b), some (.int g), v5, v6], ⟨Ex.refl _, _, _, rfl⟩, fun j σ' H' hw => g4.ok.trans hw.1, fun j y σ' H' hj hw => ?_, fun σ' H' hw => ?_⟩
      · obtain ⟨e4, v5, v6, rfl⟩ := hw
        obtain ⟨dd, hd1, dy⟩ := dpa_get hdy hj
        rw [List.getElem?_map] at hd1
        obtain ⟨o, ho, rfl⟩ := Option.map_eq_some_iff.mp hd1
        refine st_asg (P := XV (.int (sm (evs gap p ws) o.2.2.1))) (g4.ok.trans e4) (ex_call4 (ex_var (v := .ref a) rfl) (ex_var (v := .int p) rfl) (ex_var (v := .int gap) rfl) (ex_wk (k := 2) (ex_var rfl) dy ex_c rfl) fun G' e' => sa_sur (dpx hd (g4.up.trans e')) hl) fun v G5 H5 g5 p5 => ?_
        cases (show v = _ from p5)
        have hle := g2 o.2.2.1
        exact st_if0 g5.ok (et_or (p := (· = false)) (q := (· = false)) (s := (· = false)) ((et_gtI (ex_var (v := .int (sm (evs gap p ws) o.2.2.1)) rfl) (ex_var (v := .int g) rfl)).imp fun c hc => by rw [hc]; exact decide_eq_false (by omega)) (fun _ => (et_andD (et_eqI (ex_var (v := .int (sm (evs gap p ws) o.2.2.1)) rfl) (ex_var (v := .int g) rfl)) fun _ => et_ltI (ex_wk (k := 2) (ex_var rfl) (dpx dy g5.up) ex_c rfl) (e1 (g4.up.trans g5.up) rfl)).imp fun c hc => by rw [hc]; exact decide_eq_false fun z => by have := g3 _ z.2; omega) (fun z => nomatch z) fun _ c hc => hc) fun H6 e6 => ⟨e4.trans (g5.hp.trans e6), _, _, rfl⟩
      · obtain ⟨e4, v5, v6, rfl⟩ := hw
        dsimp only
        refine st_ret (σ := [some (.ref a), some (.int p), some (.int gap), some (.ref b), some (.int g), v5, v6]) (P := XV (.bl true)) (g4.ok.trans e4) ex_c (fun v G' H5 g pv => ?_)
        exact k v G' H5 (((Gr.same hG h03).trans (g4.then e4)).trans g) pv
theorem ok_told {u1 u2 u3 u4 : Value} (F : Fun K "_law_told" "_law_told" s_told f fd) (v0_link : Vals [V.int 0] [u1]) (v0_least_sets : Vals [V.int 0] [u2]) (v0_deficit : Vals [V.int 0] [u3]) (v0_is_linking : Vals [V.int 0] [u4])
    (C1 : ∃ f fd, FnOk P w K mg base CX0 2 f fd ["workings", "turning"] (spLinkN K) ∧ mg "link" = some (.ref f) ∧ PySem.W.keepIn K (.ref f) = true ∧ Binds K fd ["workings", "turning"] [u1] ∧ KBinds K fd ["workings", "turning"] ["turning"] ggL gVL)
    (C2 : ∃ f fd, FnOk P w K mg base CX0 2 f fd ["workings", "turning"] (spLeastN K) ∧ mg "least_sets" = some (.ref f) ∧ PySem.W.keepIn K (.ref f) = true ∧ Binds K fd ["workings", "turning"] [u2] ∧ KBinds K fd ["workings", "turning"] ["turning"] ggL gVL)
    (C3 : ∃ f fd, FnOk P w K mg base CX0 2 f fd ["workings", "place", "turning"] (spDeficitN K) ∧ mg "deficit" = some (.ref f) ∧ PySem.W.keepIn K (.ref f) = true ∧ Binds K fd ["workings", "place", "turning"] [u3] ∧ KBinds K fd ["workings", "place", "turning"] ["turning"] ggD gVD)
    (C4 : ∃ f fd, FnOk P w K mg base CX0 2 f fd ["workings", "links", "turning"] (spIsLN K) ∧ mg "is_linking" = some (.ref f) ∧ PySem.W.keepIn K (.ref f) = true ∧ Binds K fd ["workings", "links", "turning"] [u4] ∧ KBinds K fd ["workings", "links", "turning"] ["turning"] ggD gVD) :
    FnOk P w K mg base CX0 3 f fd ["_law_workings", "_law_links", "_law_place", "_law_turn_time"] (spTol K) := by
  obtain ⟨f1, fd1, G_link, m_link, k_link, b0_link, bk_link⟩ := C1
  obtain ⟨f2, fd2, G_least_sets, m_least_sets, k_least_sets, b0_least_sets, bk_least_sets⟩ := C2
  obtain ⟨f3, fd3, G_deficit, m_deficit, k_deficit, b0_deficit, bk_deficit⟩ := C3
  obtain ⟨f4, fd4, G_is_linking, m_is_linking, k_is_linking, b0_is_linking, bk_is_linking⟩ := C4
  refine F.ok sc_told (fun vs H Q E h => ?_) (fun cdv A outer s H vs Q E hr h => ?_)
  · obtain ⟨G, a, b, ws, ls, ps, p, t, _, rfl, _⟩ := h
    rfl
  · obtain ⟨G, a, b, ws, ls, ps, p, t, hG, rfl, hd, dl, hl, hll, hb, hf, h1, h2, k⟩ := h
    refine ⟨_, (pss_cons (ps_if (pt_cmpR op_lt (pv 3) pe_int (nomark _))
 (pss_one (ps_ret (pe_tup (pa_cons (pe_call G_link (hr.mono (by decide)) rfl m_link k_link b0_link v0_link pass0 (pa_cons (pv 0) pa_nil)) (pa_cons (pe_call G_least_sets (hr.mono (by decide)) rfl m_least_sets k_least_sets b0_least_sets v0_least_sets pass0 (pa_cons (pv 0) pa_nil)) (pa_cons (pe_call G_deficit (hr.mono (by decide)) rfl m_deficit k_deficit b0_deficit v0_deficit pass0 (pa_cons (pv 0) (pa_cons (pv 2) pa_nil))) (pa_cons (pe_call G_is_linking (hr.mono (by decide)) rfl m_is_linking k_is_linking b0_is_linking v0_is_linking pass0 (pa_cons (pv 0) (pa_cons (pv 1) pa_nil))) pa_nil))))))) pss_nil)
 (pss_cons (ps_set (i := 4) sc_told.nd rfl (by first | exact Or.inl rfl | exact Or.inr rfl) (pe_callK G_link (hr.mono (by decide)) rfl m_link k_link bk_link pass0 (pa_cons (pv 0) pa_nil) (pk_cons (pv 3) pk_nil)))
 (pss_cons (ps_set (i := 5) sc_told.nd rfl (by first | exact Or.inl rfl | exact Or.inr rfl) (pe_callK G_least_sets (hr.mono (by decide)) rfl m_least_sets k_least_sets bk_least_sets pass0 (pa_cons (pv 0) pa_nil) (pk_cons (pv 3) pk_nil)))
 (pss_cons (ps_set (i := 6) sc_told.nd rfl (by first | exact Or.inl rfl | exact Or.inr rfl) (pe_callK G_deficit (hr.mono (by decide)) rfl m_deficit k_deficit bk_deficit pass0 (pa_cons (pv 0) (pa_cons (pv 2) pa_nil)) (pk_cons (pv 3) pk_nil)))
 (pss_one (ps_ret (pe_tup (pa_cons (pv 4) (pa_cons (pv 5) (pa_cons (pv 6) (pa_cons (pe_callK G_is_linking (hr.mono (by decide)) rfl m_is_linking k_is_linking bk_is_linking pass0 (pa_cons (pv 0) (pa_cons (pv 1) pa_nil)) (pk_cons (pv 3) pk_nil)) pa_nil))))))))))), ?_⟩
    have tup : ∀ {σ : L2.St} {G' : Hp} {t1 t2 t3 t4 : TE} {gap : Int}, fitsB ws gap ls = true → EF t1 σ G' (DV K (dPs (srtP (linksP gap ws)))) → EF t2 σ G' (DV K (dPs (setsOf gap ws ps))) → EF t3 σ G' (DV K (dTop (topP (evs gap p ws)))) → EF t4 σ G' (XV (.bl (fitsB ws gap ls))) → EF (tTup (tCons t1 (tCons t2 (tCons t3 (tCons t4 tNil))))) σ G' (DV K (tolD ws ps p gap)) := fun hf q1 q2 q3 q4 => ef_tup (ea_four mo_DV mo_DV mo_DV mo_XV q1 q2 q3 q4) (fun vs G' ⟨x, y, z, w, ev, _⟩ => by rw [ev]; simp) fun q vs G' _ _ hq ⟨x, y, z, w, ev, hx, hy, hz, hw⟩ => by
      refine dp_mkT (xs := [x, y, z, w]) (by rw [← ev]; exact upd_same) (.cons (dpx hx (ex_in hq)) (.cons (dpx hy (ex_in hq)) (.cons (dpx hz (ex_in hq)) (.cons ?_ .nil))))
      rw [show w = _ from hw, hf]
      exact .bl _
    refine st_if (p := (· = decide (t < 0))) hG (et_ltI (ex_var rfl) ex_c) (fun c0 H1 e1 => ?_) (fun c0 H1 e1 => ?_)
    · have hg : gapOf t = 0 := if_pos (of_decide_eq_true c0.symm)
      rw [hg] at hf k
      refine st_ret (P := DV K (tolD ws ps p 0)) (hG.trans e1) (tup hf (ef_call (ea_x (ex_var (v := .ref a) rfl) ea_nil) fun vs G' e ev => by rw [ev]; exact sa_linkN (gap := 0) (dpx hd e) hl hb) (ef_call (ea_x (ex_var (v := .ref a) rfl) ea_nil) fun vs G' e ev => by rw [ev]; exact sa_leastN (gap := 0) (dpx hd e) hl hb h1 h2) (ef_call (ea_x (ex_var (v := .ref a) rfl) (ea_x (ex_var (v := .int p) rfl) ea_nil)) fun vs G' e ev => by rw [ev]; exact sa_deficitN (gap := 0) (dpx hd e) hl hb) (ef_call (ea_x (ex_var (v := .ref a) rfl) (ea_x (ex_var (v := .ref b) rfl) ea_nil)) fun vs G' e ev => by rw [ev]; exact sa_isLN (gap := 0) (dpx hd e) (dpx dl e) hl hll hb)) fun v G' H' g pv => k v G' H' ((Gr.same hG e1).trans g) pv
    · have hg : gapOf t = t := if_neg (of_decide_eq_false c0.symm)
      rw [hg] at hf k
      refine st_asg (P := DV K (dPs (srtP (linksP t ws)))) (hG.trans e1) (ef_callK (ea_x (ex_var (v := .ref a) rfl) ea_nil) (ea_x (ex_var (v := .int t) rfl) ea_nil) fun G' e => sa_linkN (gap := t) (dpx hd e) hl hb) fun v1 G1 H2 g1 p1 => ?_
      refine st_asg (P := DV K (dPs (setsOf t ws ps))) g1.ok (ef_callK (ea_x (ex_var (v := .ref a) rfl) ea_nil) (ea_x (ex_var (v := .int t) rfl) ea_nil) fun G' e => sa_leastN (gap := t) (dpx hd (g1.up.trans e)) hl hb h1 h2) fun v2 G2 H3 g2 p2 => ?_
      refine st_asg (P := DV K (dTop (topP (evs t p ws)))) g2.ok (ef_callK (ea_x (ex_var (v := .ref a) rfl) (ea_x (ex_var (v := .int p) rfl) ea_nil)) (ea_x (ex_var (v := .int t) rfl) ea_nil) fun G' e => sa_deficitN (gap := t) (dpx hd ((g1.up.trans g2.up).trans e)) hl hb) fun v3 G3 H4 g3 p3 => ?_
      have gA := (Gr.same hG e1).trans (g1.trans (g2.trans g3))
      refine st_ret (P := DV K (tolD ws ps p t)) g3.ok (tup hf (EF.dv (ex_var rfl) (dpx p1 (g2.up.trans g3.up))) (EF.dv (ex_var rfl) (dpx p2 g3.up)) (EF.dv (ex_var rfl) p3) (ef_callK (ea_x (ex_var (v := .ref a) rfl) (ea_x (ex_var (v := .ref b) rfl) ea_nil)) (ea_x (ex_var (v := .int t) rfl) ea_nil) fun G' e => sa_isLN (gap := t) (dpx hd ((g1.up.trans (g2.up.trans g3.up)).trans e)) (dpx dl ((g1.up.trans (g2.up.trans g3.up)).trans e)) hl hll hb)) fun v G' H' g pv => k v G' H' (gA.trans g) pv
end
end Kx

set_option Elab.async false
set_option linter.all false
set_option maxRecDepth 100000
set_option maxHeartbeats 8000000
namespace Kx
open PySem L2 Lw
open Evl (Ex)
abbrev s_day : Stmt := top 20
theorem sc_day : FnScope ["_law_script", "_law_cell_here", "_law_kind", "_law_count", "_law_turn_time", "_law_places_here", "_law_good", "_law_k"] ["_law_script"] (defScope s_day) := ⟨rfl, rfl, rfl, by decide +kernel, rfl, by decide +kernel, by decide +kernel⟩
section
variable {P : Program} {w : World} {K : PySem.W.Frag} {mg : Str → Option Value} {base : Heap} {f : Addr} {fd : FuncData}
theorem ok_day (B : Blt mg) (F : Fun K "_law_day" "_law_day" s_day f fd) (Cc : Cal P w K mg base "_law_cell" 1 ["_law_script", "_law_k"] (Lw.spCell K)) (Cd : Cal P w K mg base "_law_draw" 1 ["_law_cell_here", "_law_k", "_law_size"] spDraw) (Cp : Cal P w K mg base "_law_places" 2 ["_law_cell_here", "_law_size"] (spPlaces K)) (Cw : Cal P w K mg base "_law_working" 2 ["_law_cell_here", "_law_kind", "_law_places_here"] (spWorkS K)) : FnOk P w K mg base CX0 3 f fd ["_law_script"] (spDayS K) := by
  obtain ⟨f0, fd0, G_cell, m_cell, k_cell, b_cell⟩ := Cc
  obtain ⟨f1, fd1, G_draw, m_draw, k_draw, b_draw⟩ := Cd
  obtain ⟨f2, fd2, G_places, m_places, k_places, b_places⟩ := Cp
  obtain ⟨f3, fd3, G_working, m_working, k_working, b_working⟩ := Cw
  have m_range := B.range
  refine F.ok sc_day (fun vs H Q E h => ?_) (fun cdv A outer s H vs Q E hr h => ?_)
  · obtain ⟨G, a, ns, _, rfl, _⟩ := h
    rfl
  · obtain ⟨G, a, ns, hG, rfl, hs, hn, k⟩ := h
    refine ⟨_, (pss_cons (ps_set (i := 1) sc_day.nd rfl (by first | exact Or.inl rfl | exact Or.inr rfl) (pe_call G_cell (hr.mono (by decide)) rfl m_cell k_cell b_cell .nil pass0 (pa_cons (pv 0) (pa_cons pe_int pa_nil))))
 (pss_cons (ps_set (i := 2) sc_day.nd rfl (by first | exact Or.inl rfl | exact Or.inr rfl) (pe_call G_draw (hr.mono (by decide)) rfl m_draw k_draw b_draw .nil pass0 (pa_cons (pv 1) (pa_cons pe_int (pa_cons pe_int pa_nil)))))
 (pss_cons (ps_set (i := 3) sc_day.nd rfl (by first | exact Or.inl rfl | exact Or.inr rfl) (pe_call G_draw (hr.mono (by decide)) rfl m_draw k_draw b_draw .nil pass0 (pa_cons (pv 1) (pa_cons pe_int (pa_cons pe_int pa_nil)))))
 (Evl.pss_cut (ps_if (pt_cmpR op_eq (pe_call G_draw (hr.mono (by decide)) rfl m_draw k_draw b_draw .nil pass0 (pa_cons (pv 1) (pa_cons pe_int (pa_cons pe_int pa_nil)))) pe_int (nomark _))
 (pss_one (ps_set (i := 3) sc_day.nd rfl (by first | exact Or.inl rfl | exact Or.inr rfl) (pe_op op_add pe_int (pe_call G_draw (hr.mono (by decide)) rfl m_draw k_draw b_draw .nil pass0 (pa_cons (pv 1) (pa_cons pe_int (pa_cons pe_int pa_nil))))))) pss_nil)
 (Evl.pss_cut (ps_if (pt_cmpR op_eq (pe_call G_draw (hr.mono (by decide)) rfl m_draw k_draw b_draw .nil pass0 (pa_cons (pv 1) (pa_cons pe_int (pa_cons pe_int pa_nil)))) pe_int (nomark _))
 (pss_one (ps_set (i := 3) sc_day.nd rfl (by first | exact Or.inl rfl | exact Or.inr rfl) pe_int)) pss_nil)
 (pss_cons (ps_set (i := 4) sc_day.nd rfl (by first | exact Or.inl rfl | exact Or.inr rfl) (pe_op op_sub (pe_call G_draw (hr.mono (by decide)) rfl m_draw k_draw b_draw .nil pass0 (pa_cons (pv 1) (pa_cons pe_int (pa_cons pe_int pa_nil)))) pe_int))
 (Evl.pss_cut (ps_if (PW.pt (pw_and (pt_cmpR op_eq (pv 2) pe_int (nomark _)) (pw_and1 (pt_cmpR op_gt (pv 4) pe_int (nomark _)))))
 (pss_one (ps_set (i := 4) sc_day.nd rfl (by first | exact Or.inl rfl | exact Or.inr rfl) (pe_op op_mul pe_int (pv 4)))) pss_nil)
 (pss_cons (ps_set (i := 5) sc_day.nd rfl (by first | exact Or.inl rfl | exact Or.inr rfl) (pe_call G_places (hr.mono (by decide)) rfl m_places k_places b_places .nil pass0 (pa_cons (pe_call G_cell (hr.mono (by decide)) rfl m_cell k_cell b_cell .nil pass0 (pa_cons (pv 0) (pa_cons pe_int pa_nil))) (pa_cons (pe_op op_add pe_int (pe_call G_draw (hr.mono (by decide)) rfl m_draw k_draw b_draw .nil pass0 (pa_cons (pv 1) (pa_cons pe_int (pa_cons pe_int pa_nil))))) pa_nil))))
 (pss_cons (ps_setLc (i := 6) (own := [("_law_k", 7)]) (g := (gName 7)) (tt := tYes) (te := (tCall (spWorkS K) [] E0 (tCons (tCall (Lw.spCell K) [] E0 (tCons (tVar 0) (tCons (tOp (rI0 fun i j => .int (i + j)) (tC (.int 3)) (tVar 7)) tNil))) (tCons (tVar 2) (tCons (tVar 5) tNil))))) rfl sc_day.nd rfl rfl (sw_true rfl rfl rfl (by decide +kernel)) (pi_range1 rfl m_range (pa_cons (pe_op op_add (pv 3) pe_int) pa_nil)) (blkOk_by (N := ["_law_script", "_law_cell_here", "_law_kind", "_law_count", "_law_turn_time", "_law_places_here", "_law_good", "_law_k"]) (sc := defScope s_day) (by decide +kernel)) (fun _ _ _ _ _ => pg_name (i := 7) sc_day.nd rfl (Or.inl rfl)) (fun _ _ _ _ _ => pts_nil) (fun _ _ _ _ _ => (pe_call G_working (hr.mono (by decide)) rfl m_working k_working b_working .nil pass0 (pa_cons (pe_call G_cell (hr.mono (by decide)) rfl m_cell k_cell b_cell .nil pass0 (pa_cons (pv 0) (pa_cons (pe_op op_add pe_int (pv 7)) pa_nil))) (pa_cons (pv 2) (pa_cons (pv 5) pa_nil))))))
 (pss_one (ps_ret (pe_tup (pa_cons (pv 5) (pa_cons (pv 6) (pa_cons (pv 4) pa_nil))))))))))))))), ?_⟩
    have cl : ∀ {σ : L2.St} {G' : Hp} {i : Int} {te : TE}, Ex G G' → σ[0]? = some (some (.ref a)) → 0 ≤ i ∧ i < 1000 → EF te σ G' (XV (.int i)) → EF (tCall (Lw.spCell K) [] E0 (tCons (tVar 0) (tCons te tNil))) σ G' (IV fun _ => True) := fun e h hi ht => ex_call2 (ex_var h) ht fun G'' e' => sa_cell (Evl.ex_l (e.trans e') hs) hn hi.1 hi.2
    refine st_asg (P := IV fun _ => True) hG (cl (Ex.refl G) rfl ⟨by omega, by omega⟩ ex_c) fun v1 G1 H1 g1 ⟨c, e1, _⟩ => ?_
    subst e1
    dsimp only
    have dr : ∀ {σ : L2.St} {G' : Hp} {i m : Int}, σ[1]? = some (some (.int c)) → 0 ≤ i ∧ i ≤ 2000 → 1 ≤ m ∧ m ≤ 2000 → EF (tCall spDraw [] E0 (tCons (tVar 1) (tCons (tC (.int i)) (tCons (tC (.int m)) tNil)))) σ G' (IV fun z => 0 ≤ z ∧ z < m) := fun h hi hm => ei_draw (EF.ivp (ex_var h) trivial) (EF.ivp ex_c hi) (EF.iv ex_c) hm.1 hm.2
    refine st_asg (P := IV fun z => 0 ≤ z ∧ z < 4) g1.ok (dr rfl ⟨by omega, by omega⟩ ⟨by omega, by omega⟩) fun v2 G2 H2 g2 ⟨kd, e2, _⟩ => ?_
    subst e2
    dsimp only
    refine st_asg (P := IV fun z => 0 ≤ z ∧ z < 10) g2.ok (dr rfl ⟨by omega, by omega⟩ ⟨by omega, by omega⟩) fun v3 G3 H3 g3 ⟨n0, e3, hn0⟩ => ?_
    subst e3
    have gA := g1.trans (g2.trans g3)
    refine ⟨fun σ' H' => Ex H3 H' ∧ ∃ n : Int, 0 ≤ n ∧ n ≤ 100 ∧ σ' = [some (.ref a), some (.int c), some (.int kd), some (.int n), none, none, none, none], ?_, ?_⟩
    · refine st_if (p := fun _ => True) g3.ok (et_test (ei_eq (s := fun _ => True) (dr rfl ⟨by omega, by omega⟩ ⟨by omega, by omega⟩) (EF.iv ex_c) fun _ _ _ _ => trivial)) (fun _ H4 e4 => ?_) (fun _ H4 e4 => ⟨e4, n0, by omega, by omega, rfl⟩)
      refine st_asg (P := IV fun z => 0 ≤ z ∧ z ≤ 100) (g3.ok.trans e4) (ei_add (p := (· = 10)) (q := fun z => 0 ≤ z ∧ z < 24) (EF.iv ex_c) (dr rfl ⟨by omega, by omega⟩ ⟨by omega, by omega⟩) fun x y hx hy => by omega) fun v5 G5 H5 g5 ⟨n1, e5, hn1⟩ => ?_
      subst e5
      exact ⟨e4.trans g5.hp, n1, hn1.1, hn1.2, rfl⟩
    · rintro σ1 H4 ⟨e4, n1, h0, h1, rfl⟩
      have eB := g3.ok.trans e4
      refine ⟨fun σ' H' => Ex H3 H' ∧ ∃ n : Int, 0 ≤ n ∧ n ≤ 100 ∧ σ' = [some (.ref a), some (.int c), some (.int kd), some (.int n), none, none, none, none], ?_, ?_⟩
      · refine st_if (p := fun _ => True) eB (et_test (ei_eq (s := fun _ => True) (dr rfl ⟨by omega, by omega⟩ ⟨by omega, by omega⟩) (EF.iv ex_c) fun _ _ _ _ => trivial)) (fun _ H5 e5 => ?_) (fun _ H5 e5 => ⟨e4.trans e5, n1, h0, h1, rfl⟩)
        refine st_asg (P := XV (.int 100)) (eB.trans e5) ex_c fun v5 G6 H6 g6 p6 => ?_
        cases (show v5 = .int 100 from p6)
        exact ⟨e4.trans (e5.trans g6.hp), 100, by omega, by omega, rfl⟩
      · rintro σ1 H5 ⟨e5, n, h0', h1', rfl⟩
        have eC := g3.ok.trans e5
        refine st_asg (P := IV fun _ => True) eC (ei_sub (p := fun z => 0 ≤ z ∧ z < 5) (q := (· = 1)) (s := fun _ => True) (dr rfl ⟨by omega, by omega⟩ ⟨by omega, by omega⟩) (EF.iv ex_c) fun x y hx hy => trivial) fun v6 G6 H6 g6 ⟨t0, e6, ht0⟩ => ?_
        subst e6
        have gB := (gA.then e5).trans g6
        refine ⟨fun σ' H' => Ex H6 H' ∧ ∃ t : Int, σ' = [some (.ref a), some (.int c), some (.int kd), some (.int n), some (.int t), none, none, none], ?_, ?_⟩
        · refine st_if (p := fun _ => True) g6.ok (et_and (p := fun _ => True) (q := fun _ => True) ((et_eqI (ex_var (v := .int kd) rfl) (ex_c (v := .int 2))).imp fun _ _ => trivial) (fun _ => (et_gtI (ex_var (v := .int t0) rfl) (ex_c (v := .int 0))).imp fun _ _ => trivial) (fun _ _ _ => trivial) fun _ => trivial) (fun _ H7 e7 => ?_) (fun _ H7 e7 => ⟨e7, t0, rfl⟩)
          refine st_asg (P := IV fun _ => True) (g6.ok.trans e7) (ei_mul (p := (· = 1000003)) (q := fun _ => True) (EF.iv ex_c) (EF.ivp (ex_var (v := .int t0) rfl) trivial) (fun x hx => by omega) fun _ _ _ _ => trivial) fun v8 G8 H8 g8 ⟨t1, e8, _⟩ => ?_
          subst e8
          exact ⟨e7.trans g8.hp, t1, rfl⟩
        · rintro σ1 H7 ⟨e7, t, rfl⟩
          have gC := gB.then e7
          have e6' := g6.ok.trans e7
          refine st_asg (P := RL K fun ps => (1 ≤ ps.length ∧ ps.length ≤ 4) ∧ ps.Pairwise (· < ·)) e6' (ef_call (ea_two (Pa := IV fun _ => True) (Pb := IV fun z => 1 ≤ z ∧ z ≤ 4) mo_IV mo_IV (cl gB.up rfl ⟨by omega, by omega⟩ ex_c) (ei_add (p := (· = 1)) (q := fun z => 0 ≤ z ∧ z < 4) (EF.iv ex_c) (dr rfl ⟨by omega, by omega⟩ ⟨by omega, by omega⟩) fun x y hx hy => by omega)) fun vs G' _ ⟨x, y, ev, ⟨cc, ex, _⟩, z, ez, hz⟩ => ?_) fun v9 G9 H9 g9 p9 => ?_
          · subst ev ex ez
            obtain ⟨m, rfl⟩ : ∃ m : Nat, z = (m : Int) := ⟨z.toNat, by omega⟩
            exact SA.imp (sa_places (by omega) (by omega)) fun v G'' ⟨row, ⟨h1, h2⟩, h3⟩ => ⟨row, ⟨⟨by omega, by omega⟩, h2⟩, h3⟩
          · obtain ⟨ps, ⟨⟨l1, l4⟩, asc⟩, lp, xp, rfl, hlp, hxp⟩ := p9
            have exp := dpa_ints_eq hxp
            subst exp
            have gD := gC.trans g9
            refine st_asg (P := fun v G' => ∃ ws : List Wk, ws.length = (n + 1).toNat ∧ (∀ v ∈ ws, WkS ps v) ∧ LS K (ws.map dW) v G') g9.ok (ef_lcR1 (n := n + 1) (fun i acc G' => ∃ ws : List Wk, ws.length = i ∧ (∀ v ∈ ws, WkS ps v) ∧ DpAll K G' acc (ws.map dW)) ((ea_one (ex_add (ex_var (v := .int n) rfl) (ex_c (v := .int 1)))).imp fun us G' _ ⟨x, ev, hx⟩ => by rw [ev, show x = _ from hx]) ⟨by omega, by omega⟩ (fun x => rfl) (fun _ _ => ⟨[], rfl, by simp, .nil⟩) (fun i acc G' e hi ⟨ws, hw1, hw2, hw3⟩ => ec_all ((ef_call (P := fun v G' => ∃ w : Wk, WkS ps w ∧ Dp K G' v (dW w)) (ea_three (Pa := IV fun _ => True) (Pb := XV (.int kd)) (Pc := XV (.ref lp)) mo_IV mo_XV mo_XV (cl (gD.up.trans e) rfl (i := 3 + (i : Int)) ⟨by omega, by omega⟩ (ex_add ex_c (ex_var rfl))) (ex_var rfl) (ex_var rfl)) fun vs G'' e'' ⟨x, y, z, ev, ⟨cc, ex, _⟩, ey, ez⟩ => ?_).imp fun v G2 e2 ⟨w, hw4, hw5⟩ => ⟨ws ++ [w], by rw [List.length_append, hw1]; rfl, fun u hu => (List.mem_append.mp hu).elim (hw2 u) fun z => by rw [List.mem_singleton.mp z]; exact hw4, by rw [List.map_append]; exact dpa_snoc (dpax hw3 e2) hw5⟩)) fun p acc G' _ h2 _ _ ⟨ws, hw1, hw2, hw3⟩ => ⟨ws, hw1, hw2, p, acc, rfl, upd_same, dpax hw3 (ex_in h2)⟩) fun v10 G10 H10 g10 p10 => ?_
            · cases (show y = _ from ey)
              cases (show z = _ from ez)
              subst ev ex
              exact sa_workS (Evl.ex_l (e.trans e'') (Evl.sq_of hlp)) l1 (by omega)
            · obtain ⟨ws, wl, wo, lw, xw, rfl, hlw, hxw⟩ := p10
              refine st_ret (P := DayS K) g10.ok (ef_tup (ea_three mo_XV mo_XV mo_XV (ex_var (v := .ref lp) rfl) (ex_var (v := .ref lw) rfl) (ex_var (v := .int t) rfl)) (fun vs _ ⟨x, y, z, ev, _⟩ => by rw [ev]; simp) fun q vs G' e h0 h2 ⟨x, y, z, ev, hx, hy, hz⟩ => ?_) fun v G' H' g p => k v G' H' (gD.trans (g10.trans g)) p
              have eq := e.trans (ex_in (o := .tup vs) h2)
              refine ⟨q, lp, lw, ps, ws, t, rfl, Evl.st_of ?_, eq _ _ (g10.up _ _ hlp), dpx (dp_mkL hlw hxw) eq, asc, l1, l4, wo, by omega, by omega⟩
              rw [upd_same, ev, show x = _ from hx, show y = _ from hy, show z = _ from hz]
end
end Kx

set_option Elab.async false
set_option linter.all false
set_option maxRecDepth 100000
set_option maxHeartbeats 4000000
/-! fewest sets: what the law needs -/
namespace Lw
open PySem PySem.Spec L2
open Evl (Ex)
theorem newS_srt {ws : List Wk} {l : List (Int × Int)} {p : Int} : newS ws (srtP l) p = newS ws l p := by
  unfold newS
  refine List.filter_congr fun k _ => ?_
  have e : ((k : Int) ∈ (srtP l).map (·.2)) ↔ ((k : Int) ∈ l.map (·.2)) := ((srtP_perm l).map _).mem_iff
  simp only [e]
theorem fits_srt {ws : List Wk} {gap : Int} {l : List (Int × Int)} (h : fitsB ws gap l = true) : fitsB ws gap (srtP l) = true := by
  unfold fitsB at h ⊢
  simp only [Bool.and_eq_true, decide_eq_true_eq, List.all_eq_true] at h ⊢
  obtain ⟨⟨h1, h2⟩, h3⟩ := h
  exact ⟨⟨((srtP_perm l).map _).nodup_iff.mpr h1, ((srtP_perm l).map _).nodup_iff.mpr h2⟩, fun p hp => h3 p ((srtP_perm l).mem_iff.mp hp)⟩
theorem lnk_len {gap : Int} {ws : List Wk} : (srtP (linksP gap ws)).length ≤ ws.length := by
  rw [(srtP_perm _).length_eq]
  have := @run_len gap ws (depS ws)
  rw [depS_len] at this
  exact this
theorem low_top {ws : List Wk} {gap p : Int} {ls : List (Int × Int)} (h : fitsB ws gap ls = true) : topAt gap ws p ≤ ((newS ws ls p).length : Int) := by
  unfold topAt
  rcases topP_ok (l := evs gap p ws) evs_one with ⟨e, _⟩ | ⟨g, m, e, _, h1, _, _⟩
  · rw [e]; show (0 : Int) ≤ _; omega
  · rw [e]
    have := low_bound (p := p) h m
    show g ≤ _
    omega
theorem new_at {ws : List Wk} {gap p : Int} : (((newS ws (srtP (linksP gap ws)) p).length : Nat) : Int) = topAt gap ws p := by
  rw [newS_srt]
  exact new_top
theorem sets_snoc {gap : Int} {ws : List Wk} {ps : List Int} {p : Int} : setsOf gap ws (ps ++ [p]) = setsOf gap ws ps ++ if topAt gap ws p > 0 then [(p, topAt gap ws p)] else [] := by
  unfold setsOf
  rw [List.map_append, List.filter_append]
  congr 1
  by_cases h : topAt gap ws p > 0
  · rw [if_pos h]; simp [h]
  · rw [if_neg h]; simp; omega
theorem sets_lenL {gap : Int} {ws : List Wk} {ps : List Int} : (setsOf gap ws ps).length ≤ ps.length := by
  unfold setsOf
  exact Nat.le_trans (List.length_filter_le _ _) (by simp)
theorem okb_psL (l : List (Int × Int)) (h : l.length ≤ 900) : Okb 3 (dPs l) := by
  refine ⟨by rw [List.length_map]; omega, fun d hd => ?_⟩
  obtain ⟨q, _, rfl⟩ := List.mem_map.mp hd
  simp [dP, Okb]
theorem okb_wsL (ws : List Wk) (h : ws.length ≤ 900) : Okb 3 (dWs ws) := by
  refine ⟨by rw [List.length_map]; omega, fun d hd => ?_⟩
  obtain ⟨q, _, rfl⟩ := List.mem_map.mp hd
  simp [dW, Okb]
end Lw

set_option Elab.async false
set_option linter.all false
set_option maxRecDepth 100000
set_option maxHeartbeats 16000000
namespace Kx
open PySem L2 Lw
open Evl (Ex)
abbrev s_law : Stmt := top 29
theorem sc_law : FnScope ["_law_script", "_law_day_here", "_law_workings", "_law_gap", "_law_passed", "_law_links", "_law_other", "_law_sets", "_law_place", "_law_number", "_law_row", "_law_handed", "_law_told_here"] ["_law_script"] (defScope s_law) := ⟨rfl, rfl, rfl, by decide +kernel, rfl, by decide +kernel, by decide +kernel⟩
section
variable {P : Program} {w : World} {K : PySem.W.Frag} {mg : Str → Option Value} {base : Heap} {f : Addr} {fd : FuncData}
def spLaw (K : PySem.W.Frag) : Sp := fun vs H Q _ => ∃ (a : Addr) (ns : List Int), vs = [.ref a] ∧ SqL K H a (ns.map V.int) ∧ ns.length ≤ 63 ∧ ∀ H', Q (.bl true) H'
theorem ok_law {u1 : Value} (B : Blt mg) (m_max : mg "max" = none) (F : Fun K "law" "law" s_law f fd) (Cd : Cal P w K mg base "_law_day" 3 ["_law_script"] (spDayS K))
    (C1 : ∃ f fd, FnOk P w K mg base CX0 2 f fd ["workings", "turning"] (spLinkN K) ∧ mg "link" = some (.ref f) ∧ PySem.W.keepIn K (.ref f) = true ∧ Binds K fd ["workings", "turning"] [u1] ∧ KBinds K fd ["workings", "turning"] ["turning"] ggL gVL)
    (Cr : Cal P w K mg base "_law_is_run" 2 ["_law_workings", "_law_links", "_law_gap"] (spIsR K)) (Co : Cal P w K mg base "_law_other_links" 2 ["_law_workings", "_law_gap", "_law_script"] (spOthL K)) (Cn : Cal P w K mg base "_law_new_sets" 1 ["_law_workings", "_law_links", "_law_place"] (spNew K)) (Ct : Cal P w K mg base "_law_told" 3 ["_law_workings", "_law_links", "_law_place", "_law_turn_time"] (spTol K)) (Ci : Cal P w K mg base "_law_is_deficit" 2 ["_law_workings", "_law_place", "_law_gap", "_law_told_here", "_law_number"] (spIsD K)) (Cs : Cal P w K mg base "_law_same" 4 ["_law_actual", "_law_wanted"] (spSameB K 3)) : FnOk P w K mg base CX0 8 f fd ["_law_script"] (spLaw K) := by
  obtain ⟨f0, fd0, G_day, m_day, k_day, b_day⟩ := Cd
  obtain ⟨f1, fd1, G_link, m_link, k_link, b0_link, bk_link⟩ := C1
  obtain ⟨f2, fd2, G_is_run, m_is_run, k_is_run, b_is_run⟩ := Cr
  obtain ⟨f3, fd3, G_other_links, m_other_links, k_other_links, b_other_links⟩ := Co
  obtain ⟨f4, fd4, G_new_sets, m_new_sets, k_new_sets, b_new_sets⟩ := Cn
  obtain ⟨f5, fd5, G_told, m_told, k_told, b_told⟩ := Ct
  obtain ⟨f6, fd6, G_is_deficit, m_is_deficit, k_is_deficit, b_is_deficit⟩ := Ci
  obtain ⟨f7, fd7, G_same, m_same, k_same, b_same⟩ := Cs
  have m_len := B.len
  have m_list := B.list
  refine F.ok sc_law (fun vs H Q E h => ?_) (fun cdv A outer s H vs Q E hr h => ?_)
  · obtain ⟨a, ns, rfl, _⟩ := h
    rfl
  · obtain ⟨a, ns, rfl, hs, hn, k⟩ := h
    refine ⟨_, (pss_cons (ps_set (i := 1) sc_law.nd rfl (by first | exact Or.inl rfl | exact Or.inr rfl) (pe_call G_day (hr.mono (by decide)) rfl m_day k_day b_day .nil pass0 (pa_cons (pv 0) pa_nil)))
 (pss_cons (ps_set (i := 2) sc_law.nd rfl (by first | exact Or.inl rfl | exact Or.inr rfl) (pe_slice sl_list (pe_ix ix_tup (pv 1) pe_int (fun _ _ => rfl)) po_none (po_some (pe_un un_neg pe_int))))
 (pss_cons (ps_set (i := 3) sc_law.nd rfl (by first | exact Or.inl rfl | exact Or.inr rfl) (pe_callB (call_max2 rfl) (by rfl) m_max (by decide +kernel) (pa_cons pe_int (pa_cons (pe_ix ix_tup (pv 1) pe_int (fun _ _ => rfl)) pa_nil))))
 (pss_cons (ps_set (i := 4) sc_law.nd rfl (by first | exact Or.inl rfl | exact Or.inr rfl) (pe_callTy call_list_of (by rfl) m_list (by decide +kernel) (pa_cons (pv 2) pa_nil)))
 (pss_cons (ps_set (i := 5) sc_law.nd rfl (by first | exact Or.inl rfl | exact Or.inr rfl) (pe_callK G_link (hr.mono (by decide)) rfl m_link k_link bk_link pass0 (pa_cons (pv 4) pa_nil) (pk_cons (pv 3) pk_nil)))
 (pss_cons (ps_if (pt_not (pt_val (pe_call G_is_run (hr.mono (by decide)) rfl m_is_run k_is_run b_is_run .nil pass0 (pa_cons (pv 2) (pa_cons (pv 5) (pa_cons (pv 3) pa_nil))))))
 (pss_one (ps_ret pe_bl)) pss_nil)
 (pss_cons (ps_set (i := 5) sc_law.nd rfl (by first | exact Or.inl rfl | exact Or.inr rfl) (pe_callTy call_list_of (by rfl) m_list (by decide +kernel) (pa_cons (pv 5) pa_nil)))
 (pss_cons (ps_set (i := 6) sc_law.nd rfl (by first | exact Or.inl rfl | exact Or.inr rfl) (pe_call G_other_links (hr.mono (by decide)) rfl m_other_links k_other_links b_other_links .nil pass0 (pa_cons (pv 2) (pa_cons (pv 3) (pa_cons (pv 0) pa_nil)))))
 (pss_cons (ps_set (i := 7) sc_law.nd rfl (by first | exact Or.inl rfl | exact Or.inr rfl) (pe_lst pa_nil))
 (pss_cons (ps_for PassesOwn.never rfl (pi_list (pe_op op_cat (pe_ix ix_tup (pv 1) pe_int (fun _ _ => rfl)) (pe_lst (pa_cons (pe_op op_add (pe_ix ix_list (pe_ix ix_tup (pv 1) pe_int (fun _ _ => rfl)) (pe_un un_neg pe_int) (fun _ _ => rfl)) pe_int) pa_nil)))) (pg_name (i := 8) sc_law.nd rfl (by first | exact Or.inl rfl | exact Or.inr rfl))
 (pss_cons (ps_set (i := 9) sc_law.nd rfl (by first | exact Or.inl rfl | exact Or.inr rfl) (pe_call G_new_sets (hr.mono (by decide)) rfl m_new_sets k_new_sets b_new_sets .nil pass0 (pa_cons (pv 2) (pa_cons (pv 5) (pa_cons (pv 8) pa_nil)))))
 (Evl.pss_cut (ps_if (pt_cmpR op_gt (pv 9) pe_int (nomark _))
 (pss_one (ps_expr (pe_bm PySem.F.plainAttrs_list PySem.F.slot_list_append PySem.F.type_list_append mt_append (pv 7) (pa_cons (pe_tup (pa_cons (pv 8) (pa_cons (pv 9) pa_nil))) pa_nil)))) pss_nil)
 (pss_one (ps_if (pt_cmpR op_lt (pe_call G_new_sets (hr.mono (by decide)) rfl m_new_sets k_new_sets b_new_sets .nil pass0 (pa_cons (pv 2) (pa_cons (pv 6) (pa_cons (pv 8) pa_nil)))) (pv 9) (nomark _))
 (pss_one (ps_ret pe_bl)) pss_nil)))))
 (pss_cons (ps_for PassesOwn.never rfl (pi_list (pe_op op_cat (pe_ix ix_tup (pv 1) pe_int (fun _ _ => rfl)) (pe_lst (pa_cons (pe_op op_add (pe_ix ix_list (pe_ix ix_tup (pv 1) pe_int (fun _ _ => rfl)) (pe_un un_neg pe_int) (fun _ _ => rfl)) pe_int) pa_nil)))) (pg_name (i := 8) sc_law.nd rfl (by first | exact Or.inl rfl | exact Or.inr rfl))
 (pss_one (ps_for PassesOwn.never rfl (pi_list (pe_lst (pa_cons (pe_callTy call_list_of (by rfl) m_list (by decide +kernel) (pa_cons (pv 5) pa_nil)) (pa_cons (pe_callTy call_list_of (by rfl) m_list (by decide +kernel) (pa_cons (pv 6) pa_nil)) pa_nil)))) (pg_name (i := 10) sc_law.nd rfl (by first | exact Or.inl rfl | exact Or.inr rfl))
 (pss_cons (ps_set (i := 11) sc_law.nd rfl (by first | exact Or.inl rfl | exact Or.inr rfl) (pe_callTy call_list_of (by rfl) m_list (by decide +kernel) (pa_cons (pv 10) pa_nil)))
 (pss_cons (ps_set (i := 12) sc_law.nd rfl (by first | exact Or.inl rfl | exact Or.inr rfl) (pe_call G_told (hr.mono (by decide)) rfl m_told k_told b_told .nil pass0 (pa_cons (pv 4) (pa_cons (pv 11) (pa_cons (pv 8) (pa_cons (pe_ix ix_tup (pv 1) pe_int (fun _ _ => rfl)) pa_nil))))))
 (pss_cons (ps_if (PW.pt (pw_or (pt_not (pt_val (pe_call G_same (hr.mono (by decide)) rfl m_same k_same b_same .nil pass0 (pa_cons (pe_ix ix_tup (pv 12) pe_int (fun _ _ => rfl)) (pa_cons (pv 5) pa_nil))))) (pw_or (pt_not (pt_val (pe_call G_same (hr.mono (by decide)) rfl m_same k_same b_same .nil pass0 (pa_cons (pe_ix ix_tup (pv 12) pe_int (fun _ _ => rfl)) (pa_cons (pv 7) pa_nil))))) (pw_or1 (pt_cmpR (op_notC (c := true)) (pe_ix ix_tup (pv 12) pe_int (fun _ _ => rfl)) pe_bl (nomark _))))))
 (pss_one (ps_ret pe_bl)) pss_nil)
 (pss_cons (ps_if (pt_not (pt_val (pe_call G_is_deficit (hr.mono (by decide)) rfl m_is_deficit k_is_deficit b_is_deficit .nil pass0 (pa_cons (pv 2) (pa_cons (pv 8) (pa_cons (pv 3) (pa_cons (pe_ix ix_tup (pv 12) pe_int (fun _ _ => rfl)) (pa_cons (pe_call G_new_sets (hr.mono (by decide)) rfl m_new_sets k_new_sets b_new_sets .nil pass0 (pa_cons (pv 2) (pa_cons (pv 5) (pa_cons (pv 8) pa_nil)))) pa_nil))))))))
 (pss_one (ps_ret pe_bl)) pss_nil)
 (pss_one (ps_if (pt_not (pt_val (pe_call G_same (hr.mono (by decide)) rfl m_same k_same b_same .nil pass0 (pa_cons (pv 11) (pa_cons (pv 10) pa_nil)))))
 (pss_one (ps_ret pe_bl)) pss_nil)))))))))
 (pss_one (ps_ret (pe_call G_same (hr.mono (by decide)) rfl m_same k_same b_same .nil pass0 (pa_cons (pv 4) (pa_cons (pv 2) pa_nil)))))))))))))))), ?_⟩
    refine st_asg (P := DayS K) (Ex.refl H) (ex_call1 (ex_var (v := .ref a) rfl) fun G' e => sa_dayS (Evl.ex_l e hs) hn) fun v1 G1 H1 g1 ⟨q, lp, lw, ps, ws0, t, ev, sq, hlp, dw, asc, l1, l4, wo, n1, n2⟩ => ?_
    subst ev
    dsimp only
    have cut : (ws0.map dW).take ((ws0.map dW).length - 1) = (ws0.take (ws0.length - 1)).map dW := by rw [List.length_map, List.map_take]
    refine st_asg (P := LS K ((ws0.take (ws0.length - 1)).map dW)) g1.ok (by rw [← cut]; exact el_init (EF.dv (ex_ixT (i := 1) (ex_var (v := .ref q) rfl) ex_c sq rfl) dw) ex_neg) fun v2 G2 H2 g2 ⟨lx, xx, ev2, hlx, hxx⟩ => ?_
    subst ev2
    have wsl : (ws0.take (ws0.length - 1)).length ≤ 100 := by rw [List.length_take]; omega
    have wo : ∀ v ∈ ws0.take (ws0.length - 1), WkS ps v := fun v hv => wo v (List.take_subset _ _ hv)
    generalize ws0.take (ws0.length - 1) = ws at hxx wsl wo
    have dws : Dp K G2 (.ref lx) (dWs ws) := dp_mkL hlx hxx
    have bad := wks_bad wo
    dsimp only
    refine st_asg (P := XV (.int (gapOf t))) g2.ok (ex_max (a := 0) (b := t) ex_c (ex_ixT (i := 2) (ex_var (v := .ref q) rfl) ex_c (Evl.ex_t g2.up sq) rfl) (by unfold gapOf; split <;> split <;> omega)) fun v3 G3 H3 g3 p3 => ?_
    cases (show v3 = _ from p3)
    dsimp only
    have dws3 := dpx dws g3.up
    refine st_asg (P := LS K (ws.map dW)) g3.ok (el_list (EF.dv (ex_var (v := .ref lx) rfl) dws3)) fun v4 G4 H4 g4 ⟨l4', x4, ev4, hl4, hx4⟩ => ?_
    subst ev4
    have dpa4 : Dp K G4 (.ref l4') (dWs ws) := dp_mkL hl4 hx4
    dsimp only
    refine st_asg (P := DV K (dPs (srtP (linksP (gapOf t) ws)))) g4.ok (ef_callK (ea_x (ex_var (v := .ref l4') rfl) ea_nil) (ea_x (ex_var (v := .int (gapOf t)) rfl) ea_nil) fun G' e => sa_linkN (gap := gapOf t) (dpx dpa4 e) (by omega) bad) fun v5 G5 H5 g5 p5 => ?_
    obtain ⟨b5, x5, ev5, s5, hx5⟩ := dp_lst p5
    subst ev5
    dsimp only
    have ll := @lnk_len (gapOf t) ws
    have fl : fitsB ws (gapOf t) (srtP (linksP (gapOf t) ws)) = true := fits_srt linP_ok
    have sl := srtP_sorted (linksP (gapOf t) ws)
    refine st_if0 g5.ok (et_not (et_B (EF.bl (ex_call3 (P := XV (.bl true)) (ex_var (v := .ref lx) rfl) (ex_var (v := .ref b5) rfl) (ex_var (v := .int (gapOf t)) rfl) fun G' e => sa_isR (dpx dws3 ((g4.up.trans g5.up).trans e)) (dpx p5 e) (by omega) ll fl sl) rfl))) fun H6 e6 => ?_
    refine st_asg (P := LS K ((srtP (linksP (gapOf t) ws)).map dP)) (g5.ok.trans e6) (el_list (EF.dv (ex_var (v := .ref b5) rfl) p5)) fun v6 G6 H7 g6 ⟨b6, x6, ev6, hb6, hx6⟩ => ?_
    subst ev6
    have dl6 : Dp K G6 (.ref b6) (dPs (srtP (linksP (gapOf t) ws))) := dp_mkL hb6 hx6
    have u36 : Ex G3 G6 := g4.up.trans (g5.up.trans g6.up)
    have u16 : Ex G1 G6 := g2.up.trans (g3.up.trans u36)
    dsimp only
    refine st_asg (P := FitV K ws (gapOf t)) g6.ok (ex_call3 (ex_var (v := .ref lx) rfl) (ex_var (v := .int (gapOf t)) rfl) (ex_var (v := .ref a) rfl) fun G' e => sa_othL (dpx dws3 (u36.trans e)) (by omega) (Evl.ex_l (g1.up.trans (u16.trans e)) hs) hn) fun v7 G7 H8 g7 ⟨ls2, fit2, len2, b7, x7, ev7, hb7, hx7⟩ => ?_
    subst ev7
    have dl7 : Dp K G7 (.ref b7) (dPs ls2) := dp_mkL hb7 hx7
    have dl6' := dpx dl6 g7.up
    have dws7 := dpx dws3 (u36.trans g7.up)
    have dpa7 := dpx dpa4 (g5.up.trans (g6.up.trans g7.up))
    have sq7 := Evl.ex_t (u16.trans g7.up) sq
    have hlp7 := (u16.trans g7.up) _ _ hlp
    obtain ⟨last, hll⟩ : ∃ last, ps[ps.length - 1]? = some last := ⟨_, List.getElem?_eq_getElem (by omega)⟩
    obtain ⟨qs, hqs⟩ : ∃ qs, qs = ps ++ [last + 7] := ⟨_, rfl⟩
    have hlm : ∀ x ∈ ps, x ≤ last := fun x hx => by
      obtain ⟨i, hi, rfl⟩ := List.getElem_of_mem hx
      obtain ⟨hj, e⟩ := List.getElem?_eq_some_iff.mp hll
      rw [← e]
      by_cases z : i = ps.length - 1
      · subst z; exact Int.le_refl _
      · exact Int.le_of_lt (List.pairwise_iff_getElem.mp asc i (ps.length - 1) hi hj (by omega))
    have asc' : qs.Pairwise (· < ·) := by
      rw [hqs, List.pairwise_append]
      exact ⟨asc, by simp, fun x hx y hy => by cases List.mem_singleton.mp hy; have := hlm x hx; omega⟩
    have ho' : ∀ v ∈ ws, WOk qs v := fun v hv => ⟨by rw [hqs]; exact List.mem_append_left _ (wo v hv).1.1, by rw [hqs]; exact List.mem_append_left _ (wo v hv).1.2⟩
    have hql : qs.length ≤ 5 := by rw [hqs, List.length_append, List.length_singleton]; omega
    have src : ∀ {σ : L2.St} {G' : Hp}, Ex G7 G' → σ[1]? = some (some (.ref q)) → EF (tOp rCat (tOp (rIxT K) (tVar 1) (tC (.int 0))) (tLst (tCons (tOp (rI0 fun i j => .int (i + j)) (tOp (rIxL K) (tOp (rIxT K) (tVar 1) (tC (.int 0))) (tUn (rU fun i => .int (-i)) (tC (.int 1)))) (tC (.int 7))) tNil))) σ G' (DV K (dI qs)) := fun {σ G'} e h => by
      have d0 : EF (tOp (rIxT K) (tVar 1) (tC (.int 0))) σ G' (XV (.ref lp)) := ex_ixT (i := 0) (ex_var h) ex_c (Evl.ex_t e sq7) rfl
      have e1 := el_cat (K := K) (ls := ps.map PyData.int) (ms := [PyData.int (last + 7)]) (d0.imp fun v G'' e2 p => ⟨lp, _, p, e2 _ _ (e _ _ hlp7), dpa_ints ps⟩)
        (el_lst (ta := tCons (tOp (rI0 fun i j => .int (i + j)) (tOp (rIxL K) (tOp (rIxT K) (tVar 1) (tC (.int 0))) (tUn (rU fun i => .int (-i)) (tC (.int 1)))) (tC (.int 7))) tNil) (R := fun vs _ => vs = [.int (last + 7)]) ((ea_one (ex_add (a := last) (ex_ixLast d0 ex_neg (Evl.sq_of (e _ _ hlp7)) (by rw [List.length_map, List.getElem?_map, hll]; rfl)) (ex_c (v := .int 7)))).imp fun vs G' _ ⟨x, ev, hx⟩ => by rw [ev, show x = _ from hx]) (by simp) fun vs G' _ ev => by rw [ev]; exact .cons (.int _) .nil) (by rw [List.length_map]; simp; omega)
      refine e1.ls_dv.imp fun v G' _ p => ?_
      rw [hqs]
      unfold dI
      rw [List.map_append]
      exact p
    dsimp only
    refine ⟨by decide, fun l hl0 => ?_⟩
    dsimp only
    have gl : G7 l = none := none_back g7.ok hl0
    have hX : Ex G7 (upd H8 l (.lst [])) := ex_off g7.ok gl
    refine st_forE (ds := qs.map PyData.int) hX (src (Ex.refl G7) rfl) fun G8 H9 c ys g8 hys hdy => ⟨fun i σ' H' => (∃ (G' : Hp) (vl : List V), Gr G8 G' H8 H' ∧ G' l = none ∧ H' l = some (.lst vl) ∧ DpAll K G' vl ((setsOf (gapOf t) ws (qs.take i)).map dP)) ∧ ∃ v8 v9, σ' = [some (.ref a), some (.ref q), some (.ref lx), some (.int (gapOf t)), some (.ref l4'), some (.ref b6), some (.ref b7), some (.ref l), v8, v9, none, none, none], ?_, fun i σ' H' hw => ?_, fun i y σ' H' hi hw => ?_, fun σ' H' hw => ?_⟩
    · exact ⟨⟨G8, [], ⟨Ex.refl _, g8.ok, (ex_in hl0).trans g8.hp, fun _ _ h => h⟩, g8.2.2.2 l (by rw [upd_same]; exact fun z => nomatch z) gl, g8.hp _ _ upd_same, .nil⟩, _, _, rfl⟩
    · obtain ⟨⟨G', vl, g, _⟩, _⟩ := hw
      exact g.up.trans g.ok
    · obtain ⟨⟨G', vl, g, gl', hl', dvl⟩, v8, v9, rfl⟩ := hw
      rw [dpa_ints_eq hdy, List.getElem?_map] at hi
      obtain ⟨p, hp, rfl⟩ := Option.map_eq_some_iff.mp hi
      have il : i < qs.length := (List.getElem?_eq_some_iff.mp hp).1
      have eG : Ex G7 G' := g8.up.trans g.up
      refine st_asg (P := XV (.int (topAt (gapOf t) ws p))) g.ok ((ex_call3 (P := XV (.int ((newS ws (srtP (linksP (gapOf t) ws)) p).length : Nat))) (ex_var (v := .ref lx) rfl) (ex_var (v := .ref b6) rfl) (ex_var (v := .int p) rfl) fun G'' e => sa_new (p := p) (dpx dws7 (eG.trans e)) (dpx dl6' (eG.trans e)) (by omega) (by omega)).imp fun v _ _ pv => by rw [show v = _ from pv, new_at]; rfl) fun v9' G9 H10 g9 p9 => ?_
      cases (show v9' = _ from p9)
      dsimp only
      have gl9 : G9 l = none := g9.2.2.2 l (ne_none_of hl') gl'
      have hl9 := g9.hp _ _ hl'
      have gA := g.trans g9
      have nx : setsOf (gapOf t) ws (qs.take (i + 1)) = setsOf (gapOf t) ws (qs.take i) ++ if topAt (gapOf t) ws p > 0 then [(p, topAt (gapOf t) ws p)] else [] := by rw [List.take_succ, hp, Option.toList_some, sets_snoc]
      have sln := @sets_lenL (gapOf t) ws (qs.take i)
      rw [List.length_take] at sln
      refine ⟨fun σ' H' => (∃ (G' : Hp) (vl : List V), Gr G8 G' H8 H' ∧ G' l = none ∧ H' l = some (.lst vl) ∧ DpAll K G' vl ((setsOf (gapOf t) ws (qs.take (i + 1))).map dP)) ∧ σ' = [some (.ref a), some (.ref q), some (.ref lx), some (.int (gapOf t)), some (.ref l4'), some (.ref b6), some (.ref b7), some (.ref l), some (.int p), some (.int (topAt (gapOf t) ws p)), none, none, none], ?_, ?_⟩
      · refine st_if (p := (· = decide (topAt (gapOf t) ws p > 0))) g9.ok (et_gtI (ex_var (v := .int (topAt (gapOf t) ws p)) rfl) (ex_c (v := .int 0))) (fun c1 H11 e11 => ?_) (fun c1 H11 e11 => ?_)
        · rw [if_pos (of_decide_eq_true c1.symm)] at nx
          refine st_app (P := DV K (dP (p, topAt (gapOf t) ws p))) (g9.ok.trans e11) (e11 _ _ hl9) (ex_var (v := .ref l) rfl) (ef_pairI (ex_var (v := .int p) rfl) (ex_var (v := .int (topAt (gapOf t) ws p)) rfl)) (by rw [dpa_len dvl, List.length_map]; omega) fun v10 G10 H12 g10 p10 => ?_
          have gl10 : G10 l = none := g10.2.2.2 l (ne_none_of (e11 _ _ hl9)) gl9
          refine ⟨⟨G10, vl ++ [v10], ((gA.then e11).trans g10).put hl0 gl10, gl10, upd_same, ?_⟩, rfl⟩
          rw [nx, List.map_append]
          exact dpa_snoc (dpax dvl (g9.up.trans g10.up)) p10
        · rw [if_neg (of_decide_eq_false c1.symm), List.append_nil] at nx
          exact ⟨⟨G9, vl, gA.then e11, gl9, e11 _ _ hl9, by rw [nx]; exact dpax dvl g9.up⟩, rfl⟩
      · rintro σ1 H11 ⟨⟨G10, vl', g10, gl10, hl10, dvl10⟩, rfl⟩
        exact st_if0 (g10.ok) ((et_ltI (a := ((newS ws ls2 p).length : Nat)) (ex_call3 (ex_var (v := .ref lx) rfl) (ex_var (v := .ref b7) rfl) (ex_var (v := .int p) rfl) fun G'' e => sa_new (p := p) (dpx dws7 ((g8.up.trans g10.up).trans e)) (dpx dl7 ((g8.up.trans g10.up).trans e)) (by omega) (by omega)) (ex_var (v := .int (topAt (gapOf t) ws p)) rfl)).imp fun c hc => by rw [hc]; exact decide_eq_false (by have := low_top (p := p) fit2; omega)) fun H12 e12 => ⟨⟨G10, vl', g10.then e12, gl10, e12 _ _ hl10, dvl10⟩, _, _, rfl⟩
    · obtain ⟨⟨G', vl, g, gl', hl', dvl⟩, v8, v9, rfl⟩ := hw
      have tk : qs.take ys.length = qs := List.take_of_length_le (by have := dpa_len hdy; rw [List.length_map] at this; omega)
      rw [tk] at dvl
      have eK : Ex (upd G' l (.lst vl)) H' := ex_know g.ok hl'
      have eU : Ex G7 (upd G' l (.lst vl)) := (g8.up.trans g.up).trans (ex_in gl')
      have dst : Dp K (upd G' l (.lst vl)) (.ref l) (dPs (setsOf (gapOf t) ws qs)) := dp_mkL upd_same (dpax dvl (ex_in gl'))
      generalize upd G' l (.lst vl) = GK at eK eU dst
      dsimp only
      refine st_forE (ds := qs.map PyData.int) eK (src eU rfl) fun G9 H10 c2 ys2 g9 hys2 hdy2 => ⟨fun i σ' H' => Ex H10 H' ∧ ∃ v8 v9 v10 v11 v12, σ' = [some (.ref a), some (.ref q), some (.ref lx), some (.int (gapOf t)), some (.ref l4'), some (.ref b6), some (.ref b7), some (.ref l), v8, v9, v10, v11, v12], ⟨Ex.refl _, _, _, _, _, _, rfl⟩, fun i σ' H' hw => g9.ok.trans hw.1, fun i y σ' H' hi hw => ?_, fun σ' H' hw => ?_⟩
      · obtain ⟨e10, v8', v9', v10, v11, v12, rfl⟩ := hw
        rw [dpa_ints_eq hdy2, List.getElem?_map] at hi
        obtain ⟨p, hp, rfl⟩ := Option.map_eq_some_iff.mp hi
        have eA : Ex G7 G9 := eU.trans g9.up
        refine st_forE (ds := [dPs (srtP (linksP (gapOf t) ws)), dPs ls2]) (g9.ok.trans e10) (ef_lst (ea_two mo_LS mo_LS (el_list (EF.dv (ex_var (v := .ref b6) rfl) (dpx dl6' eA))) (el_list (EF.dv (ex_var (v := .ref b7) rfl) (dpx dl7 eA)))) (fun vs _ ⟨x, y, ev, _⟩ => by rw [ev]; simp) fun r vs G' _ _ hr' ⟨x, y, ev, hx, hy⟩ => dp_mkL upd_same (by rw [ev]; exact .cons (dpx hx.dp (ex_in hr')) (.cons (dpx hy.dp (ex_in hr')) .nil))) fun G10 H11 c3 ys3 g10 hys3 hdy3 => ⟨fun j σ' H' => Ex H11 H' ∧ ∃ v10 v11 v12, σ' = [some (.ref a), some (.ref q), some (.ref lx), some (.int (gapOf t)), some (.ref l4'), some (.ref b6), some (.ref b7), some (.ref l), some (.int p), v9', v10, v11, v12], ⟨Ex.refl _, _, _, _, rfl⟩, fun j σ' H' hw => g10.ok.trans hw.1, fun j y σ' H' hj hw => ?_, fun σ' H' hw => ?_⟩
        · obtain ⟨e11, v10', v11', v12', rfl⟩ := hw
          obtain ⟨dd, hd1, dy⟩ := dpa_get hdy3 hj
          obtain ⟨lr, elr, fr, nr⟩ : ∃ lr : List (Int × Int), dd = dPs lr ∧ fitsB ws (gapOf t) lr = true ∧ lr.length ≤ 200 := by
            match j, hd1 with
            | 0, hd1 => cases hd1; exact ⟨_, rfl, fl, by omega⟩
            | 1, hd1 => cases hd1; exact ⟨_, rfl, fit2, len2⟩
            | j + 2, hd1 => simp at hd1
          subst elr
          obtain ⟨bw, xy, ey, sy, hxy⟩ := dp_lst dy
          subst ey
          refine st_asg (P := LS K (lr.map dP)) (g10.ok.trans e11) (el_list (EF.dv (ex_var (v := .ref bw) rfl) dy)) fun v11 G11 H12 g11 ⟨b11, x11, ev11, hb11, hx11⟩ => ?_
          subst ev11
          have d11 : Dp K G11 (.ref b11) (dPs lr) := dp_mkL hb11 hx11
          have eB : Ex G7 G11 := eA.trans (g10.up.trans g11.up)
          dsimp only
          refine st_asg (P := DV K (tolD ws qs p (gapOf t))) g11.ok (ex_call4 (ex_var (v := .ref l4') rfl) (ex_var (v := .ref b11) rfl) (ex_var (v := .int p) rfl) (ex_ixT (i := 2) (ex_var (v := .ref q) rfl) ex_c (Evl.ex_t eB sq7) rfl) fun G' e => sa_tol (t := t) (dpx dpa7 (eB.trans e)) (dpx d11 e) (by omega) (by omega) bad fr asc' ho') fun v12 G12 H13 g12 p12 => ?_
          obtain ⟨b12, x12, ev12, s12, hx12⟩ := dp_tup p12
          subst ev12
          obtain ⟨y0, y1, y2, ey, d0, d1, d2⟩ : ∃ y0 y1 y2, x12 = [y0, y1, y2, .bl true] ∧ Dp K G12 y0 (dPs (srtP (linksP (gapOf t) ws))) ∧ Dp K G12 y1 (dPs (setsOf (gapOf t) ws qs)) ∧ Dp K G12 y2 (dTop (topP (evs (gapOf t) p ws))) := by
            cases hx12 with
            | cons q0 r => cases r with
              | cons q1 r => cases r with
                | cons q2 r => cases r with
                  | cons q3 r => cases r; cases q3; exact ⟨_, _, _, rfl, q0, q1, q2⟩
          subst ey
          have eC : Ex G7 G12 := eB.trans g12.up
          dsimp only
          refine st_if0 g12.ok (et_or (p := (· = false)) (q := (· = false)) (s := (· = false)) (et_not (et_B (EF.bl (ex_call2 (P := XV (.bl true)) (ex_ixT (i := 0) (ex_var (v := .ref b12) rfl) ex_c s12 rfl) (ex_var (v := .ref b6) rfl) fun G' e => sa_sameB (dpx d0 e) (dpx dl6' (eC.trans e)) (okb_psL _ (by omega))) rfl))) (fun _ => et_or (p := (· = false)) (q := (· = false)) (s := (· = false)) (et_not (et_B (EF.bl (ex_call2 (P := XV (.bl true)) (ex_ixT (i := 1) (ex_var (v := .ref b12) rfl) ex_c s12 rfl) (ex_var (v := .ref l) rfl) fun G' e => sa_sameB (dpx d1 e) (dpx dst ((g9.up.trans (g10.up.trans (g11.up.trans g12.up))).trans e)) (okb_psL _ (by have := @sets_lenL (gapOf t) ws qs; omega))) rfl))) (fun _ => et_notC (ex_ixT (i := 3) (ex_var (v := .ref b12) rfl) ex_c s12 rfl) ex_c) (fun z => nomatch z) fun _ c hc => hc) (fun z => nomatch z) fun _ c hc => hc) fun H14 e14 => ?_
          refine st_if0 (g12.ok.trans e14) (et_not (et_B (EF.bl (ef_call (P := XV (.bl true)) (ea_x (ex_var (v := .ref lx) rfl) (ea_x (ex_var (v := .int p) rfl) (ea_x (ex_var (v := .int (gapOf t)) rfl) (ea_x (ex_ixT (i := 2) (ex_var (v := .ref b12) rfl) ex_c s12 rfl) (ea_x (x := .int (topAt (gapOf t) ws p)) ((ex_call3 (P := XV (.int ((newS ws (srtP (linksP (gapOf t) ws)) p).length : Nat))) (ex_var (v := .ref lx) rfl) (ex_var (v := .ref b6) rfl) (ex_var (v := .int p) rfl) fun G'' e => sa_new (p := p) (dpx dws7 (eC.trans e)) (dpx dl6' (eC.trans e)) (by omega) (by omega)).imp fun v _ _ pv => by rw [show v = _ from pv, new_at]; rfl) ea_nil))))) fun vs G' e ev => by rw [ev]; exact sa_isD (dpx dws7 (eC.trans e)) (dpx d2 e) (by omega)) rfl))) fun H15 e15 => ?_
          exact st_if0 (g12.ok.trans (e14.trans e15)) (et_not (et_B (EF.bl (ex_call2 (P := XV (.bl true)) (ex_var (v := .ref b11) rfl) (ex_var (v := .ref bw) rfl) fun G' e => sa_sameB (dpx d11 (g12.up.trans e)) (dpx dy ((g11.up.trans g12.up).trans e)) (okb_psL _ (by omega))) rfl))) fun H16 e16 => ⟨e11.trans (g11.hp.trans (g12.hp.trans (e14.trans (e15.trans e16)))), _, _, _, rfl⟩
        · obtain ⟨e11, v10', v11', v12', rfl⟩ := hw
          exact ⟨e10.trans (g10.hp.trans e11), _, _, _, _, _, rfl⟩
      · obtain ⟨e10, v8', v9', v10, v11, v12, rfl⟩ := hw
        have eA : Ex G7 G9 := eU.trans g9.up
        dsimp only
        refine st_ret (σ := [some (.ref a), some (.ref q), some (.ref lx), some (.int (gapOf t)), some (.ref l4'), some (.ref b6), some (.ref b7), some (.ref l), v8', v9', v10, v11, v12]) (P := XV (.bl true)) (g9.ok.trans e10) (ex_call2 (ex_var (v := .ref l4') rfl) (ex_var (v := .ref lx) rfl) fun G' e => sa_sameB (dpx dpa7 (eA.trans e)) (dpx dws7 (eA.trans e)) (okb_wsL _ (by omega))) fun v G' H' g p => ?_
        cases (show v = _ from p)
        exact k _
end
end Kx

set_option Elab.async false
set_option linter.all false
set_option maxRecDepth 100000
set_option maxHeartbeats 4000000
namespace Kx
open PySem L2 Lw
theorem wpAny_iteF {M : Model} {A : Around} {α : Type} {c : Prop} [Decidable c] {x y : Sem α} {Q : α → Shared → Prop} {E : Value → Shared → Prop} {s : Shared} (h : ¬ c) (k : wpAny M A y Q E s) : wpAny M A (if c then x else y) Q E s := by rw [if_neg h]; exact k
theorem wpAny_iteT {M : Model} {A : Around} {α : Type} {c : Prop} [Decidable c] {x y : Sem α} {Q : α → Shared → Prop} {E : Value → Shared → Prop} {s : Shared} (h : c) (k : wpAny M A x Q E s) : wpAny M A (if c then x else y) Q E s := by rw [if_pos h]; exact k
theorem binds_is_linking {K : PySem.W.Frag} {aD : Addr} {u : Value} {dc pm : Value} {an : Option Addr} {cd ct : Value} (dY : PySem.W.nsIn K aD "turning" = some (some u)) : Binds K (PySem.W.fnOf "is_linking" "is_linking" (defArgs s_is_linking) (defBody s_is_linking) (defScope s_is_linking) .none (.ref aD) dc pm an cd ct) ["workings", "links", "turning"] [u] := by
  intro s us hK hl
  have h3 : us.length = 2 := by simpa using hl
  match us, h3 with
  | [a, b], _ =>
    intro M A E Q q
    have ha : ∃ p1 p2 p3 p4, defArgs s_is_linking = p1 := ⟨_, 0, 0, 0, rfl⟩
    unfold bindArgs
    dsimp only [PySem.W.fnOf]
    generalize hx : defArgs s_is_linking = ar
    have hn : (List.map (fun x => x.arg) ar.posonlyargs ++ List.map (fun x => x.arg) ar.args) = (["workings", "links"] : List Str) := by rw [← hx]; rfl
    have hk : List.map (fun x => x.arg) ar.kwonlyargs = (["turning"] : List Str) := by rw [← hx]; rfl
    have hv : ar.vararg = none := by rw [← hx]; rfl
    have hw : ar.kwarg = none := by rw [← hx]; rfl
    clear hx ha
    simp only [hn, hk, hv, hw]
    refine wpAny_bind (wpAny_pure ?_)
    refine wpAny_bind (wpAny_pure ?_)
    clear hn hk hv hw
    have nf : ∀ {b : Bool}, b = false → ¬ (b = true) := fun h z => by rw [h] at z; cases z
    refine wpAny_iteF (nf rfl) ?_
    refine wpAny_iteF (nf rfl) ?_
    refine wpAny_bind (wpAny_pure ?_)
    refine wpAny_bind ?_
    refine wpAny_bind ?_
    refine wpAny_iteT rfl ?_
    refine wpAny_bind (PySem.W.looks_nsIn hK dY A _ E s (fun _ _ h => h) ?_)
    refine wpAny_pure ?_
    refine wpAny_pure ?_
    refine wpAny_iteF (nf rfl) ?_
    exact wpAny_pure q
theorem binds_deficit {K : PySem.W.Frag} {aD : Addr} {u : Value} {dc pm : Value} {an : Option Addr} {cd ct : Value} (dY : PySem.W.nsIn K aD "turning" = some (some u)) : Binds K (PySem.W.fnOf "deficit" "deficit" (defArgs s_deficit) (defBody s_deficit) (defScope s_deficit) .none (.ref aD) dc pm an cd ct) ["workings", "place", "turning"] [u] := by
  intro s us hK hl
  have h3 : us.length = 2 := by simpa using hl
  match us, h3 with
  | [a, b], _ =>
    intro M A E Q q
    have ha : ∃ p1 p2 p3 p4, defArgs s_deficit = p1 := ⟨_, 0, 0, 0, rfl⟩
    unfold bindArgs
    dsimp only [PySem.W.fnOf]
    generalize hx : defArgs s_deficit = ar
    have hn : (List.map (fun x => x.arg) ar.posonlyargs ++ List.map (fun x => x.arg) ar.args) = (["workings", "place"] : List Str) := by rw [← hx]; rfl
    have hk : List.map (fun x => x.arg) ar.kwonlyargs = (["turning"] : List Str) := by rw [← hx]; rfl
    have hv : ar.vararg = none := by rw [← hx]; rfl
    have hw : ar.kwarg = none := by rw [← hx]; rfl
    clear hx ha
    simp only [hn, hk, hv, hw]
    refine wpAny_bind (wpAny_pure ?_)
    refine wpAny_bind (wpAny_pure ?_)
    clear hn hk hv hw
    have nf : ∀ {b : Bool}, b = false → ¬ (b = true) := fun h z => by rw [h] at z; cases z
    refine wpAny_iteF (nf rfl) ?_
    refine wpAny_iteF (nf rfl) ?_
    refine wpAny_bind (wpAny_pure ?_)
    refine wpAny_bind ?_
    refine wpAny_bind ?_
    refine wpAny_iteT rfl ?_
    refine wpAny_bind (PySem.W.looks_nsIn hK dY A _ E s (fun _ _ h => h) ?_)
    refine wpAny_pure ?_
    refine wpAny_pure ?_
    refine wpAny_iteF (nf rfl) ?_
    exact wpAny_pure q
theorem binds_link {K : PySem.W.Frag} {aD : Addr} {u : Value} {dc pm : Value} {an : Option Addr} {cd ct : Value} (dY : PySem.W.nsIn K aD "turning" = some (some u)) : Binds K (PySem.W.fnOf "link" "link" (defArgs s_link) (defBody s_link) (defScope s_link) .none (.ref aD) dc pm an cd ct) ["workings", "turning"] [u] := by
  intro s us hK hl
  have h3 : us.length = 1 := by simpa using hl
  match us, h3 with
  | [a], _ =>
    intro M A E Q q
    have ha : ∃ p1 p2 p3 p4, defArgs s_link = p1 := ⟨_, 0, 0, 0, rfl⟩
    unfold bindArgs
    dsimp only [PySem.W.fnOf]
    generalize hx : defArgs s_link = ar
    have hn : (List.map (fun x => x.arg) ar.posonlyargs ++ List.map (fun x => x.arg) ar.args) = (["workings"] : List Str) := by rw [← hx]; rfl
    have hk : List.map (fun x => x.arg) ar.kwonlyargs = (["turning"] : List Str) := by rw [← hx]; rfl
    have hv : ar.vararg = none := by rw [← hx]; rfl
    have hw : ar.kwarg = none := by rw [← hx]; rfl
    clear hx ha
    simp only [hn, hk, hv, hw]
    refine wpAny_bind (wpAny_pure ?_)
    refine wpAny_bind (wpAny_pure ?_)
    clear hn hk hv hw
    have nf : ∀ {b : Bool}, b = false → ¬ (b = true) := fun h z => by rw [h] at z; cases z
    refine wpAny_iteF (nf rfl) ?_
    refine wpAny_iteF (nf rfl) ?_
    refine wpAny_bind (wpAny_pure ?_)
    refine wpAny_bind ?_
    refine wpAny_bind ?_
    refine wpAny_iteT rfl ?_
    refine wpAny_bind (PySem.W.looks_nsIn hK dY A _ E s (fun _ _ h => h) ?_)
    refine wpAny_pure ?_
    refine wpAny_pure ?_
    refine wpAny_iteF (nf rfl) ?_
    exact wpAny_pure q
theorem binds_least_sets {K : PySem.W.Frag} {aD : Addr} {u : Value} {dc pm : Value} {an : Option Addr} {cd ct : Value} (dY : PySem.W.nsIn K aD "turning" = some (some u)) : Binds K (PySem.W.fnOf "least_sets" "least_sets" (defArgs s_least_sets) (defBody s_least_sets) (defScope s_least_sets) .none (.ref aD) dc pm an cd ct) ["workings", "turning"] [u] := by
  intro s us hK hl
  have h3 : us.length = 1 := by simpa using hl
  match us, h3 with
  | [a], _ =>
    intro M A E Q q
    have ha : ∃ p1 p2 p3 p4, defArgs s_least_sets = p1 := ⟨_, 0, 0, 0, rfl⟩
    unfold bindArgs
    dsimp only [PySem.W.fnOf]
    generalize hx : defArgs s_least_sets = ar
    have hn : (List.map (fun x => x.arg) ar.posonlyargs ++ List.map (fun x => x.arg) ar.args) = (["workings"] : List Str) := by rw [← hx]; rfl
    have hk : List.map (fun x => x.arg) ar.kwonlyargs = (["turning"] : List Str) := by rw [← hx]; rfl
    have hv : ar.vararg = none := by rw [← hx]; rfl
    have hw : ar.kwarg = none := by rw [← hx]; rfl
    clear hx ha
    simp only [hn, hk, hv, hw]
    refine wpAny_bind (wpAny_pure ?_)
    refine wpAny_bind (wpAny_pure ?_)
    clear hn hk hv hw
    have nf : ∀ {b : Bool}, b = false → ¬ (b = true) := fun h z => by rw [h] at z; cases z
    refine wpAny_iteF (nf rfl) ?_
    refine wpAny_iteF (nf rfl) ?_
    refine wpAny_bind (wpAny_pure ?_)
    refine wpAny_bind ?_
    refine wpAny_bind ?_
    refine wpAny_iteT rfl ?_
    refine wpAny_bind (PySem.W.looks_nsIn hK dY A _ E s (fun _ _ h => h) ?_)
    refine wpAny_pure ?_
    refine wpAny_pure ?_
    refine wpAny_iteF (nf rfl) ?_
    exact wpAny_pure q
end Kx

set_option Elab.async false
set_option linter.all false
set_option maxRecDepth 100000
set_option maxHeartbeats 16000000
namespace Kx
open PySem L2 Lw
open Evl (Ex)

theorem exm_sub {K : PySem.W.Frag} {S R : Addr} {b : Bool} (h1 : PySem.W.subIn K (.ref R) (.type "BaseException") = some true) (h2 : PySem.W.isClsIn K R = true) (h3 : PySem.W.typeIn K (.ref R) = some (.type "type")) (h4 : PySem.W.subIn K (.ref S) (.ref R) = some b) : PySem.W.exmOne K (.ref S) (.ref R) = some b := by
  have e1 : (PySem.W.subIn K (.ref R) (.type "BaseException") == some true) = true := by rw [h1] <;> rfl
  have e2 : ((PySem.W.clsIn K R).isSome && PySem.W.typeIn K (.ref R) == some (.type "type")) = true := by
    have h2' : (PySem.W.clsIn K R).isSome = true := h2
    rw [h2', h3] <;> rfl
  unfold PySem.W.exmOne
  rw [if_pos e1]
  show (if ((PySem.W.clsIn K R).isSome && PySem.W.typeIn K (.ref R) == some (.type "type")) = true then PySem.W.subIn K (.ref S) (.ref R) else none) = some b
  rw [if_pos e2]
  exact h4
theorem all_mk {l : PySem.W.OpenLaw} {w : World} {K : PySem.W.Frag} {h : Heap} {mg : Str → Option Value} {tk_deficit : Tok} {aD_deficit fa f__check_workings f__changes f__greatest_surplus f__arrivals f__departures f__may_link f_deficit f_least_sets f_link f_is_linking f_cell f_draw f_same f_places f_working f_day f_goes_on f_is_pair f_is_run f_other_links f_new_sets f_surplus f_is_deficit f_told f_law  : Addr} (X : K.In h) (G : h.Ns mainGlobals mg) (hfa : mg "law" = some (.ref fa))
    
    {od__check_workings an__check_workings od__changes an__changes od__greatest_surplus an__greatest_surplus od__arrivals an__arrivals od__departures an__departures od__may_link an__may_link od_deficit an_deficit od_least_sets an_least_sets od_link an_link od_is_linking an_is_linking od_cell an_cell od_draw an_draw od_same an_same od_places an_places od_working an_working od_day an_day od_goes_on an_goes_on od_is_pair an_is_pair od_is_run an_is_run od_other_links an_other_links od_new_sets an_new_sets od_surplus an_surplus od_is_deficit an_is_deficit od_told an_told od_law an_law : Option Addr} {sl__check_workings sl__changes sl__greatest_surplus sl__arrivals sl__departures sl__may_link sl_deficit sl_least_sets sl_link sl_is_linking sl_cell sl_draw sl_same sl_places sl_working sl_day sl_goes_on sl_is_pair sl_is_run sl_other_links sl_new_sets sl_surplus sl_is_deficit sl_told sl_law : Array (Option Value)} {oc__check_workings kV__check_workings dc__check_workings pm__check_workings cd__check_workings ct__check_workings oc__changes kV__changes dc__changes pm__changes cd__changes ct__changes oc__greatest_surplus kV__greatest_surplus dc__greatest_surplus pm__greatest_surplus cd__greatest_surplus ct__greatest_surplus oc__arrivals kV__arrivals dc__arrivals pm__arrivals cd__arrivals ct__arrivals oc__departures kV__departures dc__departures pm__departures cd__departures ct__departures oc__may_link kV__may_link dc__may_link pm__may_link cd__may_link ct__may_link oc_deficit dc_deficit pm_deficit cd_deficit ct_deficit oc_least_sets dc_least_sets pm_least_sets cd_least_sets ct_least_sets oc_link dc_link pm_link cd_link ct_link oc_is_linking dc_is_linking pm_is_linking cd_is_linking ct_is_linking oc_cell kV_cell dc_cell pm_cell cd_cell ct_cell oc_draw kV_draw dc_draw pm_draw cd_draw ct_draw oc_same kV_same dc_same pm_same cd_same ct_same oc_places kV_places dc_places pm_places cd_places ct_places oc_working kV_working dc_working pm_working cd_working ct_working oc_day kV_day dc_day pm_day cd_day ct_day oc_goes_on kV_goes_on dc_goes_on pm_goes_on cd_goes_on ct_goes_on oc_is_pair kV_is_pair dc_is_pair pm_is_pair cd_is_pair ct_is_pair oc_is_run kV_is_run dc_is_run pm_is_run cd_is_run ct_is_run oc_other_links kV_other_links dc_other_links pm_other_links cd_other_links ct_other_links oc_new_sets kV_new_sets dc_new_sets pm_new_sets cd_new_sets ct_new_sets oc_surplus kV_surplus dc_surplus pm_surplus cd_surplus ct_surplus oc_is_deficit kV_is_deficit dc_is_deficit pm_is_deficit cd_is_deficit ct_is_deficit oc_told kV_told dc_told pm_told cd_told ct_told oc_law kV_law dc_law pm_law cd_law ct_law : Value}
    (a__check_workings : PySem.W.nsIn K mainGlobals "_check_workings" = some (some (.ref f__check_workings)))
    (l__check_workings : K.lookup f__check_workings = some ⟨oc__check_workings, od__check_workings, .func (PySem.W.fnOf "_check_workings" "_check_workings" (defArgs s__check_workings) (defBody s__check_workings) (defScope s__check_workings) .none kV__check_workings dc__check_workings pm__check_workings an__check_workings cd__check_workings ct__check_workings), sl__check_workings⟩) (c__check_workings : PySem.W.codeIn K cd__check_workings "_check_workings" = true) (k__check_workings : PySem.W.keepIn K (.ref f__check_workings) = true)
    (a__changes : PySem.W.nsIn K mainGlobals "_changes" = some (some (.ref f__changes)))
    (l__changes : K.lookup f__changes = some ⟨oc__changes, od__changes, .func (PySem.W.fnOf "_changes" "_changes" (defArgs s__changes) (defBody s__changes) (defScope s__changes) .none kV__changes dc__changes pm__changes an__changes cd__changes ct__changes), sl__changes⟩) (c__changes : PySem.W.codeIn K cd__changes "_changes" = true) (k__changes : PySem.W.keepIn K (.ref f__changes) = true)
    (a__greatest_surplus : PySem.W.nsIn K mainGlobals "_greatest_surplus" = some (some (.ref f__greatest_surplus)))
    (l__greatest_surplus : K.lookup f__greatest_surplus = some ⟨oc__greatest_surplus, od__greatest_surplus, .func (PySem.W.fnOf "_greatest_surplus" "_greatest_surplus" (defArgs s__greatest_surplus) (defBody s__greatest_surplus) (defScope s__greatest_surplus) .none kV__greatest_surplus dc__greatest_surplus pm__greatest_surplus an__greatest_surplus cd__greatest_surplus ct__greatest_surplus), sl__greatest_surplus⟩) (c__greatest_surplus : PySem.W.codeIn K cd__greatest_surplus "_greatest_surplus" = true) (k__greatest_surplus : PySem.W.keepIn K (.ref f__greatest_surplus) = true)
    (a__arrivals : PySem.W.nsIn K mainGlobals "_arrivals" = some (some (.ref f__arrivals)))
    (l__arrivals : K.lookup f__arrivals = some ⟨oc__arrivals, od__arrivals, .func (PySem.W.fnOf "_arrivals" "_arrivals" (defArgs s__arrivals) (defBody s__arrivals) (defScope s__arrivals) .none kV__arrivals dc__arrivals pm__arrivals an__arrivals cd__arrivals ct__arrivals), sl__arrivals⟩) (c__arrivals : PySem.W.codeIn K cd__arrivals "_arrivals" = true) (k__arrivals : PySem.W.keepIn K (.ref f__arrivals) = true)
    (a__departures : PySem.W.nsIn K mainGlobals "_departures" = some (some (.ref f__departures)))
    (l__departures : K.lookup f__departures = some ⟨oc__departures, od__departures, .func (PySem.W.fnOf "_departures" "_departures" (defArgs s__departures) (defBody s__departures) (defScope s__departures) .none kV__departures dc__departures pm__departures an__departures cd__departures ct__departures), sl__departures⟩) (c__departures : PySem.W.codeIn K cd__departures "_departures" = true) (k__departures : PySem.W.keepIn K (.ref f__departures) = true)
    (a__may_link : PySem.W.nsIn K mainGlobals "_may_link" = some (some (.ref f__may_link)))
    (l__may_link : K.lookup f__may_link = some ⟨oc__may_link, od__may_link, .func (PySem.W.fnOf "_may_link" "_may_link" (defArgs s__may_link) (defBody s__may_link) (defScope s__may_link) .none kV__may_link dc__may_link pm__may_link an__may_link cd__may_link ct__may_link), sl__may_link⟩) (c__may_link : PySem.W.codeIn K cd__may_link "_may_link" = true) (k__may_link : PySem.W.keepIn K (.ref f__may_link) = true)
    (a_deficit : PySem.W.nsIn K mainGlobals "deficit" = some (some (.ref f_deficit)))
    (l_deficit : K.lookup f_deficit = some ⟨oc_deficit, od_deficit, .func (PySem.W.fnOf "deficit" "deficit" (defArgs s_deficit) (defBody s_deficit) (defScope s_deficit) .none (.ref aD_deficit) dc_deficit pm_deficit an_deficit cd_deficit ct_deficit), sl_deficit⟩) (c_deficit : PySem.W.codeIn K cd_deficit "deficit" = true) (k_deficit : PySem.W.keepIn K (.ref f_deficit) = true)
    (a_least_sets : PySem.W.nsIn K mainGlobals "least_sets" = some (some (.ref f_least_sets)))
    (l_least_sets : K.lookup f_least_sets = some ⟨oc_least_sets, od_least_sets, .func (PySem.W.fnOf "least_sets" "least_sets" (defArgs s_least_sets) (defBody s_least_sets) (defScope s_least_sets) .none (.ref aD_least_sets) dc_least_sets pm_least_sets an_least_sets cd_least_sets ct_least_sets), sl_least_sets⟩) (c_least_sets : PySem.W.codeIn K cd_least_sets "least_sets" = true) (k_least_sets : PySem.W.keepIn K (.ref f_least_sets) = true)
    (a_link : PySem.W.nsIn K mainGlobals "link" = some (some (.ref f_link)))
    (l_link : K.lookup f_link = some ⟨oc_link, od_link, .func (PySem.W.fnOf "link" "link" (defArgs s_link) (defBody s_link) (defScope s_link) .none (.ref aD_link) dc_link pm_link an_link cd_link ct_link), sl_link⟩) (c_link : PySem.W.codeIn K cd_link "link" = true) (k_link : PySem.W.keepIn K (.ref f_link) = true)
    (a_is_linking : PySem.W.nsIn K mainGlobals "is_linking" = some (some (.ref f_is_linking)))
    (l_is_linking : K.lookup f_is_linking = some ⟨oc_is_linking, od_is_linking, .func (PySem.W.fnOf "is_linking" "is_linking" (defArgs s_is_linking) (defBody s_is_linking) (defScope s_is_linking) .none (.ref aD_is_linking) dc_is_linking pm_is_linking an_is_linking cd_is_linking ct_is_linking), sl_is_linking⟩) (c_is_linking : PySem.W.codeIn K cd_is_linking "is_linking" = true) (k_is_linking : PySem.W.keepIn K (.ref f_is_linking) = true)
    (a_cell : PySem.W.nsIn K mainGlobals "_law_cell" = some (some (.ref f_cell)))
    (l_cell : K.lookup f_cell = some ⟨oc_cell, od_cell, .func (PySem.W.fnOf "_law_cell" "_law_cell" (defArgs s_cell) (defBody s_cell) (defScope s_cell) .none kV_cell dc_cell pm_cell an_cell cd_cell ct_cell), sl_cell⟩) (c_cell : PySem.W.codeIn K cd_cell "_law_cell" = true) (k_cell : PySem.W.keepIn K (.ref f_cell) = true)
    (a_draw : PySem.W.nsIn K mainGlobals "_law_draw" = some (some (.ref f_draw)))
    (l_draw : K.lookup f_draw = some ⟨oc_draw, od_draw, .func (PySem.W.fnOf "_law_draw" "_law_draw" (defArgs s_draw) (defBody s_draw) (defScope s_draw) .none kV_draw dc_draw pm_draw an_draw cd_draw ct_draw), sl_draw⟩) (c_draw : PySem.W.codeIn K cd_draw "_law_draw" = true) (k_draw : PySem.W.keepIn K (.ref f_draw) = true)
    (a_same : PySem.W.nsIn K mainGlobals "_law_same" = some (some (.ref f_same)))
    (l_same : K.lookup f_same = some ⟨oc_same, od_same, .func (PySem.W.fnOf "_law_same" "_law_same" (defArgs s_same) (defBody s_same) (defScope s_same) .none kV_same dc_same pm_same an_same cd_same ct_same), sl_same⟩) (c_same : PySem.W.codeIn K cd_same "_law_same" = true) (k_same : PySem.W.keepIn K (.ref f_same) = true)
    (a_places : PySem.W.nsIn K mainGlobals "_law_places" = some (some (.ref f_places)))
    (l_places : K.lookup f_places = some ⟨oc_places, od_places, .func (PySem.W.fnOf "_law_places" "_law_places" (defArgs s_places) (defBody s_places) (defScope s_places) .none kV_places dc_places pm_places an_places cd_places ct_places), sl_places⟩) (c_places : PySem.W.codeIn K cd_places "_law_places" = true) (k_places : PySem.W.keepIn K (.ref f_places) = true)
    (a_working : PySem.W.nsIn K mainGlobals "_law_working" = some (some (.ref f_working)))
    (l_working : K.lookup f_working = some ⟨oc_working, od_working, .func (PySem.W.fnOf "_law_working" "_law_working" (defArgs s_working) (defBody s_working) (defScope s_working) .none kV_working dc_working pm_working an_working cd_working ct_working), sl_working⟩) (c_working : PySem.W.codeIn K cd_working "_law_working" = true) (k_working : PySem.W.keepIn K (.ref f_working) = true)
    (a_day : PySem.W.nsIn K mainGlobals "_law_day" = some (some (.ref f_day)))
    (l_day : K.lookup f_day = some ⟨oc_day, od_day, .func (PySem.W.fnOf "_law_day" "_law_day" (defArgs s_day) (defBody s_day) (defScope s_day) .none kV_day dc_day pm_day an_day cd_day ct_day), sl_day⟩) (c_day : PySem.W.codeIn K cd_day "_law_day" = true) (k_day : PySem.W.keepIn K (.ref f_day) = true)
    (a_goes_on : PySem.W.nsIn K mainGlobals "_law_goes_on" = some (some (.ref f_goes_on)))
    (l_goes_on : K.lookup f_goes_on = some ⟨oc_goes_on, od_goes_on, .func (PySem.W.fnOf "_law_goes_on" "_law_goes_on" (defArgs s_goes_on) (defBody s_goes_on) (defScope s_goes_on) .none kV_goes_on dc_goes_on pm_goes_on an_goes_on cd_goes_on ct_goes_on), sl_goes_on⟩) (c_goes_on : PySem.W.codeIn K cd_goes_on "_law_goes_on" = true) (k_goes_on : PySem.W.keepIn K (.ref f_goes_on) = true)
    (a_is_pair : PySem.W.nsIn K mainGlobals "_law_is_pair" = some (some (.ref f_is_pair)))
    (l_is_pair : K.lookup f_is_pair = some ⟨oc_is_pair, od_is_pair, .func (PySem.W.fnOf "_law_is_pair" "_law_is_pair" (defArgs s_is_pair) (defBody s_is_pair) (defScope s_is_pair) .none kV_is_pair dc_is_pair pm_is_pair an_is_pair cd_is_pair ct_is_pair), sl_is_pair⟩) (c_is_pair : PySem.W.codeIn K cd_is_pair "_law_is_pair" = true) (k_is_pair : PySem.W.keepIn K (.ref f_is_pair) = true)
    (a_is_run : PySem.W.nsIn K mainGlobals "_law_is_run" = some (some (.ref f_is_run)))
    (l_is_run : K.lookup f_is_run = some ⟨oc_is_run, od_is_run, .func (PySem.W.fnOf "_law_is_run" "_law_is_run" (defArgs s_is_run) (defBody s_is_run) (defScope s_is_run) .none kV_is_run dc_is_run pm_is_run an_is_run cd_is_run ct_is_run), sl_is_run⟩) (c_is_run : PySem.W.codeIn K cd_is_run "_law_is_run" = true) (k_is_run : PySem.W.keepIn K (.ref f_is_run) = true)
    (a_other_links : PySem.W.nsIn K mainGlobals "_law_other_links" = some (some (.ref f_other_links)))
    (l_other_links : K.lookup f_other_links = some ⟨oc_other_links, od_other_links, .func (PySem.W.fnOf "_law_other_links" "_law_other_links" (defArgs s_other_links) (defBody s_other_links) (defScope s_other_links) .none kV_other_links dc_other_links pm_other_links an_other_links cd_other_links ct_other_links), sl_other_links⟩) (c_other_links : PySem.W.codeIn K cd_other_links "_law_other_links" = true) (k_other_links : PySem.W.keepIn K (.ref f_other_links) = true)
    (a_new_sets : PySem.W.nsIn K mainGlobals "_law_new_sets" = some (some (.ref f_new_sets)))
    (l_new_sets : K.lookup f_new_sets = some ⟨oc_new_sets, od_new_sets, .func (PySem.W.fnOf "_law_new_sets" "_law_new_sets" (defArgs s_new_sets) (defBody s_new_sets) (defScope s_new_sets) .none kV_new_sets dc_new_sets pm_new_sets an_new_sets cd_new_sets ct_new_sets), sl_new_sets⟩) (c_new_sets : PySem.W.codeIn K cd_new_sets "_law_new_sets" = true) (k_new_sets : PySem.W.keepIn K (.ref f_new_sets) = true)
    (a_surplus : PySem.W.nsIn K mainGlobals "_law_surplus" = some (some (.ref f_surplus)))
    (l_surplus : K.lookup f_surplus = some ⟨oc_surplus, od_surplus, .func (PySem.W.fnOf "_law_surplus" "_law_surplus" (defArgs s_surplus) (defBody s_surplus) (defScope s_surplus) .none kV_surplus dc_surplus pm_surplus an_surplus cd_surplus ct_surplus), sl_surplus⟩) (c_surplus : PySem.W.codeIn K cd_surplus "_law_surplus" = true) (k_surplus : PySem.W.keepIn K (.ref f_surplus) = true)
    (a_is_deficit : PySem.W.nsIn K mainGlobals "_law_is_deficit" = some (some (.ref f_is_deficit)))
    (l_is_deficit : K.lookup f_is_deficit = some ⟨oc_is_deficit, od_is_deficit, .func (PySem.W.fnOf "_law_is_deficit" "_law_is_deficit" (defArgs s_is_deficit) (defBody s_is_deficit) (defScope s_is_deficit) .none kV_is_deficit dc_is_deficit pm_is_deficit an_is_deficit cd_is_deficit ct_is_deficit), sl_is_deficit⟩) (c_is_deficit : PySem.W.codeIn K cd_is_deficit "_law_is_deficit" = true) (k_is_deficit : PySem.W.keepIn K (.ref f_is_deficit) = true)
    (a_told : PySem.W.nsIn K mainGlobals "_law_told" = some (some (.ref f_told)))
    (l_told : K.lookup f_told = some ⟨oc_told, od_told, .func (PySem.W.fnOf "_law_told" "_law_told" (defArgs s_told) (defBody s_told) (defScope s_told) .none kV_told dc_told pm_told an_told cd_told ct_told), sl_told⟩) (c_told : PySem.W.codeIn K cd_told "_law_told" = true) (k_told : PySem.W.keepIn K (.ref f_told) = true)
    (a_law : PySem.W.nsIn K mainGlobals "law" = some (some (.ref f_law)))
    (l_law : K.lookup f_law = some ⟨oc_law, od_law, .func (PySem.W.fnOf "law" "law" (defArgs s_law) (defBody s_law) (defScope s_law) .none kV_law dc_law pm_law an_law cd_law ct_law), sl_law⟩) (c_law : PySem.W.codeIn K cd_law "law" = true) (k_law : PySem.W.keepIn K (.ref f_law) = true)
    (dK_deficit : PySem.W.nsIn K aD_deficit "turning" = some (some (.int 0 tk_deficit)))
    (dK_least_sets : PySem.W.nsIn K aD_least_sets "turning" = some (some (.int 0 tk_least_sets)))
    (dK_link : PySem.W.nsIn K aD_link "turning" = some (some (.int 0 tk_link)))
    (dK_is_linking : PySem.W.nsIn K aD_is_linking "turning" = some (some (.int 0 tk_is_linking)))
    (z_len : PySem.W.nsIn K mainGlobals "len" = some none)
    (z_abs : PySem.W.nsIn K mainGlobals "abs" = some none)
    (z_min : PySem.W.nsIn K mainGlobals "min" = some none)
    (z_range : PySem.W.nsIn K mainGlobals "range" = some none)
    (z_int : PySem.W.nsIn K mainGlobals "int" = some none)
    (z_str : PySem.W.nsIn K mainGlobals "str" = some none)
    (z_bool : PySem.W.nsIn K mainGlobals "bool" = some none)
    (z_list : PySem.W.nsIn K mainGlobals "list" = some none)
    (z_tuple : PySem.W.nsIn K mainGlobals "tuple" = some none)
    (z_sorted : PySem.W.nsIn K mainGlobals "sorted" = some none)
    (z_isinstance : PySem.W.nsIn K mainGlobals "isinstance" = some none)
    (z_max : PySem.W.nsIn K mainGlobals "max" = some none)
    (z_enumerate : PySem.W.nsIn K mainGlobals "enumerate" = some none)
    (z_set : PySem.W.nsIn K mainGlobals "set" = some none)
    (z_all : PySem.W.nsIn K mainGlobals "all" = some none) :
    ∃ fd : FuncData, (∀ (s : Shared) (v : Value), BindsTo s fd ⟨[v], []⟩ [("_law_script", v)]) ∧ ∀ base : Heap, K.In base → base.Ns mainGlobals mg → FnOk l.prog w K mg base CX0 8 fa fd ["_law_script"] (spLaw K) := by
  have e := hfa.symm.trans (PySem.W.mg_of X G a_law)
  cases e
  have B : Blt mg := ⟨PySem.W.mg_none_of X G z_len, PySem.W.mg_none_of X G z_abs, PySem.W.mg_none_of X G z_min, PySem.W.mg_none_of X G z_range, PySem.W.mg_none_of X G z_int, PySem.W.mg_none_of X G z_str, PySem.W.mg_none_of X G z_bool, PySem.W.mg_none_of X G z_list, PySem.W.mg_none_of X G z_tuple, PySem.W.mg_none_of X G z_sorted, PySem.W.mg_none_of X G z_isinstance⟩
  have F__check_workings := fun_mk (st := s__check_workings) l__check_workings c__check_workings k__check_workings
  have F__changes := fun_mk (st := s__changes) l__changes c__changes k__changes
  have F__greatest_surplus := fun_mk (st := s__greatest_surplus) l__greatest_surplus c__greatest_surplus k__greatest_surplus
  have F__arrivals := fun_mk (st := s__arrivals) l__arrivals c__arrivals k__arrivals
  have F__departures := fun_mk (st := s__departures) l__departures c__departures k__departures
  have F__may_link := fun_mk (st := s__may_link) l__may_link c__may_link k__may_link
  have F_deficit := fun_mk (st := s_deficit) l_deficit c_deficit k_deficit
  have F_least_sets := fun_mk (st := s_least_sets) l_least_sets c_least_sets k_least_sets
  have F_link := fun_mk (st := s_link) l_link c_link k_link
  have F_is_linking := fun_mk (st := s_is_linking) l_is_linking c_is_linking k_is_linking
  have F_cell := fun_mk (st := s_cell) l_cell c_cell k_cell
  have F_draw := fun_mk (st := s_draw) l_draw c_draw k_draw
  have F_same := fun_mk (st := s_same) l_same c_same k_same
  have F_places := fun_mk (st := s_places) l_places c_places k_places
  have F_working := fun_mk (st := s_working) l_working c_working k_working
  have F_day := fun_mk (st := s_day) l_day c_day k_day
  have F_goes_on := fun_mk (st := s_goes_on) l_goes_on c_goes_on k_goes_on
  have F_is_pair := fun_mk (st := s_is_pair) l_is_pair c_is_pair k_is_pair
  have F_is_run := fun_mk (st := s_is_run) l_is_run c_is_run k_is_run
  have F_other_links := fun_mk (st := s_other_links) l_other_links c_other_links k_other_links
  have F_new_sets := fun_mk (st := s_new_sets) l_new_sets c_new_sets k_new_sets
  have F_surplus := fun_mk (st := s_surplus) l_surplus c_surplus k_surplus
  have F_is_deficit := fun_mk (st := s_is_deficit) l_is_deficit c_is_deficit k_is_deficit
  have F_told := fun_mk (st := s_told) l_told c_told k_told
  have F_law := fun_mk (st := s_law) l_law c_law k_law
  have b__check_workings := F__check_workings.binds (ps := ["workings"]) fun _ _ _ _ _ _ us hl => match us, hl with | [_], _ => rfl
  have b__changes := F__changes.binds (ps := ["workings", "turning"]) fun _ _ _ _ _ _ us hl => match us, hl with | [_, _], _ => rfl
  have b__greatest_surplus := F__greatest_surplus.binds (ps := ["changes"]) fun _ _ _ _ _ _ us hl => match us, hl with | [_], _ => rfl
  have b__arrivals := F__arrivals.binds (ps := ["workings"]) fun _ _ _ _ _ _ us hl => match us, hl with | [_], _ => rfl
  have b__departures := F__departures.binds (ps := ["workings"]) fun _ _ _ _ _ _ us hl => match us, hl with | [_], _ => rfl
  have b__may_link := F__may_link.binds (ps := ["workings", "first", "second", "turning"]) fun _ _ _ _ _ _ us hl => match us, hl with | [_, _, _, _], _ => rfl
  have b_cell := F_cell.binds (ps := ["_law_script", "_law_k"]) fun _ _ _ _ _ _ us hl => match us, hl with | [_, _], _ => rfl
  have b_draw := F_draw.binds (ps := ["_law_cell_here", "_law_k", "_law_size"]) fun _ _ _ _ _ _ us hl => match us, hl with | [_, _, _], _ => rfl
  have b_same := F_same.binds (ps := ["_law_actual", "_law_wanted"]) fun _ _ _ _ _ _ us hl => match us, hl with | [_, _], _ => rfl
  have b_places := F_places.binds (ps := ["_law_cell_here", "_law_size"]) fun _ _ _ _ _ _ us hl => match us, hl with | [_, _], _ => rfl
  have b_working := F_working.binds (ps := ["_law_cell_here", "_law_kind", "_law_places_here"]) fun _ _ _ _ _ _ us hl => match us, hl with | [_, _, _], _ => rfl
  have b_day := F_day.binds (ps := ["_law_script"]) fun _ _ _ _ _ _ us hl => match us, hl with | [_], _ => rfl
  have b_goes_on := F_goes_on.binds (ps := ["_law_workings", "_law_first", "_law_second", "_law_gap"]) fun _ _ _ _ _ _ us hl => match us, hl with | [_, _, _, _], _ => rfl
  have b_is_pair := F_is_pair.binds (ps := ["_law_actual"]) fun _ _ _ _ _ _ us hl => match us, hl with | [_], _ => rfl
  have b_is_run := F_is_run.binds (ps := ["_law_workings", "_law_links", "_law_gap"]) fun _ _ _ _ _ _ us hl => match us, hl with | [_, _, _], _ => rfl
  have b_other_links := F_other_links.binds (ps := ["_law_workings", "_law_gap", "_law_script"]) fun _ _ _ _ _ _ us hl => match us, hl with | [_, _, _], _ => rfl
  have b_new_sets := F_new_sets.binds (ps := ["_law_workings", "_law_links", "_law_place"]) fun _ _ _ _ _ _ us hl => match us, hl with | [_, _, _], _ => rfl
  have b_surplus := F_surplus.binds (ps := ["_law_workings", "_law_place", "_law_gap", "_law_moment"]) fun _ _ _ _ _ _ us hl => match us, hl with | [_, _, _, _], _ => rfl
  have b_is_deficit := F_is_deficit.binds (ps := ["_law_workings", "_law_place", "_law_gap", "_law_told_here", "_law_number"]) fun _ _ _ _ _ _ us hl => match us, hl with | [_, _, _, _, _], _ => rfl
  have b_told := F_told.binds (ps := ["_law_workings", "_law_links", "_law_place", "_law_turn_time"]) fun _ _ _ _ _ _ us hl => match us, hl with | [_, _, _, _], _ => rfl
  refine ⟨PySem.W.fnOf "law" "law" (defArgs s_law) (defBody s_law) (defScope s_law) .none kV_law dc_law pm_law an_law cd_law ct_law, fun s v => .of_eq rfl, fun base _ _ => ?_⟩
  have b0_deficit : Binds K (PySem.W.fnOf "deficit" "deficit" (defArgs s_deficit) (defBody s_deficit) (defScope s_deficit) .none (.ref aD_deficit) dc_deficit pm_deficit an_deficit cd_deficit ct_deficit) ["workings", "place", "turning"] [.int 0 tk_deficit] := binds_deficit dK_deficit
  have bk_deficit : KBinds K (PySem.W.fnOf "deficit" "deficit" (defArgs s_deficit) (defBody s_deficit) (defScope s_deficit) .none (.ref aD_deficit) dc_deficit pm_deficit an_deficit cd_deficit ct_deficit) ["workings", "place", "turning"] ["turning"] ggD gVD := ⟨fun s us ws _ hl => match us, ws, hl with | [_, _], [_], _ => .of_eq (fd := (PySem.W.fnOf "deficit" "deficit" (defArgs s_deficit) (defBody s_deficit) (defScope s_deficit) .none (.ref aD_deficit) dc_deficit pm_deficit an_deficit cd_deficit ct_deficit)) rfl, fun {vs us zs ws} r1 r2 => by
    match vs, us, r1 with
    | [], [], .nil => exact .nil
    | [_], [_], .cons _ .nil => exact .nil
    | [x, y], [u, v], .cons a (.cons b .nil) =>
      match zs, ws, r2 with
      | [], [], .nil => exact .nil
      | [_], [_], .cons c .nil => exact .cons a (.cons b (.cons c .nil))
      | _ :: _ :: _, _ :: _ :: _, .cons _ (.cons _ _) => exact .nil
    | _ :: _ :: _ :: _, _ :: _ :: _ :: _, .cons _ (.cons _ (.cons _ _)) => exact .nil⟩
  have b0_least_sets : Binds K (PySem.W.fnOf "least_sets" "least_sets" (defArgs s_least_sets) (defBody s_least_sets) (defScope s_least_sets) .none (.ref aD_least_sets) dc_least_sets pm_least_sets an_least_sets cd_least_sets ct_least_sets) ["workings", "turning"] [.int 0 tk_least_sets] := binds_least_sets dK_least_sets
  have bk_least_sets : KBinds K (PySem.W.fnOf "least_sets" "least_sets" (defArgs s_least_sets) (defBody s_least_sets) (defScope s_least_sets) .none (.ref aD_least_sets) dc_least_sets pm_least_sets an_least_sets cd_least_sets ct_least_sets) ["workings", "turning"] ["turning"] ggL gVL := ⟨fun s us ws _ hl => match us, ws, hl with | [_], [_], _ => .of_eq (fd := (PySem.W.fnOf "least_sets" "least_sets" (defArgs s_least_sets) (defBody s_least_sets) (defScope s_least_sets) .none (.ref aD_least_sets) dc_least_sets pm_least_sets an_least_sets cd_least_sets ct_least_sets)) rfl, fun {vs us zs ws} r1 r2 => by
    match vs, us, r1 with
    | [], [], .nil => exact .nil
    | [x], [u], .cons a .nil =>
      match zs, ws, r2 with
      | [], [], .nil => exact .nil
      | [_], [_], .cons c .nil => exact .cons a (.cons c .nil)
      | _ :: _ :: _, _ :: _ :: _, .cons _ (.cons _ _) => exact .nil
    | _ :: _ :: _, _ :: _ :: _, .cons _ (.cons _ _) => exact .nil⟩
  have b0_link : Binds K (PySem.W.fnOf "link" "link" (defArgs s_link) (defBody s_link) (defScope s_link) .none (.ref aD_link) dc_link pm_link an_link cd_link ct_link) ["workings", "turning"] [.int 0 tk_link] := binds_link dK_link
  have bk_link : KBinds K (PySem.W.fnOf "link" "link" (defArgs s_link) (defBody s_link) (defScope s_link) .none (.ref aD_link) dc_link pm_link an_link cd_link ct_link) ["workings", "turning"] ["turning"] ggL gVL := ⟨fun s us ws _ hl => match us, ws, hl with | [_], [_], _ => .of_eq (fd := (PySem.W.fnOf "link" "link" (defArgs s_link) (defBody s_link) (defScope s_link) .none (.ref aD_link) dc_link pm_link an_link cd_link ct_link)) rfl, fun {vs us zs ws} r1 r2 => by
    match vs, us, r1 with
    | [], [], .nil => exact .nil
    | [x], [u], .cons a .nil =>
      match zs, ws, r2 with
      | [], [], .nil => exact .nil
      | [_], [_], .cons c .nil => exact .cons a (.cons c .nil)
      | _ :: _ :: _, _ :: _ :: _, .cons _ (.cons _ _) => exact .nil
    | _ :: _ :: _, _ :: _ :: _, .cons _ (.cons _ _) => exact .nil⟩
  have b0_is_linking : Binds K (PySem.W.fnOf "is_linking" "is_linking" (defArgs s_is_linking) (defBody s_is_linking) (defScope s_is_linking) .none (.ref aD_is_linking) dc_is_linking pm_is_linking an_is_linking cd_is_linking ct_is_linking) ["workings", "links", "turning"] [.int 0 tk_is_linking] := binds_is_linking dK_is_linking
  have bk_is_linking : KBinds K (PySem.W.fnOf "is_linking" "is_linking" (defArgs s_is_linking) (defBody s_is_linking) (defScope s_is_linking) .none (.ref aD_is_linking) dc_is_linking pm_is_linking an_is_linking cd_is_linking ct_is_linking) ["workings", "links", "turning"] ["turning"] ggD gVD := ⟨fun s us ws _ hl => match us, ws, hl with | [_, _], [_], _ => .of_eq (fd := (PySem.W.fnOf "is_linking" "is_linking" (defArgs s_is_linking) (defBody s_is_linking) (defScope s_is_linking) .none (.ref aD_is_linking) dc_is_linking pm_is_linking an_is_linking cd_is_linking ct_is_linking)) rfl, fun {vs us zs ws} r1 r2 => by
    match vs, us, r1 with
    | [], [], .nil => exact .nil
    | [_], [_], .cons _ .nil => exact .nil
    | [x, y], [u, v], .cons a (.cons b .nil) =>
      match zs, ws, r2 with
      | [], [], .nil => exact .nil
      | [_], [_], .cons c .nil => exact .cons a (.cons b (.cons c .nil))
      | _ :: _ :: _, _ :: _ :: _, .cons _ (.cons _ _) => exact .nil
    | _ :: _ :: _ :: _, _ :: _ :: _ :: _, .cons _ (.cons _ (.cons _ _)) => exact .nil⟩
  have C__check_workings : Cal l.prog w K mg base "_check_workings" _ _ _ := ⟨f__check_workings, _, ok_check (PySem.W.mg_none_of X G z_enumerate) F__check_workings, PySem.W.mg_of X G a__check_workings, k__check_workings, b__check_workings⟩
  have C__changes : Cal l.prog w K mg base "_changes" _ _ _ := ⟨f__changes, _, ok_changes F__changes, PySem.W.mg_of X G a__changes, k__changes, b__changes⟩
  have C__greatest_surplus : Cal l.prog w K mg base "_greatest_surplus" _ _ _ := ⟨f__greatest_surplus, _, ok_gs B F__greatest_surplus, PySem.W.mg_of X G a__greatest_surplus, k__greatest_surplus, b__greatest_surplus⟩
  have C__arrivals : Cal l.prog w K mg base "_arrivals" _ _ _ := ⟨f__arrivals, _, ok_arr B (PySem.W.mg_none_of X G z_enumerate) F__arrivals, PySem.W.mg_of X G a__arrivals, k__arrivals, b__arrivals⟩
  have C__departures : Cal l.prog w K mg base "_departures" _ _ _ := ⟨f__departures, _, ok_dep B (PySem.W.mg_none_of X G z_enumerate) F__departures, PySem.W.mg_of X G a__departures, k__departures, b__departures⟩
  have C__may_link : Cal l.prog w K mg base "_may_link" _ _ _ := ⟨f__may_link, _, ok_may B F__may_link, PySem.W.mg_of X G a__may_link, k__may_link, b__may_link⟩
  have C_cell : Cal l.prog w K mg base "_law_cell" _ _ _ := ⟨f_cell, _, ok_cell B F_cell, PySem.W.mg_of X G a_cell, k_cell, b_cell⟩
  have C_draw : Cal l.prog w K mg base "_law_draw" _ _ _ := ⟨f_draw, _, ok_draw B F_draw, PySem.W.mg_of X G a_draw, k_draw, b_draw⟩
  have C_same0 : Cal l.prog w K mg base "_law_same" _ _ _ := ⟨f_same, _, ok_same0 B F_same, PySem.W.mg_of X G a_same, k_same, b_same⟩
  have C_same1 : Cal l.prog w K mg base "_law_same" _ _ _ := ⟨f_same, _, ok_sameS B F_same C_same0, PySem.W.mg_of X G a_same, k_same, b_same⟩
  have C_same2 : Cal l.prog w K mg base "_law_same" _ _ _ := ⟨f_same, _, ok_sameS B F_same C_same1, PySem.W.mg_of X G a_same, k_same, b_same⟩
  have C_same3 : Cal l.prog w K mg base "_law_same" _ _ _ := ⟨f_same, _, ok_sameS B F_same C_same2, PySem.W.mg_of X G a_same, k_same, b_same⟩
  have C_places : Cal l.prog w K mg base "_law_places" _ _ _ := ⟨f_places, _, ok_places F_places C_draw, PySem.W.mg_of X G a_places, k_places, b_places⟩
  have C_working : Cal l.prog w K mg base "_law_working" _ _ _ := ⟨f_working, _, ok_working B F_working C_draw, PySem.W.mg_of X G a_working, k_working, b_working⟩
  have C_goes_on : Cal l.prog w K mg base "_law_goes_on" _ _ _ := ⟨f_goes_on, _, ok_goes B F_goes_on, PySem.W.mg_of X G a_goes_on, k_goes_on, b_goes_on⟩
  have C_surplus : Cal l.prog w K mg base "_law_surplus" _ _ _ := ⟨f_surplus, _, ok_sur B F_surplus, PySem.W.mg_of X G a_surplus, k_surplus, b_surplus⟩
  have C_is_pair : Cal l.prog w K mg base "_law_is_pair" _ _ _ := ⟨f_is_pair, _, ok_isp B F_is_pair, PySem.W.mg_of X G a_is_pair, k_is_pair, b_is_pair⟩
  have C_is_run : Cal l.prog w K mg base "_law_is_run" _ _ _ := ⟨f_is_run, _, ok_isr B F_is_run C_goes_on C_is_pair, PySem.W.mg_of X G a_is_run, k_is_run, b_is_run⟩
  have C_new_sets : Cal l.prog w K mg base "_law_new_sets" _ _ _ := ⟨f_new_sets, _, ok_new B F_new_sets, PySem.W.mg_of X G a_new_sets, k_new_sets, b_new_sets⟩
  have C_other_links : Cal l.prog w K mg base "_law_other_links" _ _ _ := ⟨f_other_links, _, ok_oth B F_other_links C_cell C_draw C_goes_on, PySem.W.mg_of X G a_other_links, k_other_links, b_other_links⟩
  have C_is_deficit : Cal l.prog w K mg base "_law_is_deficit" _ _ _ := ⟨f_is_deficit, _, ok_isd B F_is_deficit C_same0 C_surplus, PySem.W.mg_of X G a_is_deficit, k_is_deficit, b_is_deficit⟩
  have C_deficit : ∃ f fd, FnOk l.prog w K mg base CX0 2 f fd ["workings", "place", "turning"] (spDeficitN K) ∧ mg "deficit" = some (.ref f) ∧ PySem.W.keepIn K (.ref f) = true ∧ Binds K fd ["workings", "place", "turning"] [.int 0 tk_deficit] ∧ KBinds K fd ["workings", "place", "turning"] ["turning"] ggD gVD := ⟨f_deficit, _, ok_deficit C__check_workings C__changes C__greatest_surplus F_deficit, PySem.W.mg_of X G a_deficit, k_deficit, b0_deficit, bk_deficit⟩
  have C_least_sets : ∃ f fd, FnOk l.prog w K mg base CX0 2 f fd ["workings", "turning"] (spLeastN K) ∧ mg "least_sets" = some (.ref f) ∧ PySem.W.keepIn K (.ref f) = true ∧ Binds K fd ["workings", "turning"] [.int 0 tk_least_sets] ∧ KBinds K fd ["workings", "turning"] ["turning"] ggL gVL := ⟨f_least_sets, _, ok_least B C__check_workings C__changes C__greatest_surplus F_least_sets, PySem.W.mg_of X G a_least_sets, k_least_sets, b0_least_sets, bk_least_sets⟩
  have C_link : ∃ f fd, FnOk l.prog w K mg base CX0 2 f fd ["workings", "turning"] (spLinkN K) ∧ mg "link" = some (.ref f) ∧ PySem.W.keepIn K (.ref f) = true ∧ Binds K fd ["workings", "turning"] [.int 0 tk_link] ∧ KBinds K fd ["workings", "turning"] ["turning"] ggL gVL := ⟨f_link, _, ok_link B C__check_workings C__arrivals C__departures F_link, PySem.W.mg_of X G a_link, k_link, b0_link, bk_link⟩
  have C_is_linking : ∃ f fd, FnOk l.prog w K mg base CX0 2 f fd ["workings", "links", "turning"] (spIsLN K) ∧ mg "is_linking" = some (.ref f) ∧ PySem.W.keepIn K (.ref f) = true ∧ Binds K fd ["workings", "links", "turning"] [.int 0 tk_is_linking] ∧ KBinds K fd ["workings", "links", "turning"] ["turning"] ggD gVD := ⟨f_is_linking, _, ok_isl B (PySem.W.mg_none_of X G z_set) (PySem.W.mg_none_of X G z_all) C__check_workings C__may_link F_is_linking, PySem.W.mg_of X G a_is_linking, k_is_linking, b0_is_linking, bk_is_linking⟩
  have C_told : Cal l.prog w K mg base "_law_told" _ _ _ := ⟨f_told, _, ok_told F_told (show Vals [V.int 0] [Value.int 0 tk_link] from .cons ⟨_, rfl⟩ .nil) (show Vals [V.int 0] [Value.int 0 tk_least_sets] from .cons ⟨_, rfl⟩ .nil) (show Vals [V.int 0] [Value.int 0 tk_deficit] from .cons ⟨_, rfl⟩ .nil) (show Vals [V.int 0] [Value.int 0 tk_is_linking] from .cons ⟨_, rfl⟩ .nil) C_link C_least_sets C_deficit C_is_linking, PySem.W.mg_of X G a_told, k_told, b_told⟩
  have C_day : Cal l.prog w K mg base "_law_day" _ _ _ := ⟨f_day, _, ok_day B F_day C_cell C_draw C_places C_working, PySem.W.mg_of X G a_day, k_day, b_day⟩
  exact ok_law B (PySem.W.mg_none_of X G z_max) F_law C_day C_link C_is_run C_other_links C_new_sets C_told C_is_deficit C_same3
theorem walk {l : PySem.W.OpenLaw} {q : Program} {loose : List Str} {XP : (Str → Option Value) → Heap → Prop} {YP : World → Heap → Prop} {d : DefRec} {K : Params → PySem.W.Frag} (hn : l.most = some 63) (hdf : d.params.defaults = [])
    (hY : ∀ (w : World) (h : Heap), YP w h → (K w.params).In h)
    (F : ∀ (w : World) (mg : Str → Option Value) (fa : Addr) (h : Heap), (K w.params).In h → h.Ns mainGlobals mg → mg d.name = some (.ref fa) →
      ∃ fd : FuncData, (∀ (s : Shared) (u : Value), BindsTo s fd ⟨[u], []⟩ [("_law_script", u)]) ∧ ∀ base : Heap, (K w.params).In base → base.Ns mainGlobals mg → FnOk l.prog w (K w.params) mg base CX0 8 fa fd ["_law_script"] (spLaw (K w.params))) :
    PySem.W.WalkO q loose XP YP l.row.toRowW d [] (fun f vs => PySem.call f vs) :=
  L2.walk_of (n := 63) (k := 8) (x := "_law_script") (CX := fun _ => CX0) (sp := fun w => spLaw (K w.params)) hn (by decide) hdf ⟨rfl, by decide, by decide⟩ hY F (fun _ _ a ns hl _ hS => ⟨a, ns, rfl, hS, hl, fun _ => rfl⟩) fun _ _ _ _ _ z => z
end Kx

set_option Elab.async false
open PySem PySem.W PyProof.Rows in
set_option maxRecDepth 100000 in
set_option maxHeartbeats 0 in
theorem PySem.Challenge.cw_railhouse_k65_whole_fewest_sets_holds : PySem.Challenge.rw_railhouse_k65_whole_fewest_sets.Holds := by
  w_on; o_law; k_head; (case hw => w_witness2)
  k_fill
  refine Kx.walk (l := PySem.Challenge.rw_railhouse_k65_whole_fewest_sets) rfl rfl (fun w h Y => PySem.W.kIn_of Y) ?F
  case F =>
    intro w mg fa h KX G hmg
    refine' Kx.all_mk KX G hmg ?a__check_workings ?l__check_workings ?c__check_workings ?k__check_workings ?a__changes ?l__changes ?c__changes ?k__changes ?a__greatest_surplus ?l__greatest_surplus ?c__greatest_surplus ?k__greatest_surplus ?a__arrivals ?l__arrivals ?c__arrivals ?k__arrivals ?a__departures ?l__departures ?c__departures ?k__departures ?a__may_link ?l__may_link ?c__may_link ?k__may_link ?a_deficit ?l_deficit ?c_deficit ?k_deficit ?a_least_sets ?l_least_sets ?c_least_sets ?k_least_sets ?a_link ?l_link ?c_link ?k_link ?a_is_linking ?l_is_linking ?c_is_linking ?k_is_linking ?a_cell ?l_cell ?c_cell ?k_cell ?a_draw ?l_draw ?c_draw ?k_draw ?a_same ?l_same ?c_same ?k_same ?a_places ?l_places ?c_places ?k_places ?a_working ?l_working ?c_working ?k_working ?a_day ?l_day ?c_day ?k_day ?a_goes_on ?l_goes_on ?c_goes_on ?k_goes_on ?a_is_pair ?l_is_pair ?c_is_pair ?k_is_pair ?a_is_run ?l_is_run ?c_is_run ?k_is_run ?a_other_links ?l_other_links ?c_other_links ?k_other_links ?a_new_sets ?l_new_sets ?c_new_sets ?k_new_sets ?a_surplus ?l_surplus ?c_surplus ?k_surplus ?a_is_deficit ?l_is_deficit ?c_is_deficit ?k_is_deficit ?a_told ?l_told ?c_told ?k_told ?a_law ?l_law ?c_law ?k_law ?dK_deficit ?dK_least_sets ?dK_link ?dK_is_linking ?z_len ?z_abs ?z_min ?z_range ?z_int ?z_str ?z_bool ?z_list ?z_tuple ?z_sorted ?z_isinstance ?z_max ?z_enumerate ?z_set ?z_all
    (case a__check_workings => k_is)
    (case l__check_workings => k_is)
    (case c__check_workings => k_is)
    (case k__check_workings => k_is)
    (case a__changes => k_is)
    (case l__changes => k_is)
    (case c__changes => k_is)
    (case k__changes => k_is)
    (case a__greatest_surplus => k_is)
    (case l__greatest_surplus => k_is)
    (case c__greatest_surplus => k_is)
    (case k__greatest_surplus => k_is)
    (case a__arrivals => k_is)
    (case l__arrivals => k_is)
    (case c__arrivals => k_is)
    (case k__arrivals => k_is)
    (case a__departures => k_is)
    (case l__departures => k_is)
    (case c__departures => k_is)
    (case k__departures => k_is)
    (case a__may_link => k_is)
    (case l__may_link => k_is)
    (case c__may_link => k_is)
    (case k__may_link => k_is)
    (case a_deficit => k_is)
    (case l_deficit => k_is)
    (case c_deficit => k_is)
    (case k_deficit => k_is)
    (case a_least_sets => k_is)
    (case l_least_sets => k_is)
    (case c_least_sets => k_is)
    (case k_least_sets => k_is)
    (case a_link => k_is)
    (case l_link => k_is)
    (case c_link => k_is)
    (case k_link => k_is)
    (case a_is_linking => k_is)
    (case l_is_linking => k_is)
    (case c_is_linking => k_is)
    (case k_is_linking => k_is)
    (case a_cell => k_is)
    (case l_cell => k_is)
    (case c_cell => k_is)
    (case k_cell => k_is)
    (case a_draw => k_is)
    (case l_draw => k_is)
    (case c_draw => k_is)
    (case k_draw => k_is)
    (case a_same => k_is)
    (case l_same => k_is)
    (case c_same => k_is)
    (case k_same => k_is)
    (case a_places => k_is)
    (case l_places => k_is)
    (case c_places => k_is)
    (case k_places => k_is)
    (case a_working => k_is)
    (case l_working => k_is)
    (case c_working => k_is)
    (case k_working => k_is)
    (case a_day => k_is)
    (case l_day => k_is)
    (case c_day => k_is)
    (case k_day => k_is)
    (case a_goes_on => k_is)
    (case l_goes_on => k_is)
    (case c_goes_on => k_is)
    (case k_goes_on => k_is)
    (case a_is_pair => k_is)
    (case l_is_pair => k_is)
    (case c_is_pair => k_is)
    (case k_is_pair => k_is)
    (case a_is_run => k_is)
    (case l_is_run => k_is)
    (case c_is_run => k_is)
    (case k_is_run => k_is)
    (case a_other_links => k_is)
    (case l_other_links => k_is)
    (case c_other_links => k_is)
    (case k_other_links => k_is)
    (case a_new_sets => k_is)
    (case l_new_sets => k_is)
    (case c_new_sets => k_is)
    (case k_new_sets => k_is)
    (case a_surplus => k_is)
    (case l_surplus => k_is)
    (case c_surplus => k_is)
    (case k_surplus => k_is)
    (case a_is_deficit => k_is)
    (case l_is_deficit => k_is)
    (case c_is_deficit => k_is)
    (case k_is_deficit => k_is)
    (case a_told => k_is)
    (case l_told => k_is)
    (case c_told => k_is)
    (case k_told => k_is)
    (case a_law => k_is)
    (case l_law => k_is)
    (case c_law => k_is)
    (case k_law => k_is)
    (case dK_deficit => k_is)
    (case dK_least_sets => k_is)
    (case dK_link => k_is)
    (case dK_is_linking => k_is)
    (case z_len => k_is)
    (case z_abs => k_is)
    (case z_min => k_is)
    (case z_range => k_is)
    (case z_int => k_is)
    (case z_str => k_is)
    (case z_bool => k_is)
    (case z_list => k_is)
    (case z_tuple => k_is)
    (case z_sorted => k_is)
    (case z_isinstance => k_is)
    (case z_max => k_is)
    (case z_enumerate => k_is)
    (case z_set => k_is)
    (case z_all => k_is)

#print axioms PySem.Challenge.cw_railhouse_k65_whole_fewest_sets_holds
