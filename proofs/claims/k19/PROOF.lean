import PyProof.Rows.All
import Wide.All
import OpenK.AllK
import Wide.FinOn
import HandS.ForMost
import HandS.ForExc
import HandS.Evl
import HandS.Zip
import HandS.TupAny
import HandS.SetFor
import HandS.Conv
import HandS.IsInst
import HandS.SortInts
import HandS.Strs
import HandS.RevRange
import PyProof.FString3
import PyProof.Rows.StrIntSpec
import HandS.Rev
import KE.GoesEnum
import PyProof.SeqIndex
import HandS.Deep
import KE.KDictDisplayH
import KE.SortData
import HandS.Style
import HandS.Walk
import KE.DataMinMax
import HandS.Star
import HandS.DictComp
import HandS.TupMul
import KE.KUnpack
import HandS.TryOnly
import HandS.Gcd
import HandS.SortKw
import HandS.DictTup
import KE.KDictList
import KE.KDictWalk
import KE.GoesZip
import KE.GoesMore
import KE.KDictKeyed
import KE.KeyNested
import HandS.WordsDict
import HandS.ExcIs
import HandS.More
import HandS.Nested
import HandS.EndTab
import KE.KNestM
import KE.KDictZip
import HandS.Iter
import HandS.Comp
import HandS.StrMore
import HandS.Text
import PyProof.StrOps2
import KE.KExcSuper
import HandS.ExcSuper
import HandS.ExcField
import PySem.Challenge.RW_placewords_k19_expression_text_refused
set_option Elab.async false
set_option linter.all false
set_option maxRecDepth 100000
namespace Hq
open PySem L2
abbrev Ex := Evl.Ex
structure MP where
  p : Hp → V → Prop
  mono : ∀ {F F' : Hp} {v : V}, Ex F F' → p F v → p F' v
structure MO where
  p : Hp → HO → Prop
  mono : ∀ {F F' : Hp} {o : HO}, Ex F F' → p F o → p F' o
  nt : ∀ {F : Hp} {o : HO}, p F o → ∀ xs, o ≠ .tup xs
abbrev Ms := List (Addr × MO)
abbrev Gm := List (Option MP)
def keys (M : Ms) : List Addr := M.map (·.1)
structure Wd (F : Hp) (M : Ms) (H : Hp) : Prop where
  ex : Ex F H
  nd : (keys M).Nodup
  own : ∀ q ∈ M, F q.1 = none ∧ ∃ o, H q.1 = some o ∧ q.2.p F o
structure Gr (ks : List Addr) (F H F' H' : Hp) : Prop where
  ex : Ex F F'
  keep : ∀ a o, a ∉ ks → H a = some o → H' a = some o
  off : ∀ a, F a = none → H a ≠ none → (∀ xs, H a ≠ some (.tup xs)) → F' a = none
  stay : ∀ a, H a ≠ none → H' a ≠ none
  nott : ∀ a, H a ≠ none → (∀ xs, H a ≠ some (.tup xs)) → ∀ xs, H' a ≠ some (.tup xs)
structure Ent where
  F : Hp
  H : Hp
  ks : List Addr
structure Pt (E : Ent) (F : Hp) (M : Ms) (H : Hp) : Prop where
  gr : Gr E.ks E.F E.H F H
  wd : Wd F M H
  fr : ∀ q ∈ M, q.1 ∈ E.ks ∨ E.H q.1 = none
theorem Gr.refl {ks F H} : Gr ks F H F H := ⟨Evl.Ex.refl _, fun _ _ _ h => h, fun _ h _ _ => h, fun _ h => h, fun _ _ h => h⟩
theorem Pt.start {F M H} (w : Wd F M H) : Pt ⟨F, H, keys M⟩ F M H := ⟨Gr.refl, w, fun q hq => .inl (List.mem_map_of_mem hq)⟩
theorem Pt.enter {E F M H} (h : Pt E F M H) : Pt ⟨F, H, keys M⟩ F M H := Pt.start h.wd
theorem Pt.back {E F M H F' M' H'} (h : Pt E F M H) (g : Pt ⟨F, H, keys M⟩ F' M' H') : Pt E F' M' H' := by
  have notin : ∀ a o, a ∉ E.ks → E.H a = some o → a ∉ keys M := by
    intro a o h1 h2 h3
    obtain ⟨q, hq, rfl⟩ := List.mem_map.mp h3
    rcases h.fr q hq with h4 | h4
    · exact h1 h4
    · rw [h4] at h2; cases h2
  refine ⟨⟨h.gr.ex.trans g.gr.ex, fun a o h1 h2 => ?_, fun a h1 h2 h3 => ?_, fun a h1 => ?_, fun a h1 h2 => ?_⟩, g.wd, fun q hq => ?_⟩
  · exact g.gr.keep a o (notin a o h1 h2) (h.gr.keep a o h1 h2)
  · exact g.gr.off a (h.gr.off a h1 h2 h3) (h.gr.stay a h2) (h.gr.nott a h2 h3)
  · exact g.gr.stay a (h.gr.stay a h1)
  · exact g.gr.nott a (h.gr.stay a h1) (h.gr.nott a h1 h2)
  · rcases g.fr q hq with h1 | h1
    · obtain ⟨r, hr, e⟩ := List.mem_map.mp h1
      rw [← e]
      exact h.fr r hr
    · right
      refine Classical.byContradiction fun h2 => ?_
      exact h.gr.stay _ h2 h1
structure Le (E' E : Ent) : Prop where
  to : ∀ F M H, Pt E' F M H → Pt E F M H
  new : ∀ a, E'.H a = none → E.H a = none
theorem Pt.le {E F M H} (h : Pt E F M H) : Le ⟨F, H, keys M⟩ E := ⟨fun _ _ _ g => h.back g, fun a e => Classical.byContradiction fun n => h.gr.stay a n e⟩
theorem Le.refl {E : Ent} : Le E E := ⟨fun _ _ _ h => h, fun _ h => h⟩
theorem Le.trans {E1 E2 E3 : Ent} (a : Le E1 E2) (b : Le E2 E3) : Le E1 E3 := ⟨fun _ _ _ h => b.to _ _ _ (a.to _ _ _ h), fun x h => b.new x (a.new x h)⟩
def EnvOk (F : Hp) (σ : St) (Γ : Gm) : Prop := Paired (fun (s : Option V) (g : Option MP) => ∀ P, g = some P → ∃ v, s = some v ∧ P.p F v) σ Γ
theorem EnvOk.mono {F F' σ Γ} (e : Ex F F') (h : EnvOk F σ Γ) : EnvOk F' σ Γ :=
  Paired.mapP h fun _ _ k P hP => let ⟨v, a, b⟩ := k P hP; ⟨v, a, P.mono e b⟩
theorem paired_get {α β : Type} {R : α → β → Prop} : ∀ {xs : List α} {ys : List β} {i : Nat} {y : β}, Paired R xs ys → ys[i]? = some y → ∃ x, xs[i]? = some x ∧ R x y
  | _, _, _, _, .nil, h => by simp at h
  | _, _, 0, _, .cons a _, h => by
    have e := Option.some.inj h
    subst e
    exact ⟨_, rfl, a⟩
  | _, _, i + 1, y, .cons _ t, h => paired_get (i := i) t h
theorem paired_get' {α β : Type} {R : α → β → Prop} : ∀ {xs : List α} {ys : List β} {i : Nat} {x : α}, Paired R xs ys → xs[i]? = some x → ∃ y, ys[i]? = some y ∧ R x y
  | _, _, _, _, .nil, h => by simp at h
  | _, _, 0, _, .cons a _, h => by
    have e := Option.some.inj h
    subst e
    exact ⟨_, rfl, a⟩
  | _, _, i + 1, y, .cons _ t, h => paired_get' (i := i) t h
theorem paired_set {α β : Type} {R : α → β → Prop} {x : α} {y : β} (r : R x y) : ∀ {xs : List α} {ys : List β} (i : Nat), Paired R xs ys → Paired R (xs.set i x) (ys.set i y)
  | _, _, _, .nil => .nil
  | _, _, 0, .cons _ t => .cons r t
  | _, _, i + 1, .cons a t => .cons a (paired_set r i t)
theorem paired_len {α β : Type} {R : α → β → Prop} : ∀ {xs : List α} {ys : List β}, Paired R xs ys → xs.length = ys.length
  | _, _, .nil => rfl
  | _, _, .cons _ t => by rw [List.length_cons, List.length_cons, paired_len t]
theorem paired_app {α β : Type} {R : α → β → Prop} : ∀ {xs xs' : List α} {ys ys' : List β}, Paired R xs ys → Paired R xs' ys' → Paired R (xs ++ xs') (ys ++ ys')
  | _, _, _, _, .nil, h => h
  | _, _, _, _, .cons a t, h => .cons a (paired_app t h)
theorem EnvOk.set {F σ} {Γ : Gm} {P : MP} {v : V} (i : Nat) (h : EnvOk F σ Γ) (hv : P.p F v) : EnvOk F (σ.set i (some v)) (Γ.set i (some P)) :=
  paired_set (fun Q hQ => by cases hQ; exact ⟨v, rfl, hv⟩) i h
theorem EnvOk.get {F σ} {Γ : Gm} {i : Nat} {P : MP} (h : EnvOk F σ Γ) (e : Γ[i]? = some (some P)) : ∃ v, σ[i]? = some (some v) ∧ P.p F v := by
  obtain ⟨s, hs, k⟩ := paired_get h e
  obtain ⟨v, rfl, hv⟩ := k P rfl
  exact ⟨v, hs, hv⟩
def At (E : Ent) (Γ : Gm) (M : Ms) (σ : St) (H : Hp) : Prop := ∃ F, Pt E F M H ∧ EnvOk F σ Γ
def Nx (E : Ent) (Γ : Gm) (M : Ms) (f : St → Hp → Prop) : Prop := ∀ σ H, At E Γ M σ H → f σ H
def Rt (E : Ent) (M : Ms) (P : MP) (f : VK) : Prop := ∀ v F H, Pt E F M H → P.p F v → f v H
theorem At.le {E E' Γ M σ H} (l : Le E' E) (h : At E' Γ M σ H) : At E Γ M σ H := let ⟨F, a, b⟩ := h; ⟨F, l.to _ _ _ a, b⟩
theorem Nx.le {E E' Γ M f} (l : Le E' E) (h : Nx E Γ M f) : Nx E' Γ M f := fun σ H a => h σ H (a.le l)
theorem Rt.le {E E' M P f} (l : Le E' E) (h : Rt E M P f) : Rt E' M P f := fun v F H a b => h v F H (l.to _ _ _ a) b
def Ev (te : TE) (Γ : Gm) (M : Ms) (P : MP) (M' : Ms) : Prop := ∀ E F σ H, Pt E F M H → EnvOk F σ Γ → ∀ Q : VK, (∀ v F' H', Ex F F' → Pt E F' M' H' → P.p F' v → Q v H') → te σ H Q
def EvT (t : TT) (Γ : Gm) (M : Ms) (B : Bool → Prop) (M' : Ms) : Prop := ∀ E F σ H, Pt E F M H → EnvOk F σ Γ → ∀ Q : Bool → Hp → Prop, (∀ b F' H', Ex F F' → Pt E F' M' H' → B b → Q b H') → t σ H Q
/-- arguments: their predicates -/
def Ps (F : Hp) (vs : List V) (ps : List MP) : Prop := Paired (fun (v : V) (P : MP) => P.p F v) vs ps
theorem Ps.mono {F F' vs ps} (e : Ex F F') (h : Ps F vs ps) : Ps F' vs ps := Paired.mapP h fun _ P k => P.mono e k
def EvA (ta : TA) (Γ : Gm) (M : Ms) (ps : List MP) (M' : Ms) : Prop := ∀ E F σ H, Pt E F M H → EnvOk F σ Γ → ∀ Q : List V → Hp → Prop, (∀ vs F' H', Ex F F' → Pt E F' M' H' → Ps F' vs ps → Q vs H') → ta σ H Q
def MP.le (P P' : MP) : Prop := ∀ F v, P.p F v → P'.p F v
theorem Ev.weak {te Γ M P P' M'} (h : Ev te Γ M P M') (l : P.le P') : Ev te Γ M P' M' := fun E F σ H a b Q k => h E F σ H a b Q fun v F' H' e p q => k v F' H' e p (l _ _ q)
theorem EvT.is {t Γ M M'} {b b' : Bool} (h : EvT t Γ M (· = b) M') (e : b = b') : EvT t Γ M (· = b') M' := by rw [← e]; exact h
/-! ### data -/
mutual
theorem Dp.mono {K : PySem.W.Frag} {F F' : Hp} (e : Ex F F') : ∀ {v d}, Dp K F v d → Dp K F' v d
  | _, _, .non => .non
  | _, _, .bl b => .bl b
  | _, _, .int i => .int i
  | _, _, .str x => .str x
  | _, _, .lst h a => .lst (Evl.ex_l e h) (DpAll.mono e a)
  | _, _, .tup h a => .tup (Evl.ex_t e h) (DpAll.mono e a)
theorem DpAll.mono {K : PySem.W.Frag} {F F' : Hp} (e : Ex F F') : ∀ {vs ds}, DpAll K F vs ds → DpAll K F' vs ds
  | _, _, .nil => .nil
  | _, _, .cons a t => .cons (Dp.mono e a) (DpAll.mono e t)
end
def D (K : PySem.W.Frag) (d : PyData) : MP := ⟨fun F v => Dp K F v d, fun e h => Dp.mono e h⟩
theorem dp_int {K F v i} (h : Dp K F v (.int i)) : v = .int i := by cases h; rfl
theorem dp_bl {K F v b} (h : Dp K F v (.bool b)) : v = .bl b := by cases h; rfl
theorem dp_non {K F v} (h : Dp K F v .none) : v = .non := by cases h; rfl
theorem dp_tup {K F v ds} (h : Dp K F v (.tuple ds)) : ∃ a xs, v = .ref a ∧ SqT K F a xs ∧ DpAll K F xs ds := by cases h with | tup a b => exact ⟨_, _, rfl, a, b⟩
theorem all_ps {K F} : ∀ {vs ds}, DpAll K F vs ds → Ps F vs (ds.map (D K))
  | _, _, .nil => .nil
  | _, _, .cons a t => .cons a (all_ps t)
theorem ps_all {K F} : ∀ {ds : List PyData} {vs}, Ps F vs (ds.map (D K)) → DpAll K F vs ds
  | [], _, h => by cases h; exact .nil
  | d :: ds, _, h => by cases h with | cons a t => exact .cons a (ps_all t)
/-- a list, a tuple that stands, of predicates -/
def PLi (K : PySem.W.Frag) (ps : List MP) : MP := ⟨fun F v => ∃ a vs, v = .ref a ∧ SqL K F a vs ∧ Ps F vs ps, fun e ⟨a, vs, h, s, q⟩ => ⟨a, vs, h, Evl.ex_l e s, q.mono e⟩⟩
def PTu (K : PySem.W.Frag) (ps : List MP) : MP := ⟨fun F v => ∃ a vs, v = .ref a ∧ SqT K F a vs ∧ Ps F vs ps, fun e ⟨a, vs, h, s, q⟩ => ⟨a, vs, h, Evl.ex_t e s, q.mono e⟩⟩
theorem D_PTu {K ds} : MP.le (D K (.tuple ds)) (PTu K (ds.map (D K))) := fun F v h => let ⟨a, xs, e, s, q⟩ := dp_tup h; ⟨a, xs, e, s, all_ps q⟩
theorem PTu_D {K ds} : MP.le (PTu K (ds.map (D K))) (D K (.tuple ds)) := fun F v ⟨a, xs, e, s, q⟩ => by subst e; exact .tup s (ps_all q)
/-- some -/
def PEx {α : Type} (P : α → MP) : MP := ⟨fun F v => ∃ x, (P x).p F v, fun e ⟨x, h⟩ => ⟨x, (P x).mono e h⟩⟩
/-- with a fact -/
def PAn (φ : Prop) (P : MP) : MP := ⟨fun F v => φ ∧ P.p F v, fun e h => ⟨h.1, P.mono e h.2⟩⟩
def Own (q : Addr) : MP := ⟨fun _ v => v = .ref q, fun _ h => h⟩
/-- an own list of items -/
def ML (ps : List MP) : MO := ⟨fun F o => ∃ vs, o = .lst vs ∧ Ps F vs ps, fun e ⟨vs, h, q⟩ => ⟨vs, h, q.mono e⟩, fun ⟨vs, h, _⟩ xs z => by rw [h] at z; cases z⟩
def MX {α : Type} (P : α → MO) : MO := ⟨fun F v => ∃ x, (P x).p F v, fun e ⟨x, h⟩ => ⟨x, (P x).mono e h⟩, fun ⟨x, h⟩ => (P x).nt h⟩
def MA (φ : Prop) (P : MO) : MO := ⟨fun F v => φ ∧ P.p F v, fun e h => ⟨h.1, P.mono e h.2⟩, fun h => P.nt h.2⟩
end Hq
/-! HqSa: the text of a number's bits. -/
namespace Hq
open PySem PyProof.Rows
open PySem.Builtin PySem.Builtin.Float
end Hq
set_option maxHeartbeats 1000000
/-! HqSb: enumerate(reversed(text)). -/
namespace Hq
open PySem PySem.Spec PyProof.Rows L2 RT
/-- reversed(text), the next place i -/
def IsRs (h : Heap) (a : Addr) (x : Str) (t : Tok) (i : Int) : Prop := ∃ o, h.get? a = some o ∧ o.cls = .type "reversed" ∧ o.data = .fields #[.str x t, rawInt i]
theorem IsRs.at {h h' : Heap} {a : Addr} {x : Str} {t : Tok} {i : Int} (k : IsRs h a x t i) (e : ∀ o, h.get? a = some o → h'.get? a = some o) : IsRs h' a x t i := let ⟨o, ho, r⟩ := k; ⟨o, e _ ho, r⟩
end Hq
namespace Hq
open PySem L2
/-! ### steps of a point -/
theorem keys_set {M : Ms} {j : Nat} {q : Addr} {O O' : MO} : M[j]? = some (q, O) → keys (M.set j (q, O')) = keys M := by
  induction M generalizing j with
  | nil => intro h; simp at h
  | cons m M ih =>
    intro h
    cases j with
    | zero =>
      have e : m = (q, O) := Option.some.inj h
      subst e
      rfl
    | succ j =>
      have h' : M[j]? = some (q, O) := h
      show m.1 :: keys (M.set j (q, O')) = m.1 :: keys M
      rw [ih h']
theorem mem_set_ne {M : Ms} {j : Nat} {q : Addr} {O O' : MO} (nd : (keys M).Nodup) : M[j]? = some (q, O) → ∀ r ∈ M.set j (q, O'), r = (q, O') ∨ (r ∈ M ∧ r.1 ≠ q) := by
  induction M generalizing j with
  | nil => intro h; simp at h
  | cons m M ih =>
    intro h r hr
    have nd' := List.nodup_cons.mp (show (m.1 :: keys M).Nodup from nd)
    cases j with
    | zero =>
      have e : m = (q, O) := Option.some.inj h
      subst e
      have hr' : r ∈ (q, O') :: M := hr
      rcases List.mem_cons.mp hr' with e | hm
      · exact .inl e
      · exact .inr ⟨List.mem_cons_of_mem _ hm, fun e => nd'.1 (by rw [← e]; exact List.mem_map_of_mem (f := (·.1)) hm)⟩
    | succ j =>
      have h' : M[j]? = some (q, O) := h
      have hr' : r ∈ m :: M.set j (q, O') := hr
      have hq : q ∈ keys M := List.mem_map_of_mem (f := (·.1)) (List.mem_of_getElem? h')
      rcases List.mem_cons.mp hr' with e | hm
      · subst e
        exact .inr ⟨List.mem_cons_self, fun e => nd'.1 (by rw [e]; exact hq)⟩
      · rcases ih nd'.2 h' r hm with e | ⟨e, e2⟩
        · exact .inl e
        · exact .inr ⟨List.mem_cons_of_mem _ e, e2⟩
section
variable {K : PySem.W.Frag} {E E' : Ent} {F F' H H' : Hp} {M M' M1 M2 M3 : Ms} {Γ Γ' : Gm} {P P' P1 P2 : MP} {O O' : MO} {q : Addr} {σ : St} {o o' : HO} {j : Nat}
theorem Pt.at (h : Pt E F M H) (e : M[j]? = some (q, O)) : F q = none ∧ ∃ o, H q = some o ∧ O.p F o := h.wd.own _ (List.mem_of_getElem? e)
theorem Pt.ex (h : Pt E F M H) : Ex F H := h.wd.ex
theorem Pt.fresh (h : Pt E F M H) (hp : H q = none) : E.H q = none := Classical.byContradiction fun n => h.gr.stay _ n hp
theorem Pt.new (h : Pt E F M H) (hp : H q = none) (ho : O.p F o) : Pt E F ((q, O) :: M) (upd H q o) := by
  have ne : ∀ {a u}, H a = some u → a ≠ q := fun e => ne_of_none e hp
  refine ⟨⟨h.gr.ex, fun a u h1 h2 => ?_, h.gr.off, fun a h1 => ?_, fun a h1 h2 => ?_⟩, ⟨h.wd.ex.trans (Evl.Ex.new hp), ?_, fun r hr => ?_⟩, fun r hr => ?_⟩
  · have := h.gr.keep a u h1 h2
    rw [upd_ne (ne this)]; exact this
  · by_cases e : a = q
    · subst e; rw [upd_same]; exact fun z => by cases z
    · rw [upd_ne e]; exact h.gr.stay a h1
  · rw [upd_ne (fun e => h.gr.stay a h1 (by rw [e]; exact hp))]; exact h.gr.nott a h1 h2
  · refine List.nodup_cons.mpr ⟨fun hm => ?_, h.wd.nd⟩
    obtain ⟨r, hr, e⟩ := List.mem_map.mp hm
    obtain ⟨_, u, hu, _⟩ := h.wd.own r hr
    exact ne hu e
  · rcases List.mem_cons.mp hr with e | hm
    · subst e; exact ⟨Evl.fresh_back h.wd.ex hp, o, upd_same, ho⟩
    · obtain ⟨a, u, hu, b⟩ := h.wd.own r hm
      exact ⟨a, u, by rw [upd_ne (ne hu)]; exact hu, b⟩
  · rcases List.mem_cons.mp hr with e | hm
    · subst e; exact .inr (h.fresh hp)
    · exact h.fr r hm
theorem Pt.laid (h : Pt E F M H) (hp : H q = none) : Pt E (upd F q o) M (upd H q o) := by
  have ne : ∀ {a u}, H a = some u → a ≠ q := fun e => ne_of_none e hp
  have fq : F q = none := Evl.fresh_back h.wd.ex hp
  refine ⟨⟨h.gr.ex.trans (Evl.Ex.new fq), fun a u h1 h2 => ?_, fun a h1 h2 h3 => ?_, fun a h1 => ?_, fun a h1 h2 => ?_⟩, ⟨fun a u e => ?_, h.wd.nd, fun r hr => ?_⟩, h.fr⟩
  · have := h.gr.keep a u h1 h2
    rw [upd_ne (ne this)]; exact this
  · have n : a ≠ q := fun e => h2 (by rw [e]; exact h.fresh hp)
    rw [upd_ne n]; exact h.gr.off a h1 h2 h3
  · by_cases e : a = q
    · subst e; rw [upd_same]; exact fun z => by cases z
    · rw [upd_ne e]; exact h.gr.stay a h1
  · rw [upd_ne (fun e => h.gr.stay a h1 (by rw [e]; exact hp))]; exact h.gr.nott a h1 h2
  · by_cases e2 : a = q
    · subst e2; rw [upd_same] at e ⊢; exact e
    · rw [upd_ne e2] at e ⊢; exact h.wd.ex a u e
  · obtain ⟨a, u, hu, b⟩ := h.wd.own r hr
    have n : r.1 ≠ q := ne hu
    exact ⟨by rw [upd_ne n]; exact a, u, by rw [upd_ne n]; exact hu, r.2.mono (Evl.Ex.new fq) b⟩
theorem Pt.freeze (h : Pt E F M H) (e : M[j]? = some (q, O)) (hq : E.H q = none) (ho : H q = some o) : Pt E (upd F q o) (M.eraseIdx j) H := by
  obtain ⟨fq, _⟩ := h.at e
  have nd : ∀ r ∈ M.eraseIdx j, r.1 ≠ q := by
    have key : ∀ {M : Ms} {j : Nat}, (keys M).Nodup → M[j]? = some (q, O) → ∀ r ∈ M.eraseIdx j, r.1 ≠ q := by
      intro M
      induction M with
      | nil => intro j _ h; simp at h
      | cons m M ih =>
        intro j nd e r hr
        have nd' := List.nodup_cons.mp (show (m.1 :: keys M).Nodup from nd)
        cases j with
        | zero =>
          have e1 : m = (q, O) := Option.some.inj e
          subst e1
          have hr : r ∈ M := hr
          exact fun z => nd'.1 (by rw [← z]; exact List.mem_map_of_mem (f := (·.1)) hr)
        | succ j =>
          have e1 : M[j]? = some (q, O) := e
          have hr : r ∈ m :: M.eraseIdx j := hr
          have hq : q ∈ keys M := List.mem_map_of_mem (f := (·.1)) (List.mem_of_getElem? e1)
          rcases List.mem_cons.mp hr with z | z
          · subst z; exact fun z => nd'.1 (by rw [z]; exact hq)
          · exact ih nd'.2 e1 r z
    exact key h.wd.nd e
  refine ⟨⟨h.gr.ex.trans (Evl.Ex.new fq), h.gr.keep, fun a h1 h2 h3 => ?_, h.gr.stay, h.gr.nott⟩, ⟨fun a u z => ?_, ?_, fun r hr => ?_⟩, fun r hr => h.fr r (List.mem_of_mem_eraseIdx hr)⟩
  · have n : a ≠ q := fun z => h2 (by rw [z]; exact hq)
    rw [upd_ne n]; exact h.gr.off a h1 h2 h3
  · by_cases e2 : a = q
    · subst e2; rw [upd_same] at z; rw [ho]; exact z
    · rw [upd_ne e2] at z; exact h.wd.ex a u z
  · exact h.wd.nd.sublist ((List.eraseIdx_sublist _ _).map _)
  · obtain ⟨a, u, hu, b⟩ := h.wd.own r (List.mem_of_mem_eraseIdx hr)
    exact ⟨by rw [upd_ne (nd r hr)]; exact a, u, hu, r.2.mono (Evl.Ex.new fq) b⟩
theorem Pt.mut (h : Pt E F M H) (e : M[j]? = some (q, O)) (ho : O'.p F o') : Pt E F (M.set j (q, O')) (upd H q o') := by
  have hm := List.mem_of_getElem? e
  obtain ⟨fq, u0, hu0, _⟩ := h.at e
  refine ⟨⟨h.gr.ex, fun a u h1 h2 => ?_, h.gr.off, fun a h1 => ?_, fun a h1 h2 => ?_⟩, ⟨fun a u z => ?_, by rw [keys_set e]; exact h.wd.nd, fun r hr => ?_⟩, fun r hr => ?_⟩
  · have n : a ≠ q := fun z => by
      subst z
      rcases h.fr _ hm with f | f
      · exact h1 f
      · rw [show E.H a = none from f] at h2; cases h2
    rw [upd_ne n]; exact h.gr.keep a u h1 h2
  · by_cases z : a = q
    · subst z; rw [upd_same]; exact fun z => by cases z
    · rw [upd_ne z]; exact h.gr.stay a h1
  · by_cases z : a = q
    · subst z; rw [upd_same]; exact fun xs e => O'.nt ho xs (Option.some.inj e)
    · rw [upd_ne z]; exact h.gr.nott a h1 h2
  · rw [upd_ne (ne_of_none z fq)]; exact h.wd.ex a u z
  · rcases mem_set_ne h.wd.nd e r hr with z | ⟨z, n⟩
    · subst z; exact ⟨fq, o', upd_same, ho⟩
    · obtain ⟨a, u, hu, b⟩ := h.wd.own r z
      exact ⟨a, u, by rw [upd_ne n]; exact hu, b⟩
  · rcases mem_set_ne h.wd.nd e r hr with z | ⟨z, n⟩
    · subst z; exact (show q ∈ E.ks ∨ E.H q = none from h.fr (q, O) hm)
    · exact h.fr r z
theorem Pt.drop (h : Pt E F M H) (s : List.Sublist M' M) : Pt E F M' H :=
  ⟨h.gr, ⟨h.wd.ex, h.wd.nd.sublist (s.map _), fun r hr => h.wd.own r (s.subset hr)⟩, fun r hr => h.fr r (s.subset hr)⟩
theorem Pt.to (h : Pt E F M H) (l : ∀ F o, O.p F o → O'.p F o) (e : M[j]? = some (q, O)) : Pt E F (M.set j (q, O')) H := by
  obtain ⟨fq, u0, hu0, hO⟩ := h.at e
  have := h.mut (o' := u0) (O' := O') e (l _ _ hO)
  have e2 : upd H q u0 = H := by
    funext a
    by_cases z : a = q
    · subst z; rw [upd_same, hu0]
    · rw [upd_ne z]
  rw [e2] at this
  exact this
/-! ### changes of what is known -/
theorem Nx.imp {f} (h : Nx E Γ' M' f) (i : ∀ σ H, At E Γ M σ H → At E Γ' M' σ H) : Nx E Γ M f := fun σ H a => h σ H (i σ H a)
theorem EnvOk.upd {i : Nat} (h : EnvOk F σ Γ) (e : Γ[i]? = some (some P)) (l : ∀ v, P.p F v → P'.p F v) : EnvOk F σ (Γ.set i (some P')) := by
  have key : ∀ {σ : St} {Γ : Gm} {i : Nat}, EnvOk F σ Γ → Γ[i]? = some (some P) → EnvOk F σ (Γ.set i (some P')) := by
    intro σ Γ
    induction Γ generalizing σ with
    | nil => intro i _ h; simp at h
    | cons g Γ ih =>
      intro i h e
      cases h with
      | cons a t =>
        cases i with
        | zero =>
          have e : g = some P := Option.some.inj e
          refine .cons (fun Q hQ => ?_) t
          cases hQ
          obtain ⟨v, hv, k⟩ := a P e
          exact ⟨v, hv, l v k⟩
        | succ i => exact .cons a (ih t e)
  exact key h e
theorem nx_ex {α : Type} {f} {i : Nat} {R : α → MP} (e : Γ[i]? = some (some (PEx R))) (h : ∀ x, Nx E (Γ.set i (some (R x))) M f) : Nx E Γ M f := by
  rintro σ H ⟨F, a, b⟩
  obtain ⟨v, hv, x, k⟩ := b.get e
  refine h x σ H ⟨F, a, ?_⟩
  have : EnvOk F (σ.set i (some v)) (Γ.set i (some (R x))) := b.set i k
  have e2 : σ.set i (some v) = σ := by
    have hi := (List.getElem?_eq_some_iff.mp hv)
    obtain ⟨hi, hv⟩ := hi
    rw [← hv, List.set_getElem_self]
  rw [e2] at this
  exact this
theorem nx_an {φ : Prop} {f} {i : Nat} {R : MP} (e : Γ[i]? = some (some (PAn φ R))) (h : φ → Nx E (Γ.set i (some R)) M f) : Nx E Γ M f := by
  rintro σ H ⟨F, a, b⟩
  obtain ⟨v, hv, k1, k2⟩ := b.get e
  refine h k1 σ H ⟨F, a, b.upd e fun v q => q.2⟩
theorem nx_drop {f} (s : List.Sublist M' M) (h : Nx E Γ M' f) : Nx E Γ M f := h.imp fun σ H ⟨F, a, b⟩ => ⟨F, a.drop s, b⟩
/-! ### expressions -/
variable {te ta tb tc tl : TE} {t u : TT} {r : R2}
theorem ev_var {i : Nat} (e : Γ[i]? = some (some P)) : Ev (tVar i) Γ M P M := fun E F σ H a b Q k => by
  obtain ⟨v, hv, hp⟩ := b.get e
  exact ⟨v, hv, k v F H (Evl.Ex.refl _) a hp⟩
theorem ev_cv {v : V} (h : ∀ F, P.p F v) : Ev (tC v) Γ M P M := fun E F σ H a b Q k => k v F H (Evl.Ex.refl _) a (h F)
theorem ev_int {i : Int} : Ev (tC (.int i)) Γ M (D K (.int i)) M := ev_cv fun _ => .int i
theorem ev_bl {b : Bool} : Ev (tC (.bl b)) Γ M (D K (.bool b)) M := ev_cv fun _ => .bl b
def Cont (E : Ent) (F : Hp) (M : Ms) (P : MP) (Q : VK) : Prop := ∀ v F' H', Ex F F' → Pt E F' M H' → P.p F' v → Q v H'
def RV (r : R2) (P1 P2 : MP) (M : Ms) (P : MP) (M' : Ms) : Prop := ∀ E F H x y, Pt E F M H → P1.p F x → P2.p F y → ∀ Q : VK, Cont E F M' P Q → r x y H Q
theorem ev_op (ha : Ev ta Γ M P1 M1) (hb : Ev tb Γ M1 P2 M2) (hr : RV r P1 P2 M2 P M3) : Ev (tOp r ta tb) Γ M P M3 := fun E F σ H a b Q k =>
  ha E F σ H a b _ fun x F1 H1 e1 a1 p1 => hb E F1 σ H1 a1 (b.mono e1) _ fun y F2 H2 e2 a2 p2 =>
    hr E F2 H2 x y a2 (P1.mono e2 p1) p2 Q fun v F3 H3 e3 a3 p3 => k v F3 H3 ((e1.trans e2).trans e3) a3 p3
theorem RV.ex2 {α : Type} {R : α → MP} (h : ∀ x, RV r P1 (R x) M P M') : RV r P1 (PEx R) M P M' := fun E F H x y a p1 ⟨z, p2⟩ Q k => h z E F H x y a p1 p2 Q k
theorem RV.an2 {φ : Prop} {R : MP} (h : φ → RV r P1 R M P M') : RV r P1 (PAn φ R) M P M' := fun E F H x y a p1 p2 Q k => h p2.1 E F H x y a p1 p2.2 Q k
theorem RV.weak (h : RV r P1 P2 M P M') (l : P.le P') : RV r P1 P2 M P' M' := fun E F H x y a p1 p2 Q k => h E F H x y a p1 p2 Q fun v F' H' e g p => k v F' H' e g (l _ _ p)
theorem PEx.in {α : Type} {R : α → MP} (x : α) : (R x).le (PEx R) := fun _ _ h => ⟨x, h⟩
theorem PAn.in {φ : Prop} {R : MP} (h : φ) : R.le (PAn φ R) := fun _ _ k => ⟨h, k⟩
theorem MP.le_trans {A B C : MP} (h : A.le B) (k : B.le C) : A.le C := fun F v q => k F v (h F v q)
theorem rv_val {z : V} (hz : ∀ F, P.p F z) (h : ∀ F H x y, P1.p F x → P2.p F y → Ex F H → ∀ Q : VK, Q z H → r x y H Q) : RV r P1 P2 M P M := fun E F H x y a p1 p2 Q k =>
  h F H x y p1 p2 a.ex Q (k z F H (Evl.Ex.refl _) a (hz F))
theorem rv_i0 {g : Int → Int → Int} {i j : Int} : RV (rI0 fun i j => .int (g i j)) (D K (.int i)) (D K (.int j)) M (D K (.int (g i j))) M := rv_val (z := .int (g i j)) (fun _ => .int _) fun F H x y p1 p2 _ Q q => by
  cases dp_int p1; cases dp_int p2
  exact ⟨i, j, rfl, rfl, q⟩
theorem rv_b0 {g : Int → Int → Bool} {i j : Int} : RV (rI0 fun i j => .bl (g i j)) (D K (.int i)) (D K (.int j)) M (D K (.bool (g i j))) M := rv_val (z := .bl (g i j)) (fun _ => .bl _) fun F H x y p1 p2 _ Q q => by
  cases dp_int p1; cases dp_int p2
  exact ⟨i, j, rfl, rfl, q⟩
theorem rv_ic {C : Int → Int → Prop} {g : Int → Int → Int} {i j : Int} (hc : C i j) : RV (rI C fun i j => .int (g i j)) (D K (.int i)) (D K (.int j)) M (D K (.int (g i j))) M := rv_val (z := .int (g i j)) (fun _ => .int _) fun F H x y p1 p2 _ Q q => by
  cases dp_int p1; cases dp_int p2
  exact ⟨i, j, rfl, rfl, hc, q⟩
theorem rv_eqD {d e : PyData} (hd : SeqAt.shaped d = true) (he : SeqAt.shaped e = true) : RV (rEqD K) (D K d) (D K e) M (D K (.bool (PyData.eqv d e))) M := rv_val (z := .bl _) (fun _ => .bl _) fun F H x y p1 p2 ex Q q =>
  ⟨d, e, Dp.mono ex p1, Dp.mono ex p2, hd, he, q⟩
theorem atI_of {xs : List V} {i : Int} {v : V} (h0 : 0 ≤ i) (h : xs[i.toNat]? = some v) : atI xs i = some v := by
  have hl := (List.getElem?_eq_some_iff.mp h).1
  obtain ⟨n, rfl⟩ := Int.eq_ofNat_of_zero_le h0
  unfold atI
  rw [Evl.ixN_nat (by simpa using hl)]
  simpa using h
theorem rv_ixL {ps : List MP} {i : Int} (h0 : 0 ≤ i) (h : ps[i.toNat]? = some P) : RV (rIx K) (PLi K ps) (D K (.int i)) M P M := fun E F H x y a p1 p2 Q k => by
  cases dp_int p2
  obtain ⟨b, vs, rfl, s, q⟩ := p1
  obtain ⟨v, hv, hp⟩ := paired_get q h
  exact .inl ⟨b, vs, i, v, rfl, rfl, Evl.ex_l a.ex s, atI_of h0 hv, k v F H (Evl.Ex.refl _) a hp⟩
theorem rv_ixT {ps : List MP} {i : Int} (h0 : 0 ≤ i) (h : ps[i.toNat]? = some P) : RV (rIx K) (PTu K ps) (D K (.int i)) M P M := fun E F H x y a p1 p2 Q k => by
  cases dp_int p2
  obtain ⟨b, vs, rfl, s, q⟩ := p1
  obtain ⟨v, hv, hp⟩ := paired_get q h
  exact .inr (.inl ⟨b, vs, i, v, rfl, rfl, Evl.ex_t a.ex s, atI_of h0 hv, k v F H (Evl.Ex.refl _) a hp⟩)
theorem rv_ixDT {ds : List PyData} {i : Int} {d : PyData} (h0 : 0 ≤ i) (h : ds[i.toNat]? = some d) : RV (rIx K) (D K (.tuple ds)) (D K (.int i)) M (D K d) M := fun E F H x y a p1 p2 Q k =>
  rv_ixT (K := K) (ps := ds.map (D K)) h0 (by rw [List.getElem?_map, h]; rfl) E F H x y a (D_PTu _ _ p1) p2 Q k
theorem rv_ixO {ps : List MP} {i : Int} {j : Nat} (e : M[j]? = some (q, ML ps)) (h0 : 0 ≤ i) (h : ps[i.toNat]? = some P) : RV (rIx K) (Own q) (D K (.int i)) M P M := fun E F H x y a p1 p2 Q k => by
  cases dp_int p2
  have p1 : x = .ref q := p1
  subst p1
  obtain ⟨fq, o, ho, vs, rfl, s⟩ := a.at e
  obtain ⟨v, hv, hp⟩ := paired_get s h
  exact .inl ⟨q, vs, i, v, rfl, rfl, SqL.of ho, atI_of h0 hv, k v F H (Evl.Ex.refl _) a hp⟩
/-! ### arguments, calls -/
theorem ea_nil : EvA tNil Γ M [] M := fun E F σ H a b Q k => k [] F H (Evl.Ex.refl _) a .nil
theorem ea_cons {tr : TA} {ps : List MP} (h : Ev te Γ M P M1) (hr : EvA tr Γ M1 ps M2) : EvA (tCons te tr) Γ M (P :: ps) M2 := fun E F σ H a b Q k =>
  h E F σ H a b _ fun x F1 H1 e1 a1 p1 => hr E F1 σ H1 a1 (b.mono e1) _ fun vs F2 H2 e2 a2 p2 => k (x :: vs) F2 H2 (e1.trans e2) a2 (.cons (P.mono e2 p1) p2)
def RC (rc : List V → Hp → VK → Prop) (ps : List MP) (M : Ms) (P : MP) (M' : Ms) : Prop := ∀ E F H vs, Pt E F M H → Ps F vs ps → ∀ Q : VK, Cont E F M' P Q → rc vs H Q
theorem ev_cb {rc : List V → Hp → VK → Prop} {tr : TA} {ps : List MP} (h : EvA tr Γ M ps M1) (hr : RC rc ps M1 P M2) : Ev (tCB rc tr) Γ M P M2 := fun E F σ H a b Q k =>
  h E F σ H a b _ fun vs F1 H1 e1 a1 p1 => hr E F1 H1 vs a1 p1 Q fun v F2 H2 e2 a2 p2 => k v F2 H2 (e1.trans e2) a2 p2
theorem ev_call {sp : Sp} {dvs : List V} {X : XK} {tr : TA} {ps : List MP} (h : EvA tr Γ M ps M1) (hr : RC (fun vs H Q => sp (vs ++ dvs) H Q X) ps M1 P M2) : Ev (tCall sp dvs X tr) Γ M P M2 := fun E F σ H a b Q k =>
  h E F σ H a b _ fun vs F1 H1 e1 a1 p1 => hr E F1 H1 vs a1 p1 Q fun v F2 H2 e2 a2 p2 => k v F2 H2 (e1.trans e2) a2 p2
theorem RC.weak {rc : List V → Hp → VK → Prop} {ps : List MP} (h : RC rc ps M P M') (l : P.le P') : RC rc ps M P' M' := fun E F H vs a p Q k => h E F H vs a p Q fun v F' H' e g p => k v F' H' e g (l _ _ p)
theorem rc_lenO {ps : List MP} {j : Nat} (e : M[j]? = some (q, ML ps)) : RC (fun xs H Q => ∃ p ys, xs = [.ref p] ∧ (SqL K H p ys ∨ SqT K H p ys) ∧ Q (.int ys.length) H) [Own q] M (D K (.int ps.length)) M := fun E F H vs a p Q k => by
  cases p with
  | cons p t =>
    cases t
    have p : _ = V.ref q := p
    subst p
    obtain ⟨fq, o, ho, vs, rfl, s⟩ := a.at e
    refine ⟨q, vs, rfl, .inl (SqL.of ho), k _ F H (Evl.Ex.refl _) a ?_⟩
    rw [← paired_len s]
    exact .int _
end
end Hq
namespace Hq
open PySem L2
section
variable {K : PySem.W.Frag} {E E' : Ent} {F F' H H' : Hp} {M M' M1 M2 M3 : Ms} {Γ Γ' : Gm} {P P' P1 P2 : MP} {O O' : MO} {q : Addr} {σ : St} {o o' : HO} {j : Nat}
variable {te ta tb tc tl : TE} {t u : TT} {r : R2} {D1 : Ends} {tu tw : TS}
/-! ### new objects -/
def ContN (E : Ent) (F : Hp) (O : MO) (M : Ms) (Q : VK) : Prop := ∀ q F' H', E.H q = none → Ex F F' → Pt E F' ((q, O) :: M) H' → Q (.ref q) H'
def EvN (te : TE) (Γ : Gm) (M : Ms) (O : MO) (M' : Ms) : Prop := ∀ E F σ H, Pt E F M H → EnvOk F σ Γ → ∀ Q : VK, ContN E F O M' Q → te σ H Q
def RCN (rc : List V → Hp → VK → Prop) (ps : List MP) (M : Ms) (O : MO) (M' : Ms) : Prop := ∀ E F H vs, Pt E F M H → Ps F vs ps → ∀ Q : VK, ContN E F O M' Q → rc vs H Q
/-- an object that stands -/
def Fr (O : MO) : MP := ⟨fun F v => ∃ q o, v = .ref q ∧ F q = some o ∧ O.p F o, fun e ⟨q, o, a, b, c⟩ => ⟨q, o, a, e _ _ b, O.mono e c⟩⟩
theorem fr_L {ps : List MP} : (Fr (ML ps)).le (PLi K ps) := fun F v ⟨q, o, a, b, vs, e, h⟩ => by subst e; exact ⟨q, vs, a, SqL.of b, h⟩
theorem PEx.le {α : Type} {R R' : α → MP} (h : ∀ x, (R x).le (R' x)) : (PEx R).le (PEx R') := fun F v ⟨x, k⟩ => ⟨x, h x F v k⟩
theorem PAn.le {φ : Prop} {R R' : MP} (h : φ → R.le R') : (PAn φ R).le (PAn φ R') := fun F v k => ⟨k.1, h k.1 F v k.2⟩
theorem ev_fr (h : EvN te Γ M O M') : Ev te Γ M (Fr O) M' := fun E F σ H a b Q k => h E F σ H a b Q fun q F' H' f e g => by
  obtain ⟨fq, o, ho, hO⟩ := g.at (j := 0) rfl
  have ex : Ex F' (upd F' q o) := Evl.Ex.new fq
  exact k _ _ _ (e.trans ex) (g.freeze (j := 0) rfl f ho) ⟨q, o, rfl, upd_same, O.mono ex hO⟩
theorem ev_newL {ps : List MP} (h : EvN te Γ M (ML ps) M') : Ev te Γ M (PLi K ps) M' := (ev_fr h).weak fr_L
theorem EvN.weak (h : EvN te Γ M O M') (l : ∀ F o, O.p F o → O'.p F o) : EvN te Γ M O' M' := fun E F σ H a b Q k => h E F σ H a b Q fun q F' H' f e g => k q F' H' f e (by
  have := g.to (j := 0) (O' := O') l rfl
  exact this)
theorem EvN.is {O2 : MO} (h : EvN te Γ M O M') (e : O = O2) : EvN te Γ M O2 M' := e ▸ h
theorem Ev.is (h : Ev te Γ M P M') (e : P = P') : Ev te Γ M P' M' := e ▸ h
theorem sz_of {n : Nat} (h : n ≤ 100000) : n ≤ sizeLine := Nat.le_trans h (by decide)
theorem sz_lt {n : Nat} (h : n < 100000) : n < sizeLine := Nat.lt_of_lt_of_le h (by decide)
theorem evn_lst {tr : TA} {ps : List MP} (h : EvA tr Γ M ps M1) (hl : ps.length ≤ 100000) : EvN (tLst tr) Γ M (ML ps) M1 := fun E F σ H a b Q k =>
  h E F σ H a b _ fun vs F1 H1 e1 a1 p1 => ⟨sz_of (by rw [paired_len p1]; exact hl), fun p hp => k p F1 _ (a1.fresh hp) e1 (a1.new hp ⟨vs, rfl, p1⟩)⟩
theorem ev_tup {tr : TA} {ps : List MP} (h : EvA tr Γ M ps M1) (hl : ps.length ≤ 100000) : Ev (tTup tr) Γ M (PTu K ps) M1 := fun E F σ H a b Q k =>
  h E F σ H a b _ fun vs F1 H1 e1 a1 p1 => ⟨sz_of (by rw [paired_len p1]; exact hl), fun p hp => k _ _ _ (e1.trans (Evl.Ex.new (Evl.fresh_back a1.ex hp))) (a1.laid hp)
    ⟨p, vs, rfl, SqT.of upd_same, p1.mono (Evl.Ex.new (Evl.fresh_back a1.ex hp))⟩⟩
theorem evn_cb {rc : List V → Hp → VK → Prop} {tr : TA} {ps : List MP} (h : EvA tr Γ M ps M1) (hr : RCN rc ps M1 O M2) : EvN (tCB rc tr) Γ M O M2 := fun E F σ H a b Q k =>
  h E F σ H a b _ fun vs F1 H1 e1 a1 p1 => hr E F1 H1 vs a1 p1 Q fun q F2 H2 f e2 a2 => k q F2 H2 f (e1.trans e2) a2
theorem ps1 {F : Hp} {vs : List V} {P : MP} (h : Ps F vs [P]) : ∃ v, vs = [v] ∧ P.p F v := by cases h with | cons a t => cases t; exact ⟨_, rfl, a⟩
theorem ps2 {F : Hp} {vs : List V} {P P' : MP} (h : Ps F vs [P, P']) : ∃ v w, vs = [v, w] ∧ P.p F v ∧ P'.p F w := by cases h with | cons a t => obtain ⟨w, rfl, b⟩ := ps1 t; exact ⟨_, w, rfl, a, b⟩
/-- list(x) -/
abbrev rList (K : PySem.W.Frag) : List V → Hp → VK → Prop := fun xs H Q => ∃ p ys, xs = [.ref p] ∧ (SqL K H p ys ∨ SqT K H p ys) ∧ ∀ l, H l = none → Q (.ref l) (upd H l (.lst ys))
theorem rcn_listL {ps : List MP} : RCN (rList K) [PLi K ps] M (ML ps) M := fun E F H vs a h Q k => by
  obtain ⟨v, rfl, b, ws, rfl, s, p⟩ := ps1 h
  exact ⟨b, ws, rfl, .inl (Evl.ex_l a.ex s), fun l hl => k l F _ (a.fresh hl) (Evl.Ex.refl _) (a.new hl ⟨ws, rfl, p⟩)⟩
abbrev rInt : List V → Hp → VK → Prop := fun xs H Q => (∃ i, xs = [.int i] ∧ Q (.int i) H) ∨ ∃ k, xs = [.bl k] ∧ Q (.int (if k then 1 else 0)) H
theorem rc_int {i : Int} : RC rInt [D K (.int i)] M (D K (.int i)) M := fun E F H vs a h Q k => by
  obtain ⟨v, rfl, hv⟩ := ps1 h
  cases dp_int hv
  exact .inl ⟨i, rfl, k _ F H (Evl.Ex.refl _) a (.int i)⟩
theorem RC.in1 {rc : List V → Hp → VK → Prop} {R R' : MP} {ps : List MP} (l : R.le R') (h : RC rc (R' :: ps) M P M') : RC rc (R :: ps) M P M' := fun E F H vs a p Q k => by
  cases p with
  | cons b t => exact h E F H _ a (.cons (l _ _ b) t) Q k
theorem RCN.in1 {rc : List V → Hp → VK → Prop} {R R' : MP} {ps : List MP} (l : R.le R') (h : RCN rc (R' :: ps) M O M') : RCN rc (R :: ps) M O M' := fun E F H vs a p Q k => by
  cases p with
  | cons b t => exact h E F H _ a (.cons (l _ _ b) t) Q k
theorem RCN.weak {rc : List V → Hp → VK → Prop} {ps : List MP} (h : RCN rc ps M O M') (l : ∀ F o, O.p F o → O'.p F o) : RCN rc ps M O' M' := fun E F H vs a p Q k => h E F H vs a p Q fun q F' H' f e g => k q F' H' f e (g.to (j := 0) (O' := O') l rfl)
/-! ### tests -/
theorem et_val {b : Bool} (h : Ev te Γ M (D K (.bool b)) M') : EvT (tB te) Γ M (· = b) M' := fun E F σ H a c Q k => h E F σ H a c _ fun v F' H' e g p => by
  cases dp_bl p; exact ⟨b, rfl, k b F' H' e g rfl⟩
theorem et_test {b : Bool} (h : Ev te Γ M (D K (.bool b)) M') : EvT (tTest te) Γ M (· = b) M' := fun E F σ H a c Q k => h E F σ H a c _ fun v F' H' e g p => by
  cases dp_bl p; exact ⟨b, rfl, k b F' H' e g rfl⟩
theorem et_and {a b : Bool} (h1 : EvT t Γ M (· = a) M1) (h2 : a = true → EvT u Γ M1 (· = b) M1) : EvT (tAnd t u) Γ M (· = (a && b)) M1 := fun E F σ H x c Q k => h1 E F σ H x c _ fun z F1 H1 e1 g1 hz => by
  subst hz
  cases z with
  | true => exact h2 rfl E F1 σ H1 g1 (c.mono e1) _ fun z F2 H2 e2 g2 hz => k z F2 H2 (e1.trans e2) g2 hz
  | false => exact k false F1 H1 e1 g1 rfl
theorem et_or {a b : Bool} (h1 : EvT t Γ M (· = a) M1) (h2 : a = false → EvT u Γ M1 (· = b) M1) : EvT (tOr t u) Γ M (· = (a || b)) M1 := fun E F σ H x c Q k => h1 E F σ H x c _ fun z F1 H1 e1 g1 hz => by
  subst hz
  cases z with
  | true => exact k true F1 H1 e1 g1 rfl
  | false => exact h2 rfl E F1 σ H1 g1 (c.mono e1) _ fun z F2 H2 e2 g2 hz => k z F2 H2 (e1.trans e2) g2 hz
theorem et_not {a : Bool} (h : EvT t Γ M (· = a) M') : EvT (tNot t) Γ M (· = !a) M' := fun E F σ H x c Q k => h E F σ H x c _ fun z F1 H1 e1 g1 hz => k _ F1 H1 e1 g1 (by rw [hz])
theorem ev_andV {a b : Bool} (h1 : Ev ta Γ M (D K (.bool a)) M1) (h2 : a = true → Ev tb Γ M1 (D K (.bool b)) M1) : Ev (tAndV ta tb) Γ M (D K (.bool (a && b))) M1 := fun E F σ H x c Q k => h1 E F σ H x c _ fun z F1 H1 e1 g1 hz => by
  cases dp_bl hz
  refine ⟨a, rfl, ?_⟩
  cases a with
  | true => exact h2 rfl E F1 σ H1 g1 (c.mono e1) _ fun z F2 H2 e2 g2 hz => k z F2 H2 (e1.trans e2) g2 hz
  | false => exact k _ F1 H1 e1 g1 (.bl false)
theorem ev_if {b : Bool} (h : EvT t Γ M (· = b) M1) (h1 : b = true → Ev ta Γ M1 P M2) (h2 : b = false → Ev tb Γ M1 P M2) : Ev (tIf t ta tb) Γ M P M2 := fun E F σ H x c Q k => h E F σ H x c _ fun z F1 H1 e1 g1 hz => by
  subst hz
  cases z with
  | true => exact h1 rfl E F1 σ H1 g1 (c.mono e1) _ fun v F2 H2 e2 g2 p => k v F2 H2 (e1.trans e2) g2 p
  | false => exact h2 rfl E F1 σ H1 g1 (c.mono e1) _ fun v F2 H2 e2 g2 p => k v F2 H2 (e1.trans e2) g2 p
/-! ### statements -/
theorem go_asg {i : Nat} (h : Ev te Γ M P M1) (k : Nx E (Γ.set i (some P)) M1 D1.nx) : Nx E Γ M (tAsg te (gName i) D1) := fun σ H ⟨F, a, b⟩ =>
  h E F σ H a b _ fun v F' H' e g p => k _ _ ⟨F', g, (b.mono e).set i p⟩
theorem go_asgN {i : Nat} (h : EvN te Γ M O M1) (k : ∀ q, E.H q = none → Nx E (Γ.set i (some (Own q))) ((q, O) :: M1) D1.nx) : Nx E Γ M (tAsg te (gName i) D1) := fun σ H ⟨F, a, b⟩ =>
  h E F σ H a b _ fun q F' H' f e g => k q f _ _ ⟨F', g, (b.mono e).set i (P := Own q) rfl⟩
theorem go_drop (h : Ev te Γ M P M1) (k : Nx E Γ M1 D1.nx) : Nx E Γ M (tDrop te D1) := fun σ H ⟨F, a, b⟩ => h E F σ H a b _ fun v F' H' e g p => k _ _ ⟨F', g, b.mono e⟩
theorem go_if {B : Bool → Prop} (h : EvT t Γ M B M1) (h1 : B true → Nx E Γ M1 (tu D1)) (h2 : B false → Nx E Γ M1 (tw D1)) : Nx E Γ M (tIfS t tu tw D1) := fun σ H ⟨F, a, b⟩ => h E F σ H a b _ fun z F' H' e g hz => by
  cases z with
  | true => exact h1 hz σ H' ⟨F', g, b.mono e⟩
  | false => exact h2 hz σ H' ⟨F', g, b.mono e⟩
theorem go_ret {E0 : Ent} (l : Le E E0) (h : Ev te Γ M P M1) (k : Rt E0 M1 P D1.rt) : Nx E Γ M (tRet te D1) := fun σ H ⟨F, a, b⟩ => h E F σ H a b _ fun v F' H' e g p => k v F' H' (l.to _ _ _ g) p
theorem go_next (k : Nx E Γ M D1.nx) : Nx E Γ M (tNext D1) := k
theorem Rt.drop {f : VK} (s : List.Sublist M M') (h : Rt E M P f) : Rt E M' P f := fun v F H a p => h v F H (a.drop s) p
theorem Rt.weak {f : VK} (l : P.le P') (h : Rt E M P' f) : Rt E M P f := fun v F H a p => h v F H a (l _ _ p)
/-- xs.append(e) -/
theorem go_app {ps : List MP} (ho : Ev ta Γ M (Own q) M) (h : Ev te Γ M P M1) (e0 : M[j]? = some (q, ML ps)) (e : M1[j]? = some (q, ML ps)) (hz : ps.length < 100000) (k : Nx E Γ (M1.set j (q, ML (ps ++ [P]))) D1.nx) :
    Nx E Γ M (tDrop (tBM K "list" rAppend ta (tCons te tNil)) D1) := fun σ H ⟨F, a, b⟩ => ho E F σ H a b _ fun v F1 H1 e1 g1 p1 => by
  have p1 : v = .ref q := p1
  subst p1
  obtain ⟨_, o, ho1, ws0, rfl, _⟩ := g1.at e0
  refine ⟨.inl ⟨rfl, ws0, SqL.of ho1⟩, ?_⟩
  refine h E F1 σ H1 g1 (b.mono e1) _ fun w F2 H2 e2 g2 p2 => ?_
  obtain ⟨_, o, ho2, ws, rfl, s⟩ := g2.at e
  refine ⟨q, ws, w, rfl, rfl, ho2, sz_lt (by rw [paired_len s]; exact hz), ?_⟩
  exact k _ _ ⟨F2, g2.mut e ⟨_, rfl, paired_app s (.cons p2 .nil)⟩, b.mono (e1.trans e2)⟩
/-- xs[i] = e -/
theorem go_setL {ps : List MP} {i : Int} (h : Ev te Γ M P M1) (ho : Ev ta Γ M1 (Own q) M1) (hi : Ev tb Γ M1 (D K (.int i)) M2) (e : M2[j]? = some (q, ML ps)) (h0 : 0 ≤ i) (h1 : i.toNat < ps.length) (k : Nx E Γ (M2.set j (q, ML (ps.set i.toNat P))) D1.nx) :
    Nx E Γ M (tAsg te (gSub ta tb rSetL) D1) := fun σ H ⟨F, a, b⟩ => h E F σ H a b _ fun w F0 H0 e0 g0 p0 => ho E F0 σ H0 g0 (b.mono e0) _ fun v F1 H1 e1 g1 p1 => by
  have p1 : v = .ref q := p1
  subst p1
  refine hi E F1 σ H1 g1 (b.mono (e0.trans e1)) _ fun x F2 H2 e2 g2 p2 => ?_
  cases dp_int p2
  obtain ⟨_, o, ho2, ws, rfl, s⟩ := g2.at e
  obtain ⟨n, rfl⟩ := Int.eq_ofNat_of_zero_le h0
  have hn : n < ws.length := by rw [paired_len s]; exact h1
  refine ⟨q, ws, n, n, rfl, rfl, ho2, Evl.ixN_nat hn, ?_⟩
  exact k _ _ ⟨F2, g2.mut e ⟨_, rfl, paired_set (R := fun (v : V) (P : MP) => P.p F2 v) (P.mono (e1.trans e2) p0) n s⟩, b.mono ((e0.trans e1).trans e2)⟩
/-- xs.reverse() -/
theorem go_rev {ps : List MP} (ho : Ev ta Γ M (Own q) M) (e : M[j]? = some (q, ML ps)) (k : Nx E Γ (M.set j (q, ML ps.reverse)) D1.nx) : Nx E Γ M (tDrop (tBM0 K "list" rReverse ta) D1) := fun σ H ⟨F, a, b⟩ => ho E F σ H a b _ fun v F1 H1 e1 g1 p1 => by
  have p1 : v = .ref q := p1
  subst p1
  obtain ⟨_, o, ho1, ws, rfl, s⟩ := g1.at e
  refine ⟨.inl ⟨rfl, ws, SqL.of ho1⟩, q, ws, rfl, rfl, ho1, ?_⟩
  have srev : ∀ {ws : List V} {ps : List MP}, Ps F1 ws ps → Ps F1 ws.reverse ps.reverse := by
    intro ws ps s
    induction s with
    | nil => exact .nil
    | cons a t ih => rw [List.reverse_cons, List.reverse_cons]; exact paired_app ih (.cons a .nil)
  exact k _ _ ⟨F1, g1.mut e ⟨_, rfl, srev s⟩, b.mono e1⟩
/-- name += e -/
theorem go_aug {i : Nat} {f : Int → Int → Int} {x y : Int} (hx : Γ[i]? = some (some (D K (.int x)))) (h : Ev te Γ M (D K (.int y)) M1) (k : Nx E (Γ.set i (some (D K (.int (f x y))))) M1 D1.nx) : Nx E Γ M (tAug i te (ipI f) D1) := fun σ H ⟨F, a, b⟩ => by
  obtain ⟨v, hv, p⟩ := b.get hx
  cases dp_int p
  refine ⟨_, hv, h E F σ H a b _ fun w F1 H1 e1 g1 p1 => ?_⟩
  cases dp_int p1
  exact ⟨x, y, rfl, rfl, k _ _ ⟨F1, g1, (b.mono e1).set i (P := D K (.int (f x y))) (.int _)⟩⟩
/-! ### loops -/
def JA (E : Ent) (J : Gm → Ms → Prop) (σ : St) (H : Hp) : Prop := ∃ Γ M, J Γ M ∧ At E Γ M σ H
theorem JA.of {J : Gm → Ms → Prop} (h : J Γ M) : Nx E Γ M (JA E J) := fun σ H a => ⟨Γ, M, h, a⟩
theorem go_forT {ps : List MP} {i : Nat} (h : Ev tl Γ M (PTu K ps) M1) (J : Nat → Gm → Ms → Prop) (h0 : J 0 Γ M1)
    (hs : ∀ E', Le E' E → ∀ n P, ps[n]? = some P → ∀ Γ' M', J n Γ' M' → Nx E' (Γ'.set i (some P)) M' (tu { D1 with nx := JA E' (J (n + 1)), ct := JA E' (J (n + 1)), bk := D1.nx }))
    (hd : ∀ Γ' M', J ps.length Γ' M' → Nx E Γ' M' D1.nx) : Nx E Γ M (tFor (iTup K tl) (gName i) tu D1) := fun σ H ⟨F, a, b⟩ => h E F σ H a b _ fun v F1 H1 e1 g1 ⟨p, vs, hp, s, q⟩ => by
  refine ⟨p, hp, ⟨vs, Evl.ex_t g1.ex s⟩, for_tup (xs := vs) (fun n σ H => JA ⟨F1, H1, keys M1⟩ (J n) σ H) ⟨Γ, M1, h0, F1, g1.enter, b.mono e1⟩ (fun n σ2 H2 _ ⟨Γ', M', _, F2, g2, _⟩ => Evl.ex_t (g2.gr.ex.trans g2.ex) s)
    (fun n x σ2 H2 hx ⟨Γ', M', hJ, F2, g2, b2⟩ => ?_) (fun σ2 H2 hJ => ?_)⟩
  · obtain ⟨P, hP, hx2⟩ := paired_get' q hx
    exact hs ⟨F1, H1, keys M1⟩ g1.le n P hP Γ' M' hJ _ _ ⟨F2, g2, b2.set i (P.mono g2.gr.ex hx2)⟩
  · rw [paired_len q] at hJ
    obtain ⟨Γ', M', hJ, at2⟩ := hJ
    exact hd Γ' M' hJ _ _ (at2.le g1.le)
theorem go_forR {tr : TA} {z : Int} {i : Nat} (h : EvA tr Γ M [D K (.int z)] M1) (hz : z ≤ 1000000) (hz2 : -1000000 ≤ z) (J : Nat → Gm → Ms → Prop) (h0 : J 0 Γ M1)
    (hs : ∀ n : Nat, (n : Int) < z → ∀ Γ' M', J n Γ' M' → Nx E (Γ'.set i (some (D K (.int n)))) M' (tu { D1 with nx := JA E (J (n + 1)), ct := JA E (J (n + 1)), bk := D1.nx }))
    (hd : ∀ Γ' M', J z.toNat Γ' M' → Nx E Γ' M' D1.nx) : Nx E Γ M (tFor (iRng1 tr) (gName i) tu D1) := fun σ H ⟨F, a, b⟩ => h E F σ H a b _ fun vs F1 H1 e1 g1 p => by
  obtain ⟨v, rfl, hv⟩ := ps1 p
  cases dp_int hv
  refine ⟨z, rfl, by omega, by omega, for_range (lo := 0) (n := z.toNat) (fun n σ H => JA E (J n) σ H) ⟨Γ, M1, h0, F1, g1, b.mono e1⟩ (fun n σ2 H2 hn ⟨Γ', M', hJ, F2, g2, b2⟩ => ?_) (fun σ2 H2 ⟨Γ', M', hJ, at2⟩ => hd Γ' M' hJ _ _ at2)⟩
  refine hs n (by omega) Γ' M' hJ _ _ ⟨F2, g2, b2.set i ?_⟩
  have e0 : (0 : Int) + (n : Int) = (n : Int) := Int.zero_add _
  rw [e0]
  exact .int _
theorem go_while (J : Nat → Gm → Ms → Prop) (m0 : Nat) (h0 : J m0 Γ M)
    (hs : ∀ m Γ' M', J m Γ' M' → ∃ B M1, EvT t Γ' M' B M1 ∧ (B true → Nx E Γ' M1 (tu { D1 with nx := JA E (fun Γ M => ∃ m', m' < m ∧ J m' Γ M), ct := JA E (fun Γ M => ∃ m', m' < m ∧ J m' Γ M), bk := D1.nx })) ∧ (B false → Nx E Γ' M1 D1.nx)) : Nx E Γ M (tWhile t tu D1) := fun σ H a =>
  ⟨fun m σ H => JA E (J m) σ H, ⟨m0, Γ, M, h0, a⟩, fun m σ2 H2 ⟨Γ', M', hJ, F2, g2, b2⟩ => by
    obtain ⟨B, M1, hb, h1, h2⟩ := hs m Γ' M' hJ
    refine hb E F2 σ2 H2 g2 b2 _ fun z F3 H3 e3 g3 hz => ?_
    cases z with
    | true => exact ⟨JA E (fun Γ M => ∃ m', m' < m ∧ J m' Γ M), fun σ4 H4 ⟨Γ4, M4, ⟨m', hm, hJ4⟩, a4⟩ => ⟨m', hm, Γ4, M4, hJ4, a4⟩, h1 hz σ2 H3 ⟨F3, g3, b2.mono e3⟩⟩
    | false => exact h2 hz σ2 H3 ⟨F3, g3, b2.mono e3⟩⟩
/-! ### comprehensions -/
end
end Hq
/-! set(x) of a list of ints, told with the order of its table -/
namespace Hq
open PySem PySem.Spec PyProof.Rows L2
end Hq
namespace Hq
open PySem L2
/-! ### promises -/
def Prom (ps : List MP) (M : Ms) (P : MP) (M' : Ms) (vs : List V) (H : Hp) (Q : VK) : Prop := ∃ F, Wd F M H ∧ Ps F vs ps ∧ Rt ⟨F, H, keys M⟩ M' P Q
section
variable {K : PySem.W.Frag} {E E' : Ent} {F F' H H' : Hp} {M M' Mc Mc' M1 M2 M3 : Ms} {Γ Γ' : Gm} {P P' P1 P2 : MP} {O O' : MO} {q : Addr} {σ : St} {o o' : HO} {j : Nat}
variable {te ta tb tc tl : TE} {t u : TT} {r : R2} {D1 : Ends} {tu tw : TS} {ps : List MP} {sp : Sp} {X : XK} {tr : TA} {C : Addr} {fps : List (Str × MP)}
theorem Pt.frame {ks : List Addr} (h : Pt E F M H) (g : Pt ⟨F, H, ks⟩ F' Mc H') (hk : ∀ a ∈ ks, a ∈ keys M) (hM : keys M' = keys M) (hr : ∀ r ∈ M', (r.1 ∉ ks ∧ r ∈ M) ∨ r ∈ Mc) : Pt E F' M' H' := by
  refine h.back ⟨⟨g.gr.ex, fun a u h1 h2 => g.gr.keep a u (fun z => h1 (hk a z)) h2, g.gr.off, g.gr.stay, g.gr.nott⟩, ⟨g.wd.ex, by rw [hM]; exact h.wd.nd, fun r hm => ?_⟩, fun r hm => .inl ?_⟩
  · rcases hr r hm with ⟨n, hm2⟩ | hm2
    · obtain ⟨a, u, hu, b⟩ := h.wd.own r hm2
      exact ⟨g.gr.off _ a (show H r.1 ≠ none by rw [hu]; exact fun z => by cases z) (fun xs z => r.2.nt b xs (by have z : H r.1 = some (HO.tup xs) := z; rw [hu] at z; exact Option.some.inj z)), u, g.gr.keep _ _ n hu, r.2.mono g.gr.ex b⟩
    · exact g.wd.own r hm2
  · show r.1 ∈ keys M
    rw [← hM]
    exact List.mem_map_of_mem (f := (·.1)) hm
theorem set_same {α : Type} {l : List α} {j : Nat} {x : α} (e : l[j]? = some x) : l.set j x = l := by
  obtain ⟨h, e⟩ := List.getElem?_eq_some_iff.mp e
  rw [← e, List.set_getElem_self]
theorem rc_prom0 {dvs : List V} (hs : ∀ vs H Q, Prom ps [] P [] vs H Q → sp (vs ++ dvs) H Q X) : RC (fun vs H Q => sp (vs ++ dvs) H Q X) ps M P M := fun E F H vs a p Q k =>
  hs vs H Q ⟨F, ⟨a.ex, List.nodup_nil, fun r hr => by cases hr⟩, p, fun v F' H' g hp => k v F' H' g.gr.ex (a.frame g (fun _ z => by cases z) rfl fun r hr => .inl ⟨by simp [keys], hr⟩) hp⟩
theorem rc_prom1 {dvs : List V} (e : M[j]? = some (q, O)) (hs : ∀ vs H Q, Prom ps [(q, O)] P [(q, O')] vs H Q → sp (vs ++ dvs) H Q X) : RC (fun vs H Q => sp (vs ++ dvs) H Q X) ps M P (M.set j (q, O')) := fun E F H vs a p Q k => by
  have hm := List.mem_of_getElem? e
  refine hs vs H Q ⟨F, ⟨a.ex, by simp [keys], fun r hr => ?_⟩, p, fun v F' H' g hp => k v F' H' g.gr.ex (a.frame g (fun z hz => ?_) (keys_set e) fun r hr => ?_) hp⟩
  · rw [List.mem_singleton.mp hr]; exact a.wd.own _ hm
  · rw [List.mem_singleton.mp hz]; exact List.mem_map_of_mem (f := (·.1)) hm
  · rcases mem_set_ne a.wd.nd e r hr with z | ⟨z, n⟩
    · rw [z]; exact .inr List.mem_cons_self
    · exact .inl ⟨fun w => n (List.mem_singleton.mp w), z⟩
theorem rc_prom1s {dvs : List V} (e : M[j]? = some (q, O)) (hs : ∀ vs H Q, Prom ps [(q, O)] P [(q, O)] vs H Q → sp (vs ++ dvs) H Q X) : RC (fun vs H Q => sp (vs ++ dvs) H Q X) ps M P M := by
  have := rc_prom1 (O' := O) e hs
  rw [set_same e] at this
  exact this
/-- calls -/
theorem ev_call0 (h : EvA tr Γ M ps M1) (hs : ∀ vs H Q, Prom ps [] P [] vs H Q → sp (vs ++ []) H Q X) : Ev (tCall sp [] X tr) Γ M P M1 := ev_call h (rc_prom0 hs)
theorem ev_call1 (h : EvA tr Γ M ps M1) (e : M1[j]? = some (q, O)) (hs : ∀ vs H Q, Prom ps [(q, O)] P [(q, O)] vs H Q → sp (vs ++ []) H Q X) : Ev (tCall sp [] X tr) Γ M P M1 := ev_call h (rc_prom1s e hs)
/-- the beginning of a def -/
theorem go_start {N : List Str} {vs : List V} {f : St → Hp → Prop} (w : Wd F M H) (p : Ps F vs ps) (hΓ : Γ = ps.map some ++ List.replicate (N.length - ps.length) none) (h : Nx ⟨F, H, keys M⟩ Γ M f) : f (L2.start N vs) H := by
  refine h _ _ ⟨F, Pt.start w, ?_⟩
  subst hΓ
  unfold L2.start
  rw [paired_len p]
  have base : ∀ {vs : List V} {ps : List MP}, Ps F vs ps → EnvOk F (vs.map some) (ps.map some) := by
    intro vs ps p
    induction p with
    | nil => exact .nil
    | cons a t ih => exact .cons (fun Q hQ => by cases hQ; exact ⟨_, rfl, a⟩) ih
  refine paired_app (base p) ?_
  · generalize N.length - ps.length = n
    induction n with
    | zero => exact .nil
    | succ n ih => exact .cons (fun Q hQ => by cases hQ) ih
theorem nx_exM {α : Type} {R : α → MO} {f} (e : M[j]? = some (q, MX R)) (h : ∀ x, Nx E Γ (M.set j (q, R x)) f) : Nx E Γ M f := by
  rintro σ H ⟨F, a, b⟩
  obtain ⟨fq, u, hu, x, hx⟩ := a.at e
  refine h x σ H ⟨F, ?_, b⟩
  have g := a.mut (o' := u) (O' := R x) e hx
  have e2 : upd H q u = H := by
    funext z
    by_cases y : z = q
    · subst y; rw [upd_same, hu]
    · rw [upd_ne y]
  rw [e2] at g
  exact g
theorem nx_anM {φ : Prop} {R : MO} {f} (e : M[j]? = some (q, MA φ R)) (h : φ → Nx E Γ (M.set j (q, R)) f) : Nx E Γ M f := by
  rintro σ H ⟨F, a, b⟩
  obtain ⟨fq, u, hu, hx⟩ := a.at e
  exact h hx.1 σ H ⟨F, a.to (O := MA φ R) (O' := R) (fun _ _ z => z.2) e, b⟩
theorem Rt.to {f : VK} (h : Rt E M' P f) (e : M[j]? = some (q, O)) (l : ∀ F o, O.p F o → O'.p F o) (hM : M' = M.set j (q, O')) : Rt E M P f := fun v F H a p => h v F H (by rw [hM]; exact a.to l e) p
/-- xs.pop() -/
theorem ev_pop (ho : Ev ta Γ M (Own q) M) (e : M[j]? = some (q, ML ps)) (hp : ps[ps.length - 1]? = some P) : Ev (tBM0 K "list" rPop ta) Γ M P (M.set j (q, ML ps.dropLast)) := fun E F σ H a b Q k => ho E F σ H a b _ fun v F1 H1 e1 g1 p1 => by
  have p1 : v = .ref q := p1
  subst p1
  obtain ⟨_, o, ho1, ws, rfl, s⟩ := g1.at e
  obtain ⟨x, hx, px⟩ := paired_get s hp
  refine ⟨.inl ⟨rfl, ws, SqL.of ho1⟩, q, ws, x, rfl, rfl, ho1, by rw [paired_len s]; exact hx, ?_⟩
  have sd : ∀ {ws : List V} {ps : List MP}, Ps F1 ws ps → Ps F1 ws.dropLast ps.dropLast := by
    intro ws ps s
    induction s with
    | nil => exact .nil
    | cons a t ih =>
      cases t with
      | nil => exact .nil
      | cons a2 t2 => exact .cons a ih
  exact k x F1 _ e1 (g1.mut e ⟨_, rfl, sd s⟩) px
/-! ### instances -/
theorem Pt.junk (h : Pt E F M H) (hp : H q = none) : Pt E F M (upd H q o) := by
  have ne : ∀ {a u}, H a = some u → a ≠ q := fun e => ne_of_none e hp
  refine ⟨⟨h.gr.ex, fun a u h1 h2 => ?_, h.gr.off, fun a h1 => ?_, fun a h1 h2 => ?_⟩, ⟨h.wd.ex.trans (Evl.Ex.new hp), h.wd.nd, fun r hr => ?_⟩, h.fr⟩
  · have := h.gr.keep a u h1 h2
    rw [upd_ne (ne this)]; exact this
  · by_cases e : a = q
    · subst e; rw [upd_same]; exact fun z => by cases z
    · rw [upd_ne e]; exact h.gr.stay a h1
  · rw [upd_ne (fun e => h.gr.stay a h1 (by rw [e]; exact hp))]; exact h.gr.nott a h1 h2
  · obtain ⟨a, u, hu, b⟩ := h.wd.own r hr
    exact ⟨a, u, by rw [upd_ne (ne hu)]; exact hu, b⟩
/-! ### isinstance of data -/
/-! ### sorted -/
theorem map_ints (ns : List Int) : Ps F (ns.map V.int) (ns.map fun n => D K (.int n)) := by
  induction ns with
  | nil => exact .nil
  | cons n ns ih => exact .cons (.int n) ih
abbrev MInts (K : PySem.W.Frag) (ns : List Int) : MO := ML (ns.map fun n => D K (.int n))
/-! ### the draws -/
def MDr (K : PySem.W.Frag) : MO := MX fun ns : List Int => MA (ns.length ≤ 1000) (MInts K ns)
abbrev PIn (K : PySem.W.Frag) (lo hi : Int) : MP := PEx fun x : Int => PAn (lo ≤ x ∧ x < hi) (D K (.int x))
end
end Hq
namespace Hq
open PySem L2
section
variable {K : PySem.W.Frag} {E E' : Ent} {F F' H H' : Hp} {M M' Mc Mc' M1 M2 M3 : Ms} {Γ Γ' : Gm} {P P' P1 P2 : MP} {O O' : MO} {q : Addr} {σ : St} {o o' : HO} {j : Nat}
variable {te ta tb tc tl : TE} {t u : TT} {r : R2} {D1 : Ends} {tu tw : TS} {ps : List MP} {sp : Sp} {X : XK} {tr : TA} {C : Addr} {fps : List (Str × MP)}
theorem Prom.len {vs : List V} {Q : VK} (h : Prom ps M P M' vs H Q) : vs.length = ps.length := by obtain ⟨F, _, p, _⟩ := h; exact paired_len p
theorem rv_eqI {i k : Int} : RV rEq (D K (.int i)) (D K (.int k)) M (D K (.bool (decide (i = k)))) M := rv_val (z := .bl _) (fun _ => .bl _) fun F H x y p1 p2 _ Q q => by
  cases dp_int p1; cases dp_int p2
  refine ⟨rfl, ?_⟩
  have e : decide (V.int i = V.int k) = decide (i = k) := by simp
  rw [e]; exact q
theorem ev_neg {i : Int} (h : Ev ta Γ M (D K (.int i)) M1) : Ev (tUn (rU fun i => .int (-i)) ta) Γ M (D K (.int (-i))) M1 := fun E F σ H a b Q k => h E F σ H a b _ fun v F1 H1 e1 g1 p1 => by
  cases dp_int p1
  exact ⟨i, rfl, k _ F1 H1 e1 g1 (.int _)⟩
theorem call0 (h : EvA tr Γ M ps M1) (hs : ∀ vs H Q, Prom ps [] P [] vs H Q → sp vs H Q X) : Ev (tCall sp [] X tr) Γ M P M1 := ev_call0 h fun vs H Q z => by rw [List.append_nil]; exact hs vs H Q z
theorem call1 (h : EvA tr Γ M ps M1) (e : M1[j]? = some (q, O)) (hs : ∀ vs H Q, Prom ps [(q, O)] P [(q, O)] vs H Q → sp vs H Q X) : Ev (tCall sp [] X tr) Γ M P M1 := ev_call1 h e fun vs H Q z => by rw [List.append_nil]; exact hs vs H Q z
theorem EvA.in1 {R R' : MP} (l : R.le R') (h : EvA tr Γ M (R :: ps) M1) : EvA tr Γ M (R' :: ps) M1 := fun E F σ H a b Q k => h E F σ H a b Q fun vs F' H' e g p => k vs F' H' e g (by
  cases p with
  | cons z t => exact .cons (l _ _ z) t)
end
end Hq
namespace Hq
open PySem L2
section
variable {K : PySem.W.Frag} {E E' : Ent} {F F' H H' : Hp} {M M' Mc Mc' M1 M2 M3 : Ms} {Γ Γ' : Gm} {P P' P1 P2 : MP} {O O' : MO} {q : Addr} {σ : St} {o o' : HO} {j : Nat}
variable {te ta tb tc tl : TE} {t u : TT} {r : R2} {D1 : Ends} {tu tw : TS} {ps : List MP} {sp : Sp} {X : XK} {tr : TA} {C : Addr} {fps : List (Str × MP)}
variable {tz : TS}
theorem q_asg {i : Nat} (h : Ev te Γ M P M1) (k : Nx E (Γ.set i (some P)) M1 (tz D1)) : Nx E Γ M (tSeq (tAsg te (gName i)) tz D1) :=
  go_asg (D1 := { D1 with nx := tz D1 }) h k
theorem q_asgN {i : Nat} (h : EvN te Γ M O M1) (k : ∀ q, E.H q = none → Nx E (Γ.set i (some (Own q))) ((q, O) :: M1) (tz D1)) : Nx E Γ M (tSeq (tAsg te (gName i)) tz D1) :=
  go_asgN (D1 := { D1 with nx := tz D1 }) h k
theorem q_drop (h : Ev te Γ M P M1) (k : Nx E Γ M1 (tz D1)) : Nx E Γ M (tSeq (tDrop te) tz D1) :=
  go_drop (D1 := { D1 with nx := tz D1 }) h k
theorem q_if {B : Bool → Prop} (h : EvT t Γ M B M1) (h1 : B true → Nx E Γ M1 (tu { D1 with nx := tz D1 })) (h2 : B false → Nx E Γ M1 (tw { D1 with nx := tz D1 })) : Nx E Γ M (tSeq (tIfS t tu tw) tz D1) :=
  go_if (D1 := { D1 with nx := tz D1 }) h h1 h2
theorem q_app {ps : List MP} (ho : Ev ta Γ M (Own q) M) (h : Ev te Γ M P M1) (e0 : M[j]? = some (q, ML ps)) (e : M1[j]? = some (q, ML ps)) (hz : ps.length < 100000) (k : Nx E Γ (M1.set j (q, ML (ps ++ [P]))) (tz D1)) :
    Nx E Γ M (tSeq (tDrop (tBM K "list" rAppend ta (tCons te tNil))) tz D1) :=
  go_app (D1 := { D1 with nx := tz D1 }) ho h e0 e hz k
theorem q_rev {ps : List MP} (ho : Ev ta Γ M (Own q) M) (e : M[j]? = some (q, ML ps)) (k : Nx E Γ (M.set j (q, ML ps.reverse)) (tz D1)) : Nx E Γ M (tSeq (tDrop (tBM0 K "list" rReverse ta)) tz D1) :=
  go_rev (D1 := { D1 with nx := tz D1 }) ho e k
theorem q_forT {ps : List MP} {i : Nat} (h : Ev tl Γ M (PTu K ps) M1) (J : Nat → Gm → Ms → Prop) (h0 : J 0 Γ M1)
    (hs : ∀ E', Le E' E → ∀ n P, ps[n]? = some P → ∀ Γ' M', J n Γ' M' → Nx E' (Γ'.set i (some P)) M' (tu { D1 with nx := JA E' (J (n + 1)), ct := JA E' (J (n + 1)), bk := tz D1 }))
    (hd : ∀ Γ' M', J ps.length Γ' M' → Nx E Γ' M' (tz D1)) : Nx E Γ M (tSeq (tFor (iTup K tl) (gName i) tu) tz D1) :=
  go_forT (D1 := { D1 with nx := tz D1 }) h J h0 hs hd
theorem q_forR {tr : TA} {z : Int} {i : Nat} (h : EvA tr Γ M [D K (.int z)] M1) (hz : z ≤ 1000000) (hz2 : -1000000 ≤ z) (J : Nat → Gm → Ms → Prop) (h0 : J 0 Γ M1)
    (hs : ∀ n : Nat, (n : Int) < z → ∀ Γ' M', J n Γ' M' → Nx E (Γ'.set i (some (D K (.int n)))) M' (tu { D1 with nx := JA E (J (n + 1)), ct := JA E (J (n + 1)), bk := tz D1 }))
    (hd : ∀ Γ' M', J z.toNat Γ' M' → Nx E Γ' M' (tz D1)) : Nx E Γ M (tSeq (tFor (iRng1 tr) (gName i) tu) tz D1) :=
  go_forR (D1 := { D1 with nx := tz D1 }) h hz hz2 J h0 hs hd
theorem q_while (J : Nat → Gm → Ms → Prop) (m0 : Nat) (h0 : J m0 Γ M)
    (hs : ∀ m Γ' M', J m Γ' M' → ∃ B M1, EvT t Γ' M' B M1 ∧ (B true → Nx E Γ' M1 (tu { D1 with nx := JA E (fun Γ M => ∃ m', m' < m ∧ J m' Γ M), ct := JA E (fun Γ M => ∃ m', m' < m ∧ J m' Γ M), bk := tz D1 })) ∧ (B false → Nx E Γ' M1 (tz D1))) : Nx E Γ M (tSeq (tWhile t tu) tz D1) :=
  go_while (D1 := { D1 with nx := tz D1 }) J m0 h0 hs
/-- hands back an object of the caller's own -/
def RtN (E : Ent) (M : Ms) (O : MO) (f : VK) : Prop := ∀ q F H, E.H q = none → Pt E F ((q, O) :: M) H → f (.ref q) H
def PromN (ps : List MP) (M : Ms) (O : MO) (M' : Ms) (vs : List V) (H : Hp) (Q : VK) : Prop := ∃ F, Wd F M H ∧ Ps F vs ps ∧ RtN ⟨F, H, keys M⟩ M' O Q
theorem PromN.len {vs : List V} {Q : VK} (h : PromN ps M O M' vs H Q) : vs.length = ps.length := by obtain ⟨F, _, p, _⟩ := h; exact paired_len p
theorem Pt.frameN {ks : List Addr} (h : Pt E F M H) (hq : H q = none) (g : Pt ⟨F, H, ks⟩ F' ((q, O) :: Mc) H') (hk : ∀ a ∈ ks, a ∈ keys M) (hM : keys M' = keys M) (hr : ∀ r ∈ M', (r.1 ∉ ks ∧ r ∈ M) ∨ r ∈ Mc) : Pt E F' ((q, O) :: M') H' := by
  have nq : q ∉ keys M := fun z => by
    obtain ⟨r, hr, e⟩ := List.mem_map.mp z
    obtain ⟨_, u, hu, _⟩ := h.wd.own r hr
    rw [e, hq] at hu; cases hu
  refine h.back ⟨⟨g.gr.ex, fun a u h1 h2 => g.gr.keep a u (fun z => h1 (hk a z)) h2, g.gr.off, g.gr.stay, g.gr.nott⟩, ⟨g.wd.ex, List.nodup_cons.mpr ⟨by rw [show List.map _ M' = keys M from hM]; exact nq, by rw [show List.map _ M' = keys M from hM]; exact h.wd.nd⟩, fun r hm => ?_⟩, fun r hm => ?_⟩
  · rcases List.mem_cons.mp hm with z | hm
    · rw [z]; exact g.wd.own _ List.mem_cons_self
    · rcases hr r hm with ⟨n, hm2⟩ | hm2
      · obtain ⟨a, u, hu, b⟩ := h.wd.own r hm2
        exact ⟨g.gr.off _ a (show H r.1 ≠ none by rw [hu]; exact fun z => by cases z) (fun xs z => r.2.nt b xs (by have z : H r.1 = some (HO.tup xs) := z; rw [hu] at z; exact Option.some.inj z)), u, g.gr.keep _ _ n hu, r.2.mono g.gr.ex b⟩
      · exact g.wd.own r (List.mem_cons_of_mem _ hm2)
  · rcases List.mem_cons.mp hm with z | hm
    · rw [z]; exact .inr hq
    · refine .inl ?_
      show r.1 ∈ keys M
      rw [← hM]
      exact List.mem_map_of_mem (f := (·.1)) hm
theorem calln0 (h : EvA tr Γ M ps M1) (hs : ∀ vs H Q, PromN ps [] O [] vs H Q → sp vs H Q X) : EvN (tCall sp [] X tr) Γ M O M1 := fun E F σ H a b Q k =>
  h E F σ H a b _ fun vs F1 H1 e1 a1 p1 => by
    show sp (vs ++ []) H1 Q X
    rw [List.append_nil]
    exact hs vs H1 Q ⟨F1, ⟨a1.ex, List.nodup_nil, fun r hr => by cases hr⟩, p1, fun q F' H' hq g => k q F' H' (a1.fresh hq) (e1.trans g.gr.ex) (a1.frameN hq g (fun _ z => by cases z) rfl fun r hr => .inl ⟨by simp [keys], hr⟩)⟩
theorem go_retO {E0 : Ent} (l : Le E E0) (h : Ev te Γ M (Own q) M1) (hq : E0.H q = none) (hM : M1 = (q, O) :: M2) (k : RtN E0 M2 O D1.rt) : Nx E Γ M (tRet te D1) := fun σ H ⟨F, a, b⟩ => h E F σ H a b _ fun v F' H' e g p => by
  have p : v = .ref q := p
  subst p
  subst hM
  exact k q F' H' hq (l.to _ _ _ g)
theorem RtN.to {f : VK} (h : RtN E M O' f) (l : ∀ F o, O.p F o → O'.p F o) : RtN E M O f := fun q F H hq a => h q F H hq (a.to (j := 0) (O' := O') l rfl)
theorem RtN.drop {f : VK} (h : RtN E M O f) (s : List.Sublist M M') : RtN E M' O f := fun q F H hq a => h q F H hq (a.drop (s.cons₂ _))
theorem go_cut (J : Gm → Ms → Prop) (h1 : Nx E Γ M (tu { D1 with nx := JA E J })) (h2 : ∀ Γ' M', J Γ' M' → Nx E Γ' M' (tw D1)) : Nx E Γ M (Evl.tCut tu tw D1) := fun σ H a =>
  ⟨JA E J, h1 σ H a, fun σ' H' ⟨Γ', M', hJ, a'⟩ => h2 Γ' M' hJ σ' H' a'⟩
end
end Hq
namespace Hq
open PySem L2
section
variable {K : PySem.W.Frag} {E E' : Ent} {F F' H H' : Hp} {M M' Mc Mc' M1 M2 M3 : Ms} {Γ Γ' : Gm} {P P' P1 P2 : MP} {O O' : MO} {q : Addr} {σ : St} {o o' : HO} {j : Nat}
variable {te ta tb tc tl : TE} {t u : TT} {r : R2} {D1 : Ends} {tu tw tz : TS} {ps : List MP} {sp : Sp} {X : XK} {tr : TA} {C : Addr} {fps : List (Str × MP)}
theorem q_forRX {i : Nat} {φ : Int → Prop} (h : Ev te Γ M (PEx fun z : Int => PAn (φ z) (D K (.int z))) M1) (k : ∀ z, φ z → ∀ tr', EvA tr' Γ M1 [D K (.int z)] M1 → Nx E Γ M1 (tSeq (tFor (iRng1 tr') (gName i) tu) tz D1)) : Nx E Γ M (tSeq (tFor (iRng1 (tCons te tNil)) (gName i) tu) tz D1) := fun σ H ⟨F, a, b⟩ => h E F σ H a b _ fun v F1 H1 e1 g1 ⟨z, hz, p1⟩ => by
  cases dp_int p1
  exact k z hz (tCons (tC (.int z)) tNil) (ea_cons ev_int ea_nil) σ H1 ⟨F1, g1, b.mono e1⟩
/-! rules with the written part named -/
variable {Y : Cx}
abbrev rLn (K : PySem.W.Frag) : List V → Hp → VK → Prop := fun xs H Q => ∃ p ys, xs = [.ref p] ∧ (SqL K H p ys ∨ SqT K H p ys) ∧ Q (.int ys.length) H
theorem c_len (e : Y.K = K) : CallR Y (.builtin "len") (rLn K) := e ▸ call_len_seq
theorem c_list (e : Y.K = K) : CallR Y (.type "list") (rList K) := e ▸ call_list_of
theorem c_ix (e : Y.K = K) : IxR Y (rIx K) := e ▸ ix_seq
theorem c_in (e : Y.K = K) : OpR Y (compareOp .In) (rIn K false) := e ▸ op_in_seq
theorem c_eq (e : Y.K = K) (hu : Y.A.units + 64 < cLine) : OpR Y (compareOp .Eq) (rEqD K) := e ▸ op_eqD hu
end
end Hq
namespace Hq
open PySem L2
/-- a way to write values of a type as data, faithfully -/
structure Enc {α : Type} [DecidableEq α] (f : α → PyData) (n : Nat) : Prop where
  eq : ∀ x y, PyData.eqv (f x) (f y) = decide (x = y)
  lay : ∀ x, PyData.canLay0 (f x) = true
  deep : ∀ x, PyData.depth (f x) ≤ n
theorem Enc.shaped {α : Type} [DecidableEq α] {f : α → PyData} {n : Nat} (e : Enc f n) (h : n ≤ 64) (x : α) : SeqAt.shaped (f x) = true := by
  unfold SeqAt.shaped
  rw [e.lay x, Bool.true_and]
  exact decide_eq_true (Nat.le_trans (e.deep x) h)
theorem enc_int : Enc PyData.int 1 := ⟨fun x y => by
    show (x == y) = decide (x = y)
    rw [Bool.eq_iff_iff]; simp, fun _ => rfl, fun _ => by show PyData.depth (.int _) ≤ 1; simp [PyData.depth]⟩
/-! ### a list or a tuple -/
/-! ### a, b = e -/
section
variable {K : PySem.W.Frag} {E : Ent} {M M1 : Ms} {Γ : Gm} {D1 : Ends} {tz : TS} {te : TE} {i j : Nat}
theorem q_unp2 {α : Type} {φ : α → Prop} {R1 R2 : α → MP} (h : Ev te Γ M (PEx fun x => PAn (φ x) (PTu K [R1 x, R2 x])) M1) (k : ∀ x, φ x → Nx E ((Γ.set i (some (R1 x))).set j (some (R2 x))) M1 (tz D1)) :
    Nx E Γ M (tSeq (tAsg te (gTup K 2 (gCons (gName i) (gCons (gName j) gNil)))) tz D1) := fun σ H ⟨F, a, b⟩ => h E F σ H a b _ fun v F1 H1 e1 g1 ⟨x, hx, p, vs, ev, s, q⟩ => by
  obtain ⟨y, z, rfl, hy, hz⟩ := ps2 q
  exact ⟨p, [y, z], ev, Evl.ex_t g1.ex s, rfl, y, [z], rfl, z, [], rfl, rfl, k x hx _ _ ⟨F1, g1, ((b.mono e1).set i hy).set j hz⟩⟩
end
end Hq
namespace Hq
open PySem L2
theorem pi_tupK {Y : Cx} {K : PySem.W.Frag} {tg l : PySem.Expr} {tl : TE} (e : Y.K = K) (hl : PE Y l tl) : PI Y tg l (iTup K tl) := e ▸ pi_tup hl
end Hq
namespace Hq
open PySem L2
/-! ### xs.index(y, lo): an item of a list of ints from a place on -/
section
variable {K : PySem.W.Frag} {E : Ent} {M M1 M2 : Ms} {Γ : Gm} {P : MP} {O : MO} {q : Addr} {j : Nat} {te ta tb ta2 tb2 tl : TE} {tr : TA} {D1 : Ends} {tz : TS}
/-! ### xs[i] += e -/
theorem c_fld {Y : Cx} {e : PySem.Expr} {f : Str} {pos : Pos} (e2 : Y.K = K) (he : PE Y e ta) (hb : attributeBase e f Y.env (eval e Y.env) = eval e Y.env) : PE Y (.Attribute e f pos) (tFld K ta f) := e2 ▸ pe_fld he hb
/-! ### xs[i], xs[i2] = x, y -/
/-! ### t[lo:hi] -/
def EvP (to : TO) (Γ : Gm) (M : Ms) (o : Option Int) : Prop := ∀ E F σ H, Pt E F M H → EnvOk F σ Γ → ∀ Q : Option Int → Hp → Prop, (∀ F' H', Ex F F' → Pt E F' M H' → Q o H') → to σ H Q
theorem ep_none : EvP tNoPart Γ M none := fun E F σ H a b Q k => k F H (Evl.Ex.refl _) a
theorem ep_some {i : Int} (h : Ev te Γ M (D K (.int i)) M) : EvP (tPart te) Γ M (some i) := fun E F σ H a b Q k => h E F σ H a b _ fun v F1 H1 e1 g1 p1 => by
  cases dp_int p1
  exact ⟨i, rfl, k _ _ e1 g1⟩
/-! ### x is None -/
end
end Hq
namespace Hq
open PySem L2
section
variable {K : PySem.W.Frag} {E : Ent} {M M1 M2 : Ms} {Γ : Gm} {P : MP} {O : MO} {q : Addr} {j : Nat} {te ta tb ta2 tb2 tl : TE} {tr : TA} {D1 : Ends} {tz : TS} {t u : TT}
/-! ### l.index(x), nested data -/
/-! ### max of two, int of a truth value -/
theorem rc_intB {b : Bool} : RC rInt [D K (.bool b)] M (D K (.int (if b then 1 else 0))) M := fun E F H vs g h Q k => by
  obtain ⟨x, rfl, h1⟩ := ps1 h
  cases dp_bl h1
  exact .inr ⟨b, rfl, k _ F H (Evl.Ex.refl _) g (.int _)⟩
end
end Hq
namespace Hq
open PySem L2
/-! ### {t: e} with a tuple as key -/
/-! ### tuples made here; a dict with them as keys -/
end Hq
namespace Hq
open PySem L2
/-! ### sorted(xs) of tuples of ints, none of them empty -/
end Hq
namespace Hq
open PySem L2
end Hq
namespace Hq
open PySem L2
section
variable {K : PySem.W.Frag} {E : Ent} {F H : Hp} {M M1 M2 : Ms} {Γ : Gm} {P : MP} {O : MO} {q : Addr} {j : Nat} {te ta tb tk tv td : TE} {tr : TA} {D1 : Ends} {tz : TS} {t u : TT} {l a b : List Int} {L : List (List Int)} {ps : List MP}
theorem MP.of_eq {P P' : MP} (h : P = P') : P.le P' := fun _ _ p => h ▸ p
end
end Hq
namespace Hq
open PySem PySem.Spec PyProof.Rows L2
/-! ### enumerate(t), a tuple -/
end Hq
namespace Hq
open PySem L2
section
variable {K : PySem.W.Frag} {E : Ent} {F H : Hp} {M M1 M2 : Ms} {Γ : Gm} {P : MP} {O : MO} {q : Addr} {te ta tb tl tk : TE} {tr : TA} {D1 : Ends} {tu tz : TS} {t u : TT} {ps : List MP} {i j : Nat}
theorem pg_tupK {X : Cx} {es : List PySem.Expr} {k : Nat} {t : TGs} {n : Nat} {pos : Pos} (eK : X.K = K) (hc : X.calm = true) (h : PGs X es t)
    (hn : (assignEach es X.env).length = n := by rfl) (hst : (assignEach es X.env).findIdx? (·.1) = none := by rfl) : PG X (.Tuple es k pos) (gTup K n t) := eK ▸ pg_tup hc h hn hst
/-! the walks, told over what stands -/
variable {α : Type} {xs : List α} {R : α → MP}
end
end Hq
namespace Hq
open PySem L2
/-! ### min(xs) of tuples of ints: where the first is a least one -/
section
variable {K : PySem.W.Frag} {E : Ent} {F H : Hp} {M M1 M2 : Ms} {Γ : Gm} {P : MP} {O : MO} {q : Addr} {te ta tb tl tl1 : TE} {tr : TA} {D1 : Ends} {tu tz : TS} {t t0 u : TT} {ps : List MP} {i j : Nat}
/-! ### a comprehension with two generators -/
theorem ev_str {x : Str} : Ev (tC (.str x)) Γ M (D K (.str x)) M := ev_cv fun _ => .str x
end
end Hq
/-! HqSc: the bits of a number by its text. -/
namespace Hq
open PySem PySem.Spec PyProof.Rows L2
end Hq
/-! HqSd: bits_of: the bits that are set in a number, in their order. -/
namespace Hq
open PySem PySem.Spec L2
end Hq
namespace Hq
open PySem L2
end Hq
namespace Hq
open PySem L2
end Hq
namespace Hq
open PySem L2
end Hq
namespace Hq
open PySem L2
/-! ### objects with all their fields known, and their methods -/
def FieldsOk (F : Hp) (fs : List (Str × V)) (fps : List (Str × MP)) : Prop := Paired (fun (x : Str × V) (g : Str × MP) => x.1 = g.1 ∧ g.2.p F x.2) fs fps
def MOb (C : Addr) (fps : List (Str × MP)) : MO := ⟨fun F o => ∃ dx fs, o = .ins C dx fs ∧ FieldsOk F fs fps, fun e ⟨dx, fs, h, p⟩ => ⟨dx, fs, h, Paired.mapP p fun _ g q => ⟨q.1, g.2.mono e q.2⟩⟩, fun ⟨dx, fs, h, _⟩ xs z => by rw [h] at z; cases z⟩
section
variable {K : PySem.W.Frag} {E : Ent} {F H : Hp} {M M1 M2 : Ms} {Γ : Gm} {P P' P1 : MP} {O O' : MO} {q C : Addr} {te ta tb tl tk : TE} {tr : TA} {D1 : Ends} {tu tz : TS} {ps qs : List MP} {i j v : Nat} {fps : List (Str × MP)} {f m : Str} {sp : Sp} {X : XK}
theorem fo_look : ∀ {fs : List (Str × V)} {fps : List (Str × MP)} {i : Nat}, FieldsOk F fs fps → fps[i]? = some (f, P) → (∀ g ∈ fps.take i, g.1 ≠ f) → ∃ x, fs.lookup f = some x ∧ P.p F x
  | _, _, _, .nil, h, _ => by simp at h
  | (n, x) :: fs, g :: fps, 0, .cons a _, h, _ => by
    have h : g = (f, P) := by simpa using h
    subst h
    have e : n = f := a.1
    subst e
    exact ⟨x, by simp [List.lookup], a.2⟩
  | (n, x) :: fs, g :: fps, i + 1, .cons a t, h, hn => by
    obtain ⟨y, hy, py⟩ := fo_look (i := i) t h fun g' hg => hn g' (by rw [List.take_succ_cons]; exact List.mem_cons_of_mem _ hg)
    have ne : g.1 ≠ f := hn g (by rw [List.take_succ_cons]; exact List.mem_cons_self)
    have e : n = g.1 := a.1
    refine ⟨y, ?_, py⟩
    have : (f == n) = false := by rw [beq_eq_false_iff_ne]; rw [e]; exact fun z => ne z.symm
    simp only [List.lookup, this]
    exact hy
theorem fo_none : ∀ {fs : List (Str × V)} {fps : List (Str × MP)}, FieldsOk F fs fps → (∀ g ∈ fps, g.1 ≠ f) → fs.lookup f = none
  | _, _, .nil, _ => rfl
  | (n, x) :: fs, g :: fps, .cons a t, hn => by
    have ne : g.1 ≠ f := hn g List.mem_cons_self
    have e : n = g.1 := a.1
    have : (f == n) = false := by rw [beq_eq_false_iff_ne]; rw [e]; exact fun z => ne z.symm
    simp only [List.lookup, this]
    exact fo_none t fun g' hg => hn g' (List.mem_cons_of_mem _ hg)
theorem fo_new {x : V} : ∀ {fs : List (Str × V)} {fps : List (Str × MP)}, FieldsOk F fs fps → (∀ g ∈ fps, g.1 ≠ f) → P.p F x → FieldsOk F (putF f x fs) (fps ++ [(f, P)])
  | _, _, .nil, _, h => .cons ⟨rfl, h⟩ .nil
  | (n, y) :: fs, g :: fps, .cons a t, hn, h => by
    have ne : g.1 ≠ f := hn g List.mem_cons_self
    have e : n = g.1 := a.1
    unfold putF
    rw [if_neg (by rw [e]; exact ne)]
    exact .cons a (fo_new t (fun g' hg => hn g' (List.mem_cons_of_mem _ hg)) h)
theorem fo_set {x : V} : ∀ {fs : List (Str × V)} {fps : List (Str × MP)} {i : Nat}, FieldsOk F fs fps → fps[i]? = some (f, P) → (∀ g ∈ fps.take i, g.1 ≠ f) → P'.p F x → FieldsOk F (putF f x fs) (fps.set i (f, P'))
  | _, _, _, .nil, h, _, _ => by simp at h
  | (n, y) :: fs, g :: fps, 0, .cons a t, h, _, hp => by
    have h : g = (f, P) := by simpa using h
    subst h
    have e : n = f := a.1
    unfold putF
    rw [if_pos e]
    exact .cons ⟨a.1, hp⟩ t
  | (n, y) :: fs, g :: fps, i + 1, .cons a t, h, hn, hp => by
    have ne : g.1 ≠ f := hn g (by rw [List.take_succ_cons]; exact List.mem_cons_self)
    have e : n = g.1 := a.1
    unfold putF
    rw [if_neg (by rw [e]; exact ne)]
    exact .cons a (fo_set (i := i) t h (fun g' hg => hn g' (by rw [List.take_succ_cons]; exact List.mem_cons_of_mem _ hg)) hp)
/-- self.f, of an own object -/
theorem ev_fldO (ho : Ev ta Γ M (Own q) M1) (e : M1[j]? = some (q, MOb C fps)) (i : Nat) (hi : fps[i]? = some (f, P)) (hn : ∀ g ∈ fps.take i, g.1 ≠ f) (hc : Cls K C) (ha : NoAttr K C f) : Ev (tFld K ta f) Γ M P M1 := fun E F σ H a b Q k => ho E F σ H a b _ fun v F1 H1 e1 g1 p1 => by
  have p1 : v = .ref q := p1
  subst p1
  obtain ⟨_, o, ho2, dx, fs, rfl, h⟩ := g1.at e
  obtain ⟨x, hx, px⟩ := fo_look h hi hn
  exact ⟨q, C, dx, fs, x, rfl, ho2, hc, ha, hx, k x F1 H1 e1 g1 px⟩
theorem fo_len {fs : List (Str × V)} (h : FieldsOk F fs fps) : fs.length = fps.length := paired_len h
/-- self.f = e, a new field -/
theorem go_fldN (hv : Ev tb Γ M P M1) (ho : Ev ta Γ M1 (Own q) M1) (e : M1[j]? = some (q, MOb C fps)) (hz : fps.length < 99) (hf : ∀ g ∈ fps, g.1 ≠ f) (hc : Cls K C) (hn : NoAttr K C f) (k : Nx E Γ (M1.set j (q, MOb C (fps ++ [(f, P)]))) D1.nx) :
    Nx E Γ M (sFld K ta tb f D1) := fun σ H ⟨F, a, b⟩ => hv E F σ H a b _ fun y F1 H1 e1 g1 p1 => ho E F1 σ H1 g1 (b.mono e1) _ fun v F2 H2 e2 g2 p2 => by
  have p2 : v = .ref q := p2
  subst p2
  obtain ⟨_, o, ho1, dx, fs, rfl, h3⟩ := g2.at e
  have := fo_len h3
  exact ⟨q, C, dx, fs, rfl, ho1, hc, hn, by omega, k _ _ ⟨F2, g2.mut e ⟨dx, _, rfl, fo_new h3 hf (P.mono e2 p1)⟩, b.mono (e1.trans e2)⟩⟩
theorem q_fldN (hv : Ev tb Γ M P M1) (ho : Ev ta Γ M1 (Own q) M1) (e : M1[j]? = some (q, MOb C fps)) (hz : fps.length < 99) (hf : ∀ g ∈ fps, g.1 ≠ f) (hc : Cls K C) (hn : NoAttr K C f) (k : Nx E Γ (M1.set j (q, MOb C (fps ++ [(f, P)]))) (tz D1)) :
    Nx E Γ M (tSeq (sFld K ta tb f) tz D1) := go_fldN (D1 := { D1 with nx := tz D1 }) hv ho e hz hf hc hn k
/-- self.f = e, the field is there -/
theorem go_fldU (hv : Ev tb Γ M P' M1) (ho : Ev ta Γ M1 (Own q) M1) (e : M1[j]? = some (q, MOb C fps)) (hz : fps.length < 99) (i : Nat) (hi : fps[i]? = some (f, P)) (hf : ∀ g ∈ fps.take i, g.1 ≠ f) (hc : Cls K C) (hn : NoAttr K C f) (k : Nx E Γ (M1.set j (q, MOb C (fps.set i (f, P')))) D1.nx) :
    Nx E Γ M (sFld K ta tb f D1) := fun σ H ⟨F, a, b⟩ => hv E F σ H a b _ fun y F1 H1 e1 g1 p1 => ho E F1 σ H1 g1 (b.mono e1) _ fun v F2 H2 e2 g2 p2 => by
  have p2 : v = .ref q := p2
  subst p2
  obtain ⟨_, o, ho1, dx, fs, rfl, h3⟩ := g2.at e
  have := fo_len h3
  exact ⟨q, C, dx, fs, rfl, ho1, hc, hn, by omega, k _ _ ⟨F2, g2.mut e ⟨dx, _, rfl, fo_set h3 hi hf (P'.mono e2 p1)⟩, b.mono (e1.trans e2)⟩⟩
theorem q_fldU (hv : Ev tb Γ M P' M1) (ho : Ev ta Γ M1 (Own q) M1) (e : M1[j]? = some (q, MOb C fps)) (hz : fps.length < 99) (i : Nat) (hi : fps[i]? = some (f, P)) (hf : ∀ g ∈ fps.take i, g.1 ≠ f) (hc : Cls K C) (hn : NoAttr K C f) (k : Nx E Γ (M1.set j (q, MOb C (fps.set i (f, P')))) (tz D1)) :
    Nx E Γ M (tSeq (sFld K ta tb f) tz D1) := go_fldU (D1 := { D1 with nx := tz D1 }) hv ho e hz i hi hf hc hn k
/-- C(..) -/
theorem make0' (h : EvA tr Γ M ps M1) (hs : ∀ x vs H Q, Prom (Own x :: ps) [(x, MOb C [])] (D K .none) [(x, O)] vs H Q → sp vs H Q X) : EvN (tMake C sp [] X tr) Γ M O M1 := fun E F σ H a b Q k =>
  h E F σ H a b _ fun vs F1 H1 e1 a1 p1 => fun x dx hx hdx hne => by
    have hx2 : upd H1 dx (.own x) x = none := by rw [upd_ne hne.symm]; exact hx
    have g2 : Pt E F1 ((x, MOb C []) :: M1) (upd (upd H1 dx (.own x)) x (.ins C dx [])) := (a1.junk hdx).new hx2 ⟨dx, [], rfl, .nil⟩
    show sp (V.ref x :: (vs ++ [])) _ _ X
    rw [List.append_nil]
    refine hs x (.ref x :: vs) _ _ ⟨F1, ⟨g2.ex, by simp [keys], fun r hr => ?_⟩, .cons rfl p1, fun v F' H' g hv => ⟨dp_non hv, ?_⟩⟩
    · rw [List.mem_singleton.mp hr]; exact g2.wd.own _ List.mem_cons_self
    · refine k x F' H' (a1.fresh hx) (e1.trans g.gr.ex) (g2.frame g (fun z hz => ?_) rfl fun r hr => ?_)
      · rw [List.mem_singleton.mp hz]; exact List.mem_cons_self
      · rcases List.mem_cons.mp hr with z | z
        · rw [z]; exact .inr List.mem_cons_self
        · exact .inl ⟨fun w => (List.nodup_cons.mp (show (x :: keys M1).Nodup from g2.wd.nd)).1 (by rw [show x = r.1 from (List.mem_singleton.mp w).symm]; exact List.mem_map_of_mem (f := (·.1)) z), List.mem_cons_of_mem _ z⟩
/-- o.m(..), o an own object -/
theorem ev_methO (ho : Ev ta Γ M (Own q) M) (e0 : M[j]? = some (q, MOb C fps)) (hn : ∀ g ∈ fps, g.1 ≠ m) (h : EvA tr Γ M ps M) (hs : ∀ vs H Q, Prom (Own q :: ps) [(q, MOb C fps)] P [(q, O')] vs H Q → sp vs H Q X) : Ev (tMeth C m sp [] X ta tr) Γ M P (M.set j (q, O')) := fun E F σ H a b Q k => ho E F σ H a b _ fun v F1 H1 e1 g1 p1 => by
  have p1 : v = .ref q := p1
  subst p1
  obtain ⟨_, o, ho1, dx, fs, rfl, h3⟩ := g1.at e0
  refine ⟨q, dx, fs, rfl, ho1, fo_none h3 hn, ?_⟩
  refine h E F1 σ H1 g1 (b.mono e1) _ fun vs F2 H2 e2 g2 p2 => ?_
  have r := rc_prom1 (ps := Own q :: ps) (O' := O') (P := P) (sp := sp) (X := X) (dvs := []) e0 (fun vs H Q z => by rw [List.append_nil]; exact hs vs H Q z)
  have r2 := r E F2 H2 (V.ref q :: vs) g2 (.cons rfl p2) Q fun v F' H' e g p => k v F' H' ((e1.trans e2).trans e) g p
  exact r2
end
/-! zip -/
end Hq
namespace Hq
open PySem L2
/-! ### a comprehension with two generators, the inner list by the outer item; comprehensions over zip -/
/-! a dict by a comprehension, kept under a name -/
end Hq
set_option maxHeartbeats 4000000
namespace Hq
open PySem PySem.Spec PyProof.Rows L2
/-! ### tuple * int, any -/
/-! ### a, b = a list of that length -/
end Hq
namespace Hq
open PySem L2
end Hq
namespace Hq
open PySem L2
def MAny : MO := ⟨fun _ o => ∀ xs, o ≠ .tup xs, fun _ h => h, fun h => h⟩
/-- what is wanted if an exception of the class at C leaves -/
def RtE (E : Ent) (M : Ms) (C : Addr) (X : XK) : Prop := ∀ F H, Pt E F M H → X (.ref C) none H
section
variable {K : PySem.W.Frag} {E E0 : Ent} {F H : Hp} {M M1 M2 M' : Ms} {Γ : Gm} {P P1 : MP} {O O' : MO} {q : Addr} {te ta tb tl tk : TE} {tr : TA} {D1 : Ends} {tu tz : TS} {t u : TT} {ps : List MP} {i j : Nat} {C Cx : Addr} {X : XK} {sp : Sp}
theorem RtE.drop (s : List.Sublist M M') (h : RtE E M C X) : RtE E M' C X := fun F H a => h F H (a.drop s)
theorem RtE.le (l : Le E E0) (h : RtE E0 M C X) : RtE E M C X := fun F H a => h F H (l.to _ _ _ a)
theorem RtE.any (h : RtE E [(q, MAny)] C X) (e : M[j]? = some (q, O)) : RtE E M C X := fun F H a => by
  have s : List.Sublist [(q, O)] M := List.singleton_sublist.mpr (List.mem_of_getElem? e)
  exact h F H ((a.drop s).to (j := 0) (O' := MAny) (fun _ _ h => O.nt h) rfl)
theorem exm_self {S : Addr} (h1 : PySem.W.subIn K (.ref S) (.type "BaseException") = some true) (h2 : PySem.W.isClsIn K S = true) (h3 : PySem.W.typeIn K (.ref S) = some (.type "type")) (h4 : PySem.W.subIn K (.ref S) (.ref S) = some true) :
    PySem.W.exmOne K (.ref S) (.ref S) = some true := by
  have e1 : (PySem.W.subIn K (.ref S) (.type "BaseException") == some true) = true := by rw [h1] <;> rfl
  have e2 : ((PySem.W.clsIn K S).isSome && PySem.W.typeIn K (.ref S) == some (.type "type")) = true := by
    have h2' : (PySem.W.clsIn K S).isSome = true := h2
    rw [h2', h3] <;> rfl
  show (if (PySem.W.subIn K (.ref S) (.type "BaseException") == some true) = true then (if ((PySem.W.clsIn K S).isSome && PySem.W.typeIn K (.ref S) == some (.type "type")) = true then PySem.W.subIn K (.ref S) (.ref S) else none) else none) = some true
  rw [if_pos e1, if_pos e2]
  exact h4
end
end Hq
namespace Hq
open PySem L2
end Hq
namespace Hq
open PySem L2
end Hq
namespace Hq
open PySem L2
end Hq
namespace L2
open PySem PySem.Spec PyProof.Rows
end L2
namespace Hq
open PySem L2
end Hq
namespace Hq
open PySem L2
end Hq
namespace L2
open PySem PySem.Spec PyProof.Rows
end L2
namespace L2
open PySem PySem.Spec PyProof.Rows
end L2
namespace Hq
open PySem L2
end Hq
namespace Hq
open PySem L2
end Hq
namespace L2
open PySem PySem.Spec PyProof.Rows
end L2
namespace Hq
open PySem L2
end Hq
/-! ### zip of a list and a tuple -/
namespace HqA
open PySem PySem.Spec PyProof.Rows L2
theorem sep {I a b : Addr} (ha : a < I) (hb : b < I) : ZipSep2 (I + 4) (I + 2) (I + 3) I (I + 1) [I, a] [I + 1, b] := by
  have ha : @LT.lt Nat _ a I := ha
  have hb : @LT.lt Nat _ b I := hb
  constructor <;> first
    | exact List.mem_cons_self
    | (intro e; have e : ((_ : Nat) = _) := e; omega)
    | (intro h
       rcases List.mem_cons.mp h with e | h
       · have e : ((_ : Nat) = _) := e
         omega
       · have e : ((_ : Nat) = _) := List.mem_singleton.mp h
         omega)
end HqA
namespace Hq
open PySem L2 HqA
end Hq
/-! ### dicts with tuple keys, values of any kind -/
namespace Hq
open PySem L2
end Hq
/-! ### dicts whose keys are tuples of ints and tuples, nested -/
namespace L2
open PySem PySem.Spec PyProof.Rows
mutual
/-- the value is such a key -/
inductive NV (H : Hp) : V → NestedKey → Prop
  | int (i : Int) : NV H (.int i) (.num i)
  | bl (b : Bool) : NV H (.bl b) (.num (if b = true then 1 else 0))
  | non : NV H .non .none
  | tup {b : Addr} {vs : List V} {ks : List NestedKey} : H b = some (.tup vs) → NVs H vs ks → NV H (.ref b) (.tup ks)
inductive NVs (H : Hp) : List V → List NestedKey → Prop
  | nil : NVs H [] []
  | cons {v : V} {k : NestedKey} {vs : List V} {ks : List NestedKey} : NV H v k → NVs H vs ks → NVs H (v :: vs) (k :: ks)
end
mutual
theorem NV.mono {H H' : Hp} (e : ∀ b xs, H b = some (.tup xs) → H' b = some (.tup xs)) : ∀ (k : NestedKey) (v : V), NV H v k → NV H' v k
  | .none, _, h => by cases h; exact .non
  | .num i, _, h => by
    cases h with
    | int => exact .int i
    | bl b => exact .bl b
  | .text _, _, h => by cases h
  | .tup ks, _, h => by
    cases h with
    | tup h1 h2 => exact .tup (e _ _ h1) (NVs.mono e ks _ h2)
theorem NVs.mono {H H' : Hp} (e : ∀ b xs, H b = some (.tup xs) → H' b = some (.tup xs)) : ∀ (ks : List NestedKey) (vs : List V), NVs H vs ks → NVs H' vs ks
  | [], _, h => by cases h; exact .nil
  | k :: ks, _, h => by
    cases h with
    | cons h1 h2 => exact .cons (NV.mono e k _ h1) (NVs.mono e ks _ h2)
end
section
variable {P : Program} {w : World} {H : Hp} {h : Heap}
mutual
theorem NV.is (ok : HOk P w H h) : ∀ (k : NestedKey) (v : V) (u : Value), NV H v k → RelV v u → NestedIs h k u
  | .none, _, u, n, r => by
    cases n
    have r : u = Value.none := r
    subst r; exact .none
  | .num i, _, u, n, r => by
    cases n with
    | int => obtain ⟨t, rfl⟩ := (show ∃ t, u = Value.int i t from r); exact .int i t
    | bl b => have r : u = Value.bool b := r; subst r; exact .bool rfl
  | .text _, _, _, n, _ => by cases n
  | .tup ks, _, u, n, r => by
    cases n with
    | @tup b vs _ h1 h2 =>
      have r : u = Value.ref b := r
      subst r
      obtain ⟨_, its, r2, o, e1, e2, m, e3⟩ := (show ObjOk P w H h b (.tup vs) from ok b _ h1)
      exact .tup e1 e2 e3 (by simpa using NVs.is ok ks vs its h2 r2)
theorem NVs.is (ok : HOk P w H h) : ∀ (ks : List NestedKey) (vs : List V) (us : List Value), NVs H vs ks → Vals vs us → NestedAll h ks us
  | [], _, us, n, r => by cases n; cases r; exact .nil
  | k :: ks, _, us, n, r => by
    cases n with
    | cons n1 n2 =>
      cases r with
      | cons r1 r2 => exact .cons (NV.is ok k _ _ n1 r1) (NVs.is ok ks _ _ n2 r2)
end
end
/-! the terms -/
end L2
namespace Hq
open PySem L2
end Hq
/-! ### sorted lists of lists; try .. except X as e; an object against an int; C(.., an own list) -/
namespace Hq
open PySem L2
end Hq
namespace L2
open PySem PySem.Spec PyProof.Rows
section
variable {X : Cx}
theorem passes_callL {W : WX} {E : XK} {n : Nat} (hn : X.N.length = n) (tk : Takes X W) (hW : ∀ cls d σ H, σ.length = n → E cls d H → W cls d σ H) : ∀ (pins : List (Addr × Obj)) (σ : St) (H : Hp) (s : Shared) (e : Value) (s' : Shared), Inv X pins σ H s → CX X.prog X.w X.stack H s E e s' → X.xe e s' :=
  fun _ σ _ _ e s' I c => tk e s' (XE.of_call I (fun cls d H' h => hW cls d σ H' (by rw [← hn]; exact I.len) h) c)
end
end L2
namespace L2
open PySem PySem.Spec PyProof.Rows
end L2
namespace Hq
open PySem L2
end Hq
namespace L2
open PySem PySem.Spec PyProof.Rows
end L2
namespace L2
open PySem PySem.Spec PyProof.Rows
end L2
namespace Hq
open PySem L2
end Hq
namespace Hq
open PySem
end Hq
/-! ### dicts of ints to ints, list(range(..)), unpacking three, isinstance of an own object -/
namespace Hq
open PySem L2
end Hq
namespace Hq
open PySem L2
end Hq
/-! ### own lists of own lists: read by a call and owned after it -/
namespace Hq
open PySem L2
end Hq
/-! ### tuple(range(n)) -/
namespace Hq
open PySem L2
end Hq
/-! ### searches: dicts with tuple keys and values of any kind read by d[t], t not in d; tuple(reversed(xs)) -/
namespace Hq
open PySem L2 RT
end Hq
/-! ### all([..]), min of two, xs.extend(ys), for a, b in zip of lists, return f(..) that raises -/
namespace Hq
open PySem L2
end Hq
namespace Hq
open PySem L2
/-! cells and made functions: tracked while a call runs to which the functions are handed -/
/-- the object at a is just o -/
def PinO (a : Addr) (o : Obj) : HO := .ext fun h => h.get? a = some o
abbrev Pins := List (Addr × Obj)
section
variable {C : Pins} {H H' F F' : Hp} {a c : Addr} {o : Obj} {E : Ent} {M M' B : Ms}
theorem look_of_mem (nd : (C.map (·.1)).Nodup) {p : Addr × Obj} (h : p ∈ C) : C.lookup p.1 = some p.2 := by
  induction C with
  | nil => cases h
  | cons r t ih =>
    rw [List.map_cons, List.nodup_cons] at nd
    rcases List.mem_cons.mp h with z | z
    · rw [z, List.lookup_cons, beq_self_eq_true]
    · have ne : (p.1 == r.1) = false := by
        rw [beq_eq_false_iff_ne]
        intro e
        exact nd.1 (e ▸ List.mem_map_of_mem z)
      rw [List.lookup_cons, ne]
      exact ih nd.2 z
/-- B owns just C's cells -/
structure Holds (C : Pins) (B : Ms) : Prop where
  nd : (C.map (·.1)).Nodup
  key : keys B = C.map (·.1)
  pin : ∀ q ∈ B, ∀ o, C.lookup q.1 = some o → ∀ F u, q.2.p F u → u = PinO q.1 o
end
/-! a made function as a value: what stands of it, what its calls give -/
end Hq
namespace Hq
open PySem L2 NdefX LamX
/-! a call to which functions made here are handed: the captured cells are tracked meanwhile -/
/-- the cells of the names ys, one after the other, with what they hold -/
inductive Capt (cells : List (Str × Addr)) : List Str → List V → Pins → Prop
  | nil : Capt cells [] [] []
  | cons {y : Str} {c : Addr} {o : Obj} {u : Value} {v : V} {ys : List Str} {ws : List V} {C : Pins} : cells.lookup y = some c → o.data = .cell (some u) → RelV v u → Capt cells ys ws C → Capt cells (y :: ys) (v :: ws) ((c, o) :: C)
section
variable {cells : List (Str × Addr)} {ys : List Str} {ws : List V} {C : Pins}
theorem Capt.len (h : Capt cells ys ws C) : ws.length = ys.length := by
  induction h with
  | nil => rfl
  | cons _ _ _ _ ih => rw [List.length_cons, List.length_cons, ih]
theorem Capt.mem (h : Capt cells ys ws C) {c : Addr} {o : Obj} : (c, o) ∈ C → ∃ y ∈ ys, cells.lookup y = some c := by
  induction h with
  | nil => intro z; cases z
  | cons a b r t ih =>
    intro z
    rcases List.mem_cons.mp z with e | e
    · cases e; exact ⟨_, List.mem_cons_self, a⟩
    · obtain ⟨y, hy, q⟩ := ih e
      exact ⟨y, List.mem_cons_of_mem _ hy, q⟩
theorem Capt.nd (inj : ∀ x y c, cells.lookup x = some c → cells.lookup y = some c → x = y) (h : Capt cells ys ws C) (nd : ys.Nodup) : (C.map (·.1)).Nodup := by
  induction h with
  | nil => exact List.nodup_nil
  | cons a b r t ih =>
    rw [List.nodup_cons] at nd
    rw [List.map_cons, List.nodup_cons]
    refine ⟨fun z => ?_, ih nd.2⟩
    obtain ⟨p, hp, e⟩ := List.mem_map.mp z
    obtain ⟨y, hy, q⟩ := t.mem (c := p.1) (o := p.2) hp
    have e : p.1 = _ := e
    rw [e] at q
    have := inj _ _ _ a q
    exact nd.1 (this ▸ hy)
theorem Capt.at (nd : (C.map (·.1)).Nodup) (h : Capt cells ys ws C) {y : Str} {i : Nat} (e : ys[i]? = some y) : ∃ c o u v, cells.lookup y = some c ∧ C.lookup c = some o ∧ o.data = .cell (some u) ∧ ws[i]? = some v ∧ RelV v u := by
  have key : ∃ c o u v, cells.lookup y = some c ∧ (c, o) ∈ C ∧ o.data = .cell (some u) ∧ ws[i]? = some v ∧ RelV v u := by
    clear nd
    induction h generalizing i with
    | nil => simp at e
    | cons a b r t ih =>
      cases i with
      | zero =>
        simp at e
        subst e
        exact ⟨_, _, _, _, a, List.mem_cons_self, b, rfl, r⟩
      | succ i =>
        obtain ⟨c, o, u, v, h1, h2, h3⟩ := ih (i := i) (by simpa using e)
        exact ⟨c, o, u, v, h1, List.mem_cons_of_mem _ h2, by simpa using h3⟩
  obtain ⟨c, o, u, v, h1, h2, h3⟩ := key
  exact ⟨c, o, u, v, h1, look_of_mem (p := (c, o)) nd h2, h3⟩
end
/-! what a made function's calls give -/
end Hq
namespace Hq
open PySem L2 NdefX LamX
/-! making functions: nested defs, lambdas with parameters -/
/-- a table's entries tell code objects of the names that their places have -/
def Told (nm : Nat → Nat → Str) (ps : Array Value) (H : Hp) : Prop := TriplesOk ps.toList ∧ ∀ (pos : Pos) (cv : Value), codeAmong pos ps.toList = some cv → ∃ c, cv = .ref c ∧ H c = some (CodeO c (nm pos.line pos.col))
theorem Told.ext {nm : Nat → Nat → Str} {ps : Array Value} {H H' : Hp} (t : Told nm ps H) (e : Ex H H') : Told nm ps H' := ⟨t.1, fun pos cv h => let ⟨c, a, b⟩ := t.2 pos cv h; ⟨c, a, e _ _ b⟩⟩
/-- a function is made by the table at P: q its name, u its object's words -/
def MkFn (P : Addr) (nm : Nat → Nat → Str) (q : Str) (u : Addr → Addr → HO) (H : Hp) (k : Addr → Hp → Prop) : Prop := ∃ ps : Array Value, H P = some (.tbl ps) ∧ Told nm ps H ∧
  (∀ (f c' : Addr) (ps' : Array Value), H c' = none → H f = none → c' ≠ f → c' ≠ P → f ≠ P → (∀ F0 : Hp, Told nm ps F0 → F0 c' = none → Told nm ps' (upd F0 c' (CodeO c' q))) → k f (upd (upd (upd H P (.tbl ps')) c' (CodeO c' q)) f (u f c'))) ∧
  (∀ (f c' : Addr), (∀ F0 : Hp, Told nm ps F0 → F0 c' = some (CodeO c' q)) → H f = none → k f (upd H f (u f c')))
section
variable {X : Cx}
theorem MkFn.imp {P : Addr} {nm : Nat → Nat → Str} {q : Str} {u : Addr → Addr → HO} {H : Hp} {k k' : Addr → Hp → Prop} (h : MkFn P nm q u H k) (i : ∀ f H1, k f H1 → k' f H1) : MkFn P nm q u H k' :=
  let ⟨ps, a, b, c, d⟩ := h
  ⟨ps, a, b, fun f c' ps' h1 h2 h3 h4 h5 h6 => i _ _ (c f c' ps' h1 h2 h3 h4 h5 h6), fun f c' h1 h2 => i _ _ (d f c' h1 h2)⟩
end
/-! read -/
end Hq
namespace Hq
open PySem L2 NdefX LamX
/-! bodies of made functions -/
end Hq
namespace L2
open PySem PySem.Spec PyProof.Rows
/-! {k: v} with a nested key -/
end L2
namespace Hq
open PySem L2
end Hq
namespace Hq
open PySem L2 NdefX LamX
/-! the law's start and end where the program makes functions -/
end Hq
namespace Hq
open PySem L2 NdefX LamX
/-! a def that returns what it made: its cells are tracked behind it -/
/-! a call that tells what it owns behind it -/
def EvX {ι : Type} (te : TE) (Γ : Gm) (M : Ms) (φ : ι → Prop) (P : ι → MP) (M' : ι → Ms) : Prop := ∀ E F σ H, Pt E F M H → EnvOk F σ Γ → ∀ Q : VK, (∀ i v F' H', φ i → Ex F F' → Pt E F' (M' i) H' → (P i).p F' v → Q v H') → te σ H Q
end Hq
/-! HqSe: calls that change what they own, told by more than one thing; dicts that stand. -/
namespace Hq
open PySem L2
section
variable {ι : Type} {K : PySem.W.Frag} {E : Ent} {F F' H H' : Hp} {Γ : Gm} {M M1 M2 Mc Md B : Ms} {φ : ι → Prop} {P R1 R2 : ι → MP} {M' Bi Mi : ι → Ms} {te td tk : TE} {tr : TA} {ps : List MP} {sp : Sp} {X : XK} {D1 : Ends} {tz : TS} {i j : Nat}
theorem EvX.to {κ : Type} {φ' : κ → Prop} {P' : κ → MP} {N' : κ → Ms} (f : ι → κ) (h : EvX te Γ M φ P M') (l : ∀ i, φ i → φ' (f i) ∧ (P i).le (P' (f i)) ∧ M' i = N' (f i)) : EvX te Γ M φ' P' N' := fun E F σ H a b Q k => h E F σ H a b Q fun i v F' H' hi e g r => by
  obtain ⟨l1, l2, l3⟩ := l i hi
  exact k (f i) v F' H' l1 e (l3 ▸ g) (l2 F' v r)
end
end Hq
/-! ### list(zip(a tuple, a list)) -/
namespace HqJ
open PySem PySem.Spec PyProof.Rows
section
variable {prog : Program} {w : World} {A : Around} {E : Value → Shared → Prop} {s : Shared} {z TI TO T i1 i2 : Addr} {fp1 fp2 : List Addr} {n1 n2 i : Nat} {P1 P2 : Nat → Value → Prop} {St1 St2 : Nat → Heap → Prop} {f : Bool} {oT : Obj}
theorem held_item {Q : Value → Shared → Prop} (S : ZipSep2 z TI TO i1 i2 fp1 fp2) (D1 : Draws prog w A i1 fp1 n1 P1 St1) (D2 : Draws prog w A i2 fp2 n2 P2 St2)
    (hz : IsZipHeld s.heap z TI TO T f) (hT : s.heap.get? T = some oT) (hTI : IsTupOf2 s.heap TI (.ref i1) (.ref i2)) (st1 : St1 i s.heap) (st2 : St2 i s.heap) (hlt1 : i < n1) (hlt2 : i < n2)
    (hQ : ∀ x1 x2 h' tk, P1 i x1 → P2 i x2 → IsZipHeld h' z TI TO T true → St1 (i + 1) h' → St2 (i + 1) h' → IsTupOf2 h' s.heap.objs.size x1 x2 → h'.objs.size = s.heap.objs.size + 1 →
      (∀ c o, c ≠ z → c ≠ i1 → c ≠ i2 → s.heap.get? c = some o → h'.get? c = some o) → Q (.ref s.heap.objs.size) { s with heap := h', toks := tk }) :
    wpAny (model prog w) A (Builtin.«zip.__next__» ⟨[.ref z], []⟩) (fun fin s' => ∃ v, fin = .done (.ret v) ∧ Q v s') E s := by
  obtain ⟨hp, g, d, tk0, os⟩ := s
  show wpAny _ _ (field (.ref z) 2 >>= _) _ _ _
  refine wpAny_bind (wpAny_field hz rfl (x := .bool false) rfl ?_)
  show wpAny _ _ (field (.ref z) 3 >>= _) _ _ _
  refine wpAny_bind (wpAny_field hz rfl (x := .ref TI) rfl ?_)
  refine wpAny_bind (wpAny_seqItems hTI rfl ?_)
  show wpAny _ _ (Builtin.SmallTypes.ownedTupleIsFree (.ref z) >>= _) _ _ _
  refine wpAny_bind (wpAny_tupleHeld_zip hz hT fun h₁ hz₁ hs₁ => ?_)
  replace hs₁ : Heap.SameBut z hp h₁ := hs₁
  simp only [Bool.false_eq_true, if_false]
  refine wpAny_bind ?_
  rw [← Array.forIn_toList]
  simp only [List.forIn_cons, List.forIn_nil]
  refine wpAny_bind (wpAny_bind (wpAny_holding ?_))
  show wpAny _ _ (Builtin.SmallTypes.nextOf (.ref i1) >>= _) _ _ ⟨h₁, g, d, tk0, os⟩
  refine wpAny_bind (D1.item i _ _ _ hlt1 (D1.over st1 hs₁ S.zf1) fun x1 p1 tk1 hx1 sn1 hp1 => wpAny_pure ?_)
  replace hp1 : Heap.SameBut i1 h₁ p1 := hp1
  refine wpAny_pure ?_
  refine wpAny_bind (wpAny_bind (wpAny_holding ?_))
  show wpAny _ _ (Builtin.SmallTypes.nextOf (.ref i2) >>= _) _ _ ⟨p1, g, d, tk1, os⟩
  refine wpAny_bind (D2.item i _ _ _ hlt2 (D2.over (D2.over st2 hs₁ S.zf2) hp1 S.sep1_2) fun x2 p2 tk2 hx2 sn2 hp2 => wpAny_pure ?_)
  replace hp2 : Heap.SameBut i2 p1 p2 := hp2
  refine wpAny_pure (wpAny_pure ?_)
  show wpAny _ _ (newTuple [x1, x2] >>= _) _ _ ⟨p2, g, d, tk2, os⟩
  refine wpAny_bind (wpAny_newTuple ?_)
  have hsz : p2.objs.size = hp.objs.size := by rw [hp2.1, hp1.1, hs₁.1]
  have hz₃ : IsZipHeld p2 z TI TO T true := hp2.extBut _ _ S.zi2 (hp1.extBut _ _ S.zi1 hz₁)
  have hk : ∀ c o, c ≠ z → c ≠ i1 → c ≠ i2 → hp.get? c = some o → p2.get? c = some o := fun c o c1 c2 c3 e => hp2.extBut _ _ c3 (hp1.extBut _ _ c2 (hs₁.extBut _ _ c1 e))
  have j1 : St1 (i + 1) p2 := D1.over sn1 hp2 S.sep2_1
  refine wpAny_pure ⟨_, rfl, ?_⟩
  show Q (.ref p2.objs.size) _
  have hp' : IsTupOf2 (p2.push { cls := .type "tuple", data := .seq #[x1, x2] }) p2.objs.size x1 x2 := Heap.get?_push_size _ rfl
  have hz4 : (p2.push { cls := .type "tuple", data := .seq #[x1, x2] }).objs.size = p2.objs.size + 1 := Heap.size_push ..
  rw [hsz] at hp' hz4 ⊢
  exact hQ x1 x2 _ tk2 hx1 hx2 (Heap.get?_push_of_some _ hz₃) (D1.frame _ _ _ j1 fun b _ o e => Heap.get?_push_of_some _ e) (D2.frame _ _ _ sn2 fun b _ o e => Heap.get?_push_of_some _ e) hp' hz4 fun c o c1 c2 c3 e => Heap.get?_push_of_some _ (hk c o c1 c2 c3 e)
theorem held_end {Q : Fin → Shared → Prop} (S : ZipSep2 z TI TO i1 i2 fp1 fp2) (D1 : Draws prog w A i1 fp1 n1 P1 St1)
    (hz : IsZipHeld s.heap z TI TO T f) (hT : s.heap.get? T = some oT) (hTI : IsTupOf2 s.heap TI (.ref i1) (.ref i2)) (st1 : St1 n1 s.heap)
    (hE : ∀ h' e, (∀ c o, c ≠ z → c ≠ i1 → s.heap.get? c = some o → h'.get? c = some o) → (∃ o, h'.get? e = some o ∧ o.cls = .type "StopIteration") → E (.ref e) { s with heap := h' }) :
    wpAny (model prog w) A (Builtin.«zip.__next__» ⟨[.ref z], []⟩) Q E s := by
  show wpAny _ _ (field (.ref z) 2 >>= _) _ _ _
  refine wpAny_bind (wpAny_field hz rfl (x := .bool false) rfl ?_)
  show wpAny _ _ (field (.ref z) 3 >>= _) _ _ _
  refine wpAny_bind (wpAny_field hz rfl (x := .ref TI) rfl ?_)
  refine wpAny_bind (wpAny_seqItems hTI rfl ?_)
  show wpAny _ _ (Builtin.SmallTypes.ownedTupleIsFree (.ref z) >>= _) _ _ _
  refine wpAny_bind (wpAny_tupleHeld_zip hz hT fun h₁ hz₁ hs₁ => ?_)
  simp only [Bool.false_eq_true, if_false]
  refine wpAny_bind ?_
  rw [← Array.forIn_toList]
  simp only [List.forIn_cons, List.forIn_nil]
  refine wpAny_bind (wpAny_bind (wpAny_holding ?_))
  show wpAny _ _ (Builtin.SmallTypes.nextOf (.ref i1) >>= _) _ _ _
  refine wpAny_bind (D1.done { s with heap := h₁ } _ _ (D1.over st1 hs₁ S.zf1) fun h₂ e hs₂ he => ?_)
  exact hE h₂ e (fun c o c1 c2 x => hs₂ _ _ c2 (hs₁.extBut _ _ c1 x)) he
end
/-- a zip that has given i pairs that live on -/
def ZSt (h : Heap) (z TI TO i1 i2 S t l : Addr) (i : Nat) : Prop :=
  (∃ T f oT, IsZipHeld h z TI TO T f ∧ h.get? T = some oT ∧ T ≠ z ∧ T ≠ i1 ∧ T ≠ i2 ∧ T ≠ S ∨ IsZip h z TI TO .none ∧ T = 0 ∧ f = false ∧ oT = (default : Obj)) ∧
    IsTupOf2 h TI (.ref i1) (.ref i2) ∧ (∃ a b, IsTupOf2 h TO a b) ∧ h.IsTupleIter i1 t i ∧ h.IsListIter i2 l i
structure Ap (z TI TO i1 i2 S t l : Addr) : Prop where
  sep : ZipSep2 z TI TO i1 i2 [i1, t] [i2, l]
  t1 : t ≠ i1
  l2 : l ≠ i2
  lo : z < S ∧ TI < S ∧ TO < S ∧ i1 < S ∧ i2 < S ∧ t < S ∧ l < S
  tz : t ≠ z ∧ t ≠ TO ∧ t ≠ i2 ∧ l ≠ z ∧ l ≠ TO ∧ l ≠ i1
section
variable {prog : Program} {w : World} {A : Around} {E : Value → Shared → Prop} {s : Shared} {z TI TO i1 i2 S t l : Addr} {xs ys : Array Value} {i : Nat}
theorem nxt (a : Ap z TI TO i1 i2 S t l) (hh : A.handled = none) {Q : Option Value → Shared → Prop} (st : ZSt s.heap z TI TO i1 i2 S t l i) (ht : s.heap.IsTuple t xs) (hl : s.heap.IsList l ys) (h1 : i < xs.size) (h2 : i < ys.size) (hSl : S < s.heap.objs.size)
    (hQ : ∀ x1 x2 h' tk, xs[i]? = some x1 → ys[i]? = some x2 → ZSt h' z TI TO i1 i2 S t l (i + 1) → IsTupOf2 h' s.heap.objs.size x1 x2 → h'.objs.size = s.heap.objs.size + 1 →
      (∀ c o, c ≠ z → c ≠ TO → c ≠ i1 → c ≠ i2 → s.heap.get? c = some o → h'.get? c = some o) → Q (some (.ref s.heap.objs.size)) { s with heap := h', toks := tk }) :
    wpAny (model prog w) A (pyNext (.ref z)) Q E s := by
  obtain ⟨⟨T, f, oT, hz⟩, hTI, ⟨b1, b2, hTO⟩, s1, s2⟩ := st
  have D1 := Draws.tuple (prog := prog) (w := w) (A := A.in1) hh i1 t a.t1 xs
  have D2 := Draws.list (prog := prog) (w := w) (A := A.in1) hh i2 l a.l2 ys
  obtain ⟨z0, z1, z2, z3, z4, z5, z6⟩ := a.lo
  rcases hz with ⟨hz, hT, n1, n2, n3, n4⟩ | ⟨hz, _⟩
  · have hTy : s.TypeIs (.ref z) "zip" := ⟨_, hz, rfl⟩
    unfold pyNext
    refine wpAny_bind (wpAny_attempt (wpAny_callSpecial?_slot (name := Str.ofString "__next__") hTy F.slot_zip_next
      (wpAny_call_entry F.slot_zip_next hTy F.entry_zip_next
        (held_item a.sep D1 D2 hz hT hTI ⟨s1, ht⟩ ⟨s2, hl⟩ h1 h2 fun x1 x2 h' tk e1 e2 hz' st1' st2' hp hsz hk => wpAny_pure ?_) (F.args_zip_next_1 _))))
    exact hQ x1 x2 h' tk e1 e2 ⟨⟨T, true, oT, .inl ⟨hz', hk T oT n1 n2 n3 hT, n1, n2, n3, n4⟩⟩, hk _ _ a.sep.TIz a.sep.TIi1 a.sep.TIi2 hTI, ⟨b1, b2, hk _ _ a.sep.TOz a.sep.Ti1 a.sep.Ti2 hTO⟩, st1'.1, st2'.1⟩ hp hsz fun c o c1 _ c3 c4 e => hk c o c1 c3 c4 e
  · refine wpAny_pyNext_zipD2_item a.sep D1 D2 hz hTI hTO ⟨s1, ht⟩ ⟨s2, hl⟩ h1 h2 fun x1 x2 h' tk e1 e2 hz' hTO' st1' st2' hp hsz hk => ?_
    have gt : ∀ c, c < S → s.heap.objs.size ≠ c := fun c hc => Nat.ne_of_gt (Nat.lt_trans hc hSl)
    exact hQ x1 x2 h' tk e1 e2 ⟨⟨s.heap.objs.size, false, _, .inl ⟨hz', hp, gt _ z0, gt _ z3, gt _ z4, Nat.ne_of_gt hSl⟩⟩, hk _ _ a.sep.TIz a.sep.TITO a.sep.TIi1 a.sep.TIi2 hTI, ⟨_, _, hTO'⟩, st1'.1, st2'.1⟩ hp hsz hk
theorem fin (a : Ap z TI TO i1 i2 S t l) (hh : A.handled = none) {Q : Option Value → Shared → Prop} (st : ZSt s.heap z TI TO i1 i2 S t l i) (ht : s.heap.IsTuple t xs) (hl : s.heap.IsList l ys) (h1 : i = xs.size) (h2 : i ≤ ys.size)
    (hQ : ∀ h' tk, (∀ c o, c ≠ z → c ≠ TO → c ≠ i1 → c ≠ i2 → s.heap.get? c = some o → h'.get? c = some o) → Q none { s with heap := h', toks := tk }) :
    wpAny (model prog w) A (pyNext (.ref z)) Q E s := by
  obtain ⟨⟨T, f, oT, hz⟩, hTI, ⟨b1, b2, hTO⟩, s1, s2⟩ := st
  have D1 := Draws.tuple (prog := prog) (w := w) (A := A.in1) hh i1 t a.t1 xs
  have D2 := Draws.list (prog := prog) (w := w) (A := A.in1) hh i2 l a.l2 ys
  rcases hz with ⟨hz, hT, n1, n2, n3, n4⟩ | ⟨hz, _⟩
  · have hTy : s.TypeIs (.ref z) "zip" := ⟨_, hz, rfl⟩
    unfold pyNext
    refine wpAny_bind (wpAny_attempt (wpAny_callSpecial?_slot (name := Str.ofString "__next__") hTy F.slot_zip_next
      (wpAny_call_entry F.slot_zip_next hTy F.entry_zip_next
        (held_end a.sep D1 hz hT hTI (by rw [← h1]; exact ⟨s1, ht⟩) fun h' e hk he => ?_) (F.args_zip_next_1 _))))
    obtain ⟨o, ho, hc⟩ := he
    refine wpAny_bind (wpAny_isInstance (T := "StopIteration") (b := true) ⟨o, ho, hc⟩ isSubtype_stop ?_)
    exact wpAny_pure (hQ h' s.toks fun c o c1 _ c3 _ e => hk c o c1 c3 e)
  · exact wpAny_pyNext_zipD2_end a.sep D1 D2 hz hTI hTO ⟨s1, ht⟩ ⟨s2, hl⟩ (by omega) h2 (.inl h1) hQ
end
end HqJ
namespace L2
open PySem PySem.Spec PyProof.Rows HqJ
end L2
namespace Hq
open PySem L2 HqJ
end Hq
/-! ### a slice of a list or a tuple of ints that stands -/
namespace Hq
open PySem L2
end Hq
namespace Hq
open PySem L2
end Hq
namespace Hq
open PySem L2
end Hq
/-! ### a def within a def whose own names are taken by a comprehension in it (own cells beside the captured ones) -/
namespace HqLE
open PySem PySem.Spec PyProof.Rows
end HqLE
namespace Hq
open PySem L2 NdefX LamX HqLE
end Hq
/-! ### zip of a tuple and a list; tuples made here of anything; any -/
namespace HqLC
open PySem PySem.Spec PyProof.Rows L2
theorem sep {I a b : Addr} (ha : a < I) (hb : b < I) : ZipSep2 (I + 4) (I + 2) (I + 3) I (I + 1) [I, a] [I + 1, b] := by
  have ha : @LT.lt Nat _ a I := ha
  have hb : @LT.lt Nat _ b I := hb
  constructor <;> first
    | exact List.mem_cons_self
    | (intro e; have e : ((_ : Nat) = _) := e; omega)
    | (intro h
       rcases List.mem_cons.mp h with e | h
       · have e : ((_ : Nat) = _) := e
         omega
       · have e : ((_ : Nat) = _) := List.mem_singleton.mp h
         omega)
end HqLC
namespace Hq
open PySem L2 HqLC
end Hq
/-! ### rows and words that are lists or tuples, as values of any expression -/
namespace Hq
open PySem L2
end Hq
/-! ### tuples made here, of anything -/
namespace Hq
open PySem L2
end Hq
/-! ### xs + ys of lists that stand -/
namespace Hq
open PySem L2
end Hq
namespace Hq
open PySem L2
section
variable {K : PySem.W.Frag} {E : Ent} {F H : Hp} {M M1 M2 : Ms} {Γ : Gm} {P : MP} {q : Addr} {te ti ta : TE} {i j : Nat}
/-- the names of fields, told apart from one more -/
theorem names_ne {fps : List (Str × MP)} {m : Str} (L : List Str) (h : ∀ s ∈ L, s ≠ m) (e : fps.map Prod.fst = L := by rfl) : ∀ g ∈ fps, g.1 ≠ m := fun g hg => h g.1 (by rw [← e]; exact List.mem_map_of_mem hg)
end
end Hq
namespace Hq
open PySem L2 HqA HqLC
end Hq
/-! ### t[:x] where x is one of several; (x,) with a drawn x -/
namespace Hq
open PySem L2
end Hq
/-! ### t > u of tuples of ints -/
namespace L2
open PySem PySem.Spec PyProof.Rows
end L2
namespace Hq
open PySem L2
end Hq
/-! ### a comprehension with three generators -/
namespace L2
open PySem PySem.Spec PyProof.Rows
end L2
namespace Hq
open PySem L2
end Hq
/-! ### tuples of tuples, sorted lists of tuples, lists of lists of which the inner ones come to rest -/
namespace Hq
open PySem L2
end Hq
/-! ### dicts whose keys are None or nested tuples: lookups in the heap -/
namespace HqNa
open PySem PySem.Spec PyProof.Rows
abbrev XV := NestedKey × Value × Value
structure KeyV (h : Heap) (k : NestedKey) (v : Value) : Prop where
  is : NestedIs h k v
  dep : k.depth ≤ 8
  top : v = .none ∨ ∃ b, v = .ref b
def entV (w : World) (x : XV) : DictEntry := ⟨x.1.hash w, x.2.1, x.2.2⟩
section
variable {prog : Program} {w : World} {A : Around} {E : Value → Shared → Prop} {s : Shared} {d : Addr} {key : Value} {k : NestedKey} {xs : List XV}
/-- at d stands a dict with these entries -/
structure DictV (w : World) (h : Heap) (d : Addr) (xs : List XV) : Prop where
  ex : ∃ o es ep, h.get? d = some o ∧ o.ExactDict ∧ o.data = .dict es ep ∧ es.toList = xs.map (entV w)
  keys : ∀ x ∈ xs, KeyV h x.1 x.2.1
  nd : (xs.map (·.1)).Nodup
theorem DictV.new (h : Heap) : DictV w (h.push { cls := .type "dict", data := .dict #[] }) h.objs.size [] :=
  ⟨⟨_, #[], 0, Heap.get?_push_size _ rfl, ⟨rfl, rfl, rfl⟩, rfl, rfl⟩, (fun _ h => nomatch h), List.nodup_nil⟩
theorem KeyV.keeps {h h' : Heap} {o : Obj} {es : Array DictEntry} {ep : Nat} (x : KeyV h k key) (ho : h.get? d = some o) (hd : o.data = .dict es ep) (hs : Heap.SameBut d h h') : KeyV h' k key :=
  ⟨NestedIs.at (fun b ob vs n hb hc => by
    by_cases e : b = d
    · subst e
      rw [ho] at hb
      cases hb
      rw [hd] at hc
      cases hc
    · exact (hs.2 b e).trans hb) k key x.is, x.dep, x.top⟩
end
end HqNa
/-! ### dicts whose keys are None or nested tuples, values of any reading -/
namespace L2
open PySem PySem.Spec PyProof.Rows HqNa
/-! the terms -/
end L2
namespace Hq
open PySem L2
end Hq
/-! HqSf: objects that own what their fields hold. -/
namespace Hq
open PySem L2
end Hq
/-! HqSg: what is owned, in another order. -/
namespace Hq
open PySem L2
end Hq
/-! HqSh: calls that tell what they own, as assignments and as last statements. -/
namespace Hq
open PySem L2
end Hq
/-! HqSi: longer lists and dicts. -/
namespace Hq
open PySem L2
end Hq
/-! HqTa: texts. -/
namespace Hq
open PySem L2
/-- a text by its signs -/
abbrev dS (l : List Nat) : PyData := .str ⟨l.toArray⟩
theorem S_app (a b : List Nat) : ((⟨a.toArray⟩ : Str) ++ ⟨b.toArray⟩) = ⟨(a ++ b).toArray⟩ := by
  show Str.append _ _ = _
  unfold Str.append
  congr 1
  simp
theorem S_inj {a b : List Nat} (h : (⟨a.toArray⟩ : Str) = ⟨b.toArray⟩) : a = b := by
  have : a.toArray = b.toArray := congrArg Str.cps h
  exact List.toArray_inj this
theorem eqv_S (a b : List Nat) : PyData.eqv (dS a) (dS b) = decide (a = b) := by
  show (_ == _ : Bool) = _
  rw [Bool.eq_iff_iff, beq_iff_eq, decide_eq_true_iff]
  exact ⟨S_inj, fun e => by rw [e]⟩
theorem line24 {n : Nat} (h : n ≤ 16000000) : n ≤ sizeLine := Nat.le_trans h (by decide)
section
variable {K : PySem.W.Frag} {E : Ent} {F H : Hp} {M M1 M2 : Ms} {Γ : Gm} {P P1 : MP} {te ta tb : TE} {a b l : List Nat} {i : Int}
theorem ev_strL {x : Str} (h : x = ⟨l.toArray⟩) : Ev (tC (.str x)) Γ M (D K (dS l)) M := by rw [h]; exact ev_str
theorem dp_strS {v : V} {x : Str} (h : (D K (.str x)).p F v) : v = .str x := by cases h; rfl
theorem rv_addS (h : a.length + b.length ≤ 16000000) : RV (fun x y H Q => ∃ i j, x = .str i ∧ y = .str j ∧ i.length + j.length ≤ sizeLine ∧ Q (.str (i ++ j)) H) (D K (dS a)) (D K (dS b)) M (D K (dS (a ++ b))) M := rv_val (z := .str ⟨(a ++ b).toArray⟩) (fun _ => .str _) fun F H x y p1 p2 _ Q q => by
  cases dp_strS p1; cases dp_strS p2
  exact ⟨_, _, rfl, rfl, line24 (by show a.toArray.size + b.toArray.size ≤ _; simpa using h), by rw [S_app]; exact q⟩
theorem rv_ixS {c : Nat} (h0 : 0 ≤ i) (hl : l.length ≤ 16000000) (h : l[i.toNat]? = some c) : RV (rIx K) (D K (dS l)) (D K (.int i)) M (D K (dS [c])) M := rv_val (z := .str ⟨#[c]⟩) (fun _ => .str _) fun F H x y p1 p2 _ Q q => by
  cases dp_strS p1; cases dp_int p2
  refine .inr (.inr ⟨_, i, c, rfl, rfl, line24 (by show l.toArray.size ≤ _; simpa using hl), ?_, q⟩)
  show atI l.toArray.toList i = some c
  have hl := (List.getElem?_eq_some_iff.mp h).1
  obtain ⟨n, rfl⟩ := Int.eq_ofNat_of_zero_le h0
  unfold atI
  rw [List.toList_toArray, Evl.ixN_nat (by simpa using hl)]
  simpa using h
theorem rc_lenS (hl : l.length ≤ 16000000) : RC (fun xs H Q => ∃ z : Str, xs = [.str z] ∧ z.length ≤ sizeLine ∧ Q (.int z.length) H) [D K (dS l)] M (D K (.int (l.length : Int))) M := fun E F H vs g h Q k => by
  cases h with
  | cons h t =>
    cases t
    cases dp_strS h
    refine ⟨_, rfl, line24 (by show l.toArray.size ≤ _; simpa using hl), ?_⟩
    have : (⟨l.toArray⟩ : Str).length = l.length := by show l.toArray.size = _; simp
    rw [this]
    exact k _ F H (Evl.Ex.refl _) g (.int _)
/-- the digits -/
theorem rc_strI {r : Nat} (h : r ≤ 9) : RC (fun xs H Q => ∃ i : Int, xs = [.int i] ∧ i.natAbs.log2 < 1920 ∧ Q (.str (toString i)) H) [D K (.int (r : Int))] M (D K (dS [48 + r])) M := fun E F H vs g h' Q k => by
  cases h' with
  | cons h' t =>
    cases t
    cases dp_int h'
    have e : ∀ r : Nat, r ≤ 9 → Str.ofString (toString (r : Int)) = ⟨[48 + r].toArray⟩ ∧ ((r : Int)).natAbs.log2 < 1920 := by decide +kernel
    refine ⟨_, rfl, (e r h).2, ?_⟩
    have e2 := (e r h).1
    show Q (.str (Str.ofString (toString (r : Int)))) H
    rw [e2]
    exact k _ F H (Evl.Ex.refl _) g (.str _)
theorem rc_intS {r : Nat} (h : r ≤ 9) : RC (fun xs H Q => ∃ (a : Str) (n : Int), xs = [.str a] ∧ PySem.intText? a = some n ∧ a.length ≤ 640 ∧ Q (.int n) H) [D K (dS [48 + r])] M (D K (.int (r : Int))) M := fun E F H vs g h' Q k => by
  cases h' with
  | cons h' t =>
    cases t
    cases dp_strS h'
    have e : ∀ r : Nat, r ≤ 9 → PySem.intText? ⟨[48 + r].toArray⟩ = some (r : Int) := by decide +kernel
    exact ⟨_, _, rfl, e r h, by show 1 ≤ 640; decide, k _ F H (Evl.Ex.refl _) g (.int _)⟩
theorem rv_inSg {c : Nat} : RV (fun x y H Q => ∃ (c : Nat) (z : Str), x = .str ⟨#[c]⟩ ∧ y = .str z ∧ Q (.bl (decide (c ∈ z.cps.toList))) H) (D K (dS [c])) (D K (dS l)) M (D K (.bool (decide (c ∈ l)))) M := rv_val (z := .bl (decide (c ∈ l))) (fun _ => .bl _) fun F H x y p1 p2 _ Q q => by
  cases dp_strS p1; cases dp_strS p2
  refine ⟨c, _, rfl, rfl, ?_⟩
  have : (⟨l.toArray⟩ : Str).cps.toList = l := by simp
  rw [this]
  exact q
theorem all_strs : ∀ {F : Hp} {xs : List V} {ls : List (List Nat)}, Ps F xs (ls.map fun l => D K (dS l)) → xs = ls.map fun l => V.str ⟨l.toArray⟩
  | _, _, [], h => by cases h; rfl
  | _, _, l :: ls, h => by
    cases h with
    | cons a t => cases dp_strS a; rw [all_strs t]; rfl
/-- a text in a tuple of texts made here -/
theorem rv_inTS {ls : List (List Nat)} : RV (rIn K false) (D K (dS a)) (PTu K (ls.map fun l => D K (dS l))) M (D K (.bool (decide (a ∈ ls)))) M := rv_val (z := .bl (decide (a ∈ ls))) (fun _ => .bl _) fun F H x y p1 p2 ex Q q => by
  cases dp_strS p1
  obtain ⟨b, vs, rfl, s, hp⟩ := p2
  have e := all_strs hp
  subst e
  refine ⟨b, _, rfl, .inr (Evl.ex_t ex s), rfl, by rw [List.all_map]; exact List.all_eq_true.mpr fun _ _ => rfl, ?_⟩
  have : inV (V.str ⟨a.toArray⟩) (ls.map fun l => V.str ⟨l.toArray⟩) = decide (a ∈ ls) := by
    unfold inV
    rw [List.any_map, Bool.eq_iff_iff, List.any_eq_true, decide_eq_true_iff]
    constructor
    · rintro ⟨l, hl, h⟩
      have h : (V.str ⟨l.toArray⟩ : V) = V.str ⟨a.toArray⟩ := by simpa [eqV] using h
      cases S_inj (V.str.inj h)
      exact hl
    · intro h
      exact ⟨a, h, by simp [eqV]⟩
  rw [this]
  exact q
theorem dec_S : decide (V.str ⟨a.toArray⟩ = V.str ⟨b.toArray⟩) = decide (a = b) := decide_eq_decide.mpr ⟨fun h => S_inj (V.str.inj h), fun h => by rw [h]⟩
theorem rv_eqS : RV rEq (D K (dS a)) (D K (dS b)) M (D K (.bool (decide (a = b)))) M := rv_val (z := .bl _) (fun _ => .bl _) fun F H x y p1 p2 _ Q q => by
  cases dp_strS p1; cases dp_strS p2
  exact ⟨rfl, by rw [dec_S]; exact q⟩
theorem rv_neS : RV rNe (D K (dS a)) (D K (dS b)) M (D K (.bool (!decide (a = b)))) M := rv_val (z := .bl _) (fun _ => .bl _) fun F H x y p1 p2 _ Q q => by
  cases dp_strS p1; cases dp_strS p2
  exact ⟨rfl, by rw [dec_S]; exact q⟩
theorem ev_eqS (ha : Ev ta Γ M (D K (dS a)) M1) (hb : Ev tb Γ M1 (D K (dS b)) M2) : Ev (tOp rEq ta tb) Γ M (D K (.bool (decide (a = b)))) M2 := ev_op ha hb rv_eqS
theorem ev_neS (ha : Ev ta Γ M (D K (dS a)) M1) (hb : Ev tb Γ M1 (D K (dS b)) M2) : Ev (tOp rNe ta tb) Γ M (D K (.bool (!decide (a = b)))) M2 := ev_op ha hb rv_neS
/-- text.startswith(word, at) -/
theorem ev_starts {n : Nat} (ho : Ev ta Γ M (D K (dS l)) M) (h : EvA (tCons tb (tCons te tNil)) Γ M [D K (dS b), D K (.int (n : Int))] M1) (hn : n ≤ l.length) :
    Ev (tBM K "str" (fun x xs H Q => ∃ (a b : Str) (i : Int), x = .str a ∧ xs = [.str b, .int i] ∧ Q (.bl (Txt.startswith3 a b i)) H) ta (tCons tb (tCons te tNil))) Γ M (D K (.bool (decide ((l.drop n).take b.length = b)))) M1 := fun E F σ H x c Q k => ho E F σ H x c _ fun v F1 H1 e1 g1 p1 => by
  cases dp_strS p1
  refine ⟨rfl, h E F1 σ H1 g1 (c.mono e1) _ fun vs F2 H2 e2 g2 p2 => ?_⟩
  cases p2 with
  | cons q1 t => cases t with
    | cons q2 t =>
      cases t
      cases dp_strS q1; cases dp_int q2
      refine ⟨_, _, _, rfl, rfl, ?_⟩
      have : Txt.startswith3 ⟨l.toArray⟩ ⟨b.toArray⟩ (n : Int) = decide ((l.drop n).take b.length = b) := by
        unfold Txt.startswith3
        have f : PySem.fromIndex (⟨l.toArray⟩ : Str).length (n : Int) = n := by
          unfold PySem.fromIndex
          rw [if_neg (by omega)]
          omega
        rw [f]
        have l1 : (⟨l.toArray⟩ : Str).length = l.length := by show l.toArray.size = _; simp
        have l2 : (⟨b.toArray⟩ : Str).length = b.length := by show b.toArray.size = _; simp
        rw [l1, l2, Bool.eq_iff_iff, Bool.and_eq_true, decide_eq_true_iff, decide_eq_true_iff]
        unfold Builtin.Str.subAt
        rw [l2, beq_iff_eq]
        have ex : (⟨l.toArray⟩ : Str).cps.extract n (n + b.length) = ((l.drop n).take b.length).toArray := by
          show l.toArray.extract n (n + b.length) = _
          rw [List.extract_toArray, List.extract_eq_take_drop]
          congr 2
          omega
        rw [ex]
        constructor
        · rintro ⟨_, h2⟩
          exact List.toArray_inj h2
        · intro h2
          refine ⟨?_, by rw [h2]⟩
          have := congrArg List.length h2
          rw [List.length_take, List.length_drop] at this
          omega
      rw [this]
      exact k _ F2 H2 (e1.trans e2) g2 (.bl _)
end
end Hq
namespace Hq
open PySem L2
end Hq
namespace Hq
open PySem L2
end Hq
namespace My
/-! ### letters, places: plain lists -/
abbrev Lets := List (List Int)
/-- the places of a letter -/
def pl (ls : Lets) (a : Int) : List Int := ls.getD a.toNat []
def disj (l m : List Int) : Bool := !(l.any fun x => decide (x ∈ m))
/-- two letters without a common place -/
def free (ls : Lets) (a b : Int) : Bool := disj (pl ls a) (pl ls b)
structure AlphaOk (k : Int) (ls : Lets) : Prop where
  k1 : 1 ≤ k
  k4 : k ≤ 4
  l1 : 1 ≤ ls.length
  l6 : ls.length ≤ 6
  ok : ∀ l ∈ ls, l ≠ [] ∧ l.Pairwise (· < ·) ∧ ∀ x ∈ l, 0 ≤ x ∧ x < k
/-- a word of the letters -/
def WordOk (ls : Lets) (w : List Int) : Prop := ∀ x ∈ w, 0 ≤ x ∧ x < (ls.length : Int)
theorem pl_get {ls : Lets} {a : Int} (h0 : 0 ≤ a) (h : a < (ls.length : Int)) : ls[a.toNat]? = some (pl ls a) := by
  unfold pl
  have : a.toNat < ls.length := by omega
  rw [List.getD_eq_getElem?_getD, List.getElem?_eq_getElem this]; rfl
theorem pl_mem {ls : Lets} {a : Int} (h0 : 0 ≤ a) (h : a < (ls.length : Int)) : pl ls a ∈ ls := List.mem_of_getElem? (pl_get h0 h)
theorem disj_comm (l m : List Int) : disj l m = disj m l := by
  unfold disj
  congr 1
  rw [Bool.eq_iff_iff, List.any_eq_true, List.any_eq_true]
  simp only [decide_eq_true_eq]
  exact ⟨fun ⟨x, a, b⟩ => ⟨x, b, a⟩, fun ⟨x, a, b⟩ => ⟨x, b, a⟩⟩
theorem free_comm (ls : Lets) (a b : Int) : free ls a b = free ls b a := disj_comm _ _
theorem disj_iff {l m : List Int} : disj l m = true ↔ ∀ x ∈ l, x ∉ m := by
  unfold disj
  simp
theorem not_disj {l m : List Int} : disj l m = false ↔ ∃ x ∈ l, x ∈ m := by
  unfold disj
  simp
/-- the word of a place -/
def at_ (ls : Lets) (p : Int) (w : List Int) : List Int := w.filter fun a => decide (p ∈ pl ls a)
/-- swaps of independent neighbours -/
inductive Swp (ls : Lets) : List Int → List Int → Prop where
  | refl (w) : Swp ls w w
  | step {w u v a b} : Swp ls w (u ++ a :: b :: v) → free ls a b = true → Swp ls w (u ++ b :: a :: v)
theorem Swp.word {ls w w'} (h : Swp ls w w') (k : WordOk ls w) : WordOk ls w' ∧ w'.length = w.length := by
  induction h with
  | refl => exact ⟨k, rfl⟩
  | step h f ih =>
    obtain ⟨a, b⟩ := ih
    refine ⟨fun x hx => a x ?_, ?_⟩
    · simp only [List.mem_append, List.mem_cons] at hx ⊢
      rcases hx with h | h | h | h
      · exact .inl h
      · exact .inr (.inr (.inl h))
      · exact .inr (.inl h)
      · exact .inr (.inr (.inr h))
    · rw [← b]; simp
end My
namespace My
/-! ### sorted lists -/
/-- the greatest of some numbers that are not negative -/
def top0 (l : List Int) : Int := l.foldr max 0
theorem top0_le {l : List Int} : ∀ y ∈ l, y ≤ top0 l := by
  induction l with
  | nil => intro y h; cases h
  | cons a l ih =>
    intro y h
    show y ≤ max a (top0 l)
    rcases List.mem_cons.mp h with e | e
    · subst e; omega
    · have := ih y e; omega
theorem top0_mem {l : List Int} (h : l ≠ []) (h0 : ∀ y ∈ l, 0 ≤ y) : top0 l ∈ l := by
  induction l with
  | nil => exact absurd rfl h
  | cons a l ih =>
    show max a (top0 l) ∈ a :: l
    by_cases e : l = []
    · subst e
      have := h0 a List.mem_cons_self
      have : max a (top0 []) = a := by show max a 0 = a; omega
      rw [this]; exact List.mem_cons_self
    · have := ih e fun y hy => h0 y (List.mem_cons_of_mem _ hy)
      by_cases c : a ≤ top0 l
      · rw [show max a (top0 l) = top0 l by omega]; exact List.mem_cons_of_mem _ this
      · rw [show max a (top0 l) = a by omega]; exact List.mem_cons_self
/-! ### layers: a turn for each letter -/
def setAll (hs : List Int) (ps : List Int) (v : Int) : List Int := ps.foldl (fun hs p => hs.set p.toNat v) hs
def addRow (rs : List (List Int)) (h : Nat) (a : Int) : List (List Int) := if h = rs.length then rs ++ [[a]] else rs.set h (rs.getD h [] ++ [a])
def hts (ls : Lets) (hs : List Int) (a : Int) : List Int := (pl ls a).map fun p => hs.getD p.toNat 0
def lstep (ls : Lets) (s : List Int × List (List Int)) (a : Int) : List Int × List (List Int) :=
  (setAll s.1 (pl ls a) (top0 (hts ls s.1 a) + 1), addRow s.2 (top0 (hts ls s.1 a)).toNat a)
def lay (ls : Lets) (k : Int) (w : List Int) : List Int × List (List Int) := w.foldl (lstep ls) (List.replicate k.toNat 0, [])
theorem setAll_len (ps : List Int) (v : Int) : ∀ hs : List Int, (setAll hs ps v).length = hs.length := by
  induction ps with
  | nil => intro hs; rfl
  | cons p ps ih =>
    intro hs
    show (setAll (hs.set p.toNat v) ps v).length = hs.length
    rw [ih, List.length_set]
theorem setAll_get {ps : List Int} {v : Int} (h0 : ∀ p ∈ ps, 0 ≤ p) {q : Nat} : ∀ {hs : List Int}, q < hs.length → (setAll hs ps v).getD q 0 = if (q : Int) ∈ ps then v else hs.getD q 0 := by
  induction ps with
  | nil => intro hs _; simp [setAll]
  | cons p ps ih =>
    intro hs hq
    show (setAll (hs.set p.toNat v) ps v).getD q 0 = _
    rw [ih (fun x hx => h0 x (List.mem_cons_of_mem _ hx)) (by rw [List.length_set]; exact hq)]
    have hp := h0 p List.mem_cons_self
    by_cases h1 : (q : Int) ∈ ps
    · rw [if_pos h1, if_pos (List.mem_cons_of_mem _ h1)]
    · rw [if_neg h1]
      by_cases h2 : p = q
      · subst h2
        rw [if_pos List.mem_cons_self]
        simp [List.getD_eq_getElem?_getD, hq]
      · rw [if_neg (by simp [h1]; omega)]
        have : p.toNat ≠ q := by omega
        simp [List.getD_eq_getElem?_getD, List.getElem?_set, this]
theorem addRow_len {rs : List (List Int)} {h : Nat} {a : Int} (hh : h ≤ rs.length) : (addRow rs h a).length = max rs.length (h + 1) := by
  unfold addRow
  split
  · rw [List.length_append, List.length_singleton]; omega
  · rw [List.length_set]; omega
theorem addRow_get {rs : List (List Int)} {h : Nat} {a : Int} (hh : h ≤ rs.length) (i : Nat) : (addRow rs h a).getD i [] = if i = h then rs.getD h [] ++ [a] else rs.getD i [] := by
  unfold addRow
  split
  · rename_i e
    subst e
    by_cases h1 : i < rs.length
    · rw [if_neg (by omega)]
      simp [List.getD_eq_getElem?_getD, List.getElem?_append_left h1]
    · by_cases h2 : i = rs.length
      · subst h2
        rw [if_pos rfl]
        simp [List.getD_eq_getElem?_getD]
      · rw [if_neg h2]
        have : rs.length ≤ i := by omega
        rw [List.getD_eq_getElem?_getD, List.getD_eq_getElem?_getD, List.getElem?_append_right this, List.getElem?_eq_none (by simp; omega), List.getElem?_eq_none (by omega)]
  · by_cases h2 : i = h
    · subst h2
      rw [if_pos rfl]
      simp [List.getD_eq_getElem?_getD, show i < rs.length by omega]
    · rw [if_neg h2]
      simp [List.getD_eq_getElem?_getD, List.getElem?_set, Ne.symm h2]
/-- what holds between the turns -/
structure LInv (ls : Lets) (k : Int) (w : List Int) (s : List Int × List (List Int)) : Prop where
  len : s.1.length = k.toNat
  hi : ∀ q : Nat, q < k.toNat → 0 ≤ s.1.getD q 0 ∧ s.1.getD q 0 ≤ s.2.length
  word : ∀ p, at_ ls p s.2.flatten = at_ ls p w
  above : ∀ (q : Nat) (i : Nat), q < k.toNat → s.1.getD q 0 ≤ i → at_ ls q (s.2.getD i []) = []
  apart : ∀ i, (s.2.getD i []).Pairwise fun a b => free ls a b = true
  rests : ∀ i a, a ∈ s.2.getD (i + 1) [] → ∃ b ∈ s.2.getD i [], free ls a b = false
  full : ∀ i, i < s.2.length → s.2.getD i [] ≠ []
  some : ∀ (q : Nat), q < k.toNat → 0 < s.1.getD q 0 → at_ ls q (s.2.getD ((s.1.getD q 0).toNat - 1) []) ≠ []
  ok : ∀ i, ∀ x ∈ s.2.getD i [], 0 ≤ x ∧ x < (ls.length : Int)
  cnt : s.2.length ≤ w.length
  few : ∀ i, (s.2.getD i []).length ≤ w.length
theorem at_append (ls : Lets) (p : Int) (u v : List Int) : at_ ls p (u ++ v) = at_ ls p u ++ at_ ls p v := List.filter_append ..
theorem at_flatten (ls : Lets) (p : Int) (rs : List (List Int)) : at_ ls p rs.flatten = (rs.map (at_ ls p)).flatten := by
  induction rs with
  | nil => rfl
  | cons r rs ih => rw [List.flatten_cons, at_append, ih]; rfl
theorem flat_nil {rs : List (List Int)} (h : ∀ r ∈ rs, r = []) : rs.flatten = [] := by
  induction rs with
  | nil => rfl
  | cons r rs ih => rw [List.flatten_cons, h r List.mem_cons_self, ih fun x hx => h x (List.mem_cons_of_mem _ hx)]; rfl
theorem addRow_at {ls : Lets} {rs : List (List Int)} {h : Nat} {a p : Int} (hh : h ≤ rs.length) (hp : p ∈ pl ls a → ∀ i, h ≤ i → at_ ls p (rs.getD i []) = []) : at_ ls p (addRow rs h a).flatten = at_ ls p rs.flatten ++ at_ ls p [a] := by
  unfold addRow
  split
  · rw [List.flatten_append, at_append]
    congr 1
  · have hlt : h < rs.length := by omega
    have e1 : rs.set h (rs.getD h [] ++ [a]) = rs.take h ++ (rs.getD h [] ++ [a]) :: rs.drop (h + 1) := by
      rw [List.set_eq_take_append_cons_drop, if_pos hlt]
    have e2 : rs = rs.take h ++ rs.getD h [] :: rs.drop (h + 1) := by
      conv => lhs; rw [← List.take_append_drop h rs, List.drop_eq_getElem_cons hlt]
      simp [List.getD_eq_getElem?_getD, hlt]
    rw [e1]
    conv => rhs; rw [e2]
    rw [List.flatten_append, List.flatten_cons, List.flatten_append, List.flatten_cons]
    simp only [at_append, List.append_assoc]
    congr 2
    by_cases hpa : p ∈ pl ls a
    · have hn := hp hpa
      have : at_ ls p (rs.drop (h + 1)).flatten = [] := by
        rw [at_flatten]
        apply flat_nil
        intro r hr
        obtain ⟨r0, hr0, rfl⟩ := List.mem_map.mp hr
        obtain ⟨n, hn2, e⟩ := List.getElem_of_mem hr0
        rw [List.getElem_drop] at e
        have := hn (h + 1 + n) (by omega)
        rw [← e]
        rw [List.length_drop] at hn2
        simpa [List.getD_eq_getElem?_getD, show h + 1 + n < rs.length by omega] using this
      rw [this]; simp
    · have : at_ ls p [a] = [] := by simp [at_, hpa]
      rw [this]; simp
theorem at_one {ls : Lets} {p a : Int} : at_ ls p [a] = if p ∈ pl ls a then [a] else [] := by
  by_cases h : p ∈ pl ls a <;> simp [at_, h]
theorem at_nil_iff {ls : Lets} {p : Int} {l : List Int} : at_ ls p l = [] ↔ ∀ x ∈ l, p ∉ pl ls x := by
  unfold at_
  rw [List.filter_eq_nil_iff]
  simp
theorem LInv.step {ls : Lets} {k : Int} {w : List Int} {s : List Int × List (List Int)} (A : AlphaOk k ls) (I : LInv ls k w s) {a : Int} (ha : 0 ≤ a ∧ a < (ls.length : Int)) : LInv ls k (w ++ [a]) (lstep ls s a) := by
  obtain ⟨hs, rs⟩ := s
  obtain ⟨pne, _, pok⟩ := A.ok _ (pl_mem ha.1 ha.2)
  have pin : ∀ p ∈ pl ls a, p.toNat < k.toNat ∧ ((p.toNat : Nat) : Int) = p := fun p hp => by have := pok p hp; omega
  -- the height
  have hmem : top0 (hts ls hs a) ∈ hts ls hs a := top0_mem (by simp [hts, pne]) fun y hy => by
    obtain ⟨p, hp, rfl⟩ := List.mem_map.mp hy
    exact (I.hi _ (pin p hp).1).1
  obtain ⟨p0, hp0, e0⟩ := List.mem_map.mp hmem
  have hge : ∀ p ∈ pl ls a, hs.getD p.toNat 0 ≤ top0 (hts ls hs a) := fun p hp => top0_le _ (List.mem_map_of_mem hp)
  have hb := I.hi _ (pin p0 hp0).1
  generalize hh : top0 (hts ls hs a) = h at *
  obtain ⟨n, rfl⟩ : ∃ n : Nat, h = n := ⟨h.toNat, by dsimp only at hb; omega⟩
  have hn : n ≤ rs.length := by dsimp only at hb; omega
  have E : lstep ls (hs, rs) a = (setAll hs (pl ls a) ((n : Int) + 1), addRow rs n a) := by
    show (setAll hs (pl ls a) (top0 (hts ls hs a) + 1), addRow rs (top0 (hts ls hs a)).toNat a) = _
    rw [hh]; rfl
  rw [E]
  have hl : hs.length = k.toNat := I.len
  have gs : ∀ q : Nat, q < k.toNat → (setAll hs (pl ls a) ((n : Int) + 1)).getD q 0 = if (q : Int) ∈ pl ls a then (n : Int) + 1 else hs.getD q 0 := fun q hq => setAll_get (fun p hp => (pok p hp).1) (by omega)
  have gr := addRow_get (a := a) hn
  have gl := addRow_len (a := a) hn
  have emp : ∀ p ∈ pl ls a, ∀ i, n ≤ i → at_ ls p (rs.getD i []) = [] := fun p hp i hi => by
    have := I.above p.toNat i (pin p hp).1 (by have := hge p hp; dsimp only; omega)
    rw [(pin p hp).2] at this
    exact this
  refine ⟨by rw [setAll_len]; exact hl, fun q hq => ?_, fun p => ?_, fun q i hq hi => ?_, fun i => ?_, fun i b hbm => ?_, fun i hi => ?_, fun q hq h0 => ?_, fun i x hx => ?_, by have := I.cnt; dsimp only at this ⊢; rw [gl, List.length_append, List.length_singleton]; omega, fun i => by
    have := I.few i
    have h2 := I.few n
    dsimp only at this h2 ⊢
    rw [gr, List.length_append, List.length_singleton]
    split
    · rw [List.length_append, List.length_singleton]; omega
    · omega⟩
  · dsimp only
    rw [gs q hq, gl]
    have := I.hi q hq
    dsimp only at this
    split <;> omega
  · dsimp only
    rw [addRow_at hn (fun hp => emp p hp), at_append, I.word p]
  · dsimp only at hi ⊢
    rw [gs q hq] at hi
    rw [gr]
    split at hi
    · rename_i hqa
      rw [if_neg (by omega)]
      exact emp _ hqa i (by omega)
    · rename_i hqa
      split
      · rename_i e
        subst e
        rw [at_append, at_one, if_neg hqa, I.above q i hq hi]; rfl
      · exact I.above q i hq hi
  · dsimp only
    rw [gr]
    split
    · rw [List.pairwise_append]
      refine ⟨I.apart n, List.pairwise_singleton _ _, fun b hb c hc => ?_⟩
      rw [List.mem_singleton.mp hc]
      refine disj_iff.mpr fun p hpb hpa => ?_
      exact at_nil_iff.mp (emp p hpa n (Nat.le_refl _)) b hb hpb
    · exact I.apart i
  · dsimp only at hbm ⊢
    rw [gr] at hbm
    have old : ∀ (c : Int), c ∈ rs.getD i [] → c ∈ (addRow rs n a).getD i [] := fun c hc => by
      rw [gr]
      split
      · rename_i e; subst e; exact List.mem_append_left _ hc
      · exact hc
    have fromold : b ∈ rs.getD (i + 1) [] → ∃ c ∈ (addRow rs n a).getD i [], free ls b c = false := fun h => by
      obtain ⟨c, hc, f⟩ := I.rests i b h
      exact ⟨c, old c hc, f⟩
    split at hbm
    · rename_i e
      rcases List.mem_append.mp hbm with h | h
      · exact fromold (by rw [e]; exact h)
      · rw [List.mem_singleton.mp h]
        have sm := I.some p0.toNat (pin p0 hp0).1 (by dsimp only; omega)
        dsimp only at sm
        rw [show (hs.getD p0.toNat 0).toNat - 1 = i by omega, (pin p0 hp0).2] at sm
        cases hat : at_ ls p0 (rs.getD i []) with
        | nil => exact absurd hat sm
        | cons c cs =>
          have hc : c ∈ at_ ls p0 (rs.getD i []) := by rw [hat]; exact List.mem_cons_self
          unfold at_ at hc
          obtain ⟨h1, h2⟩ := List.mem_filter.mp hc
          exact ⟨c, old c h1, not_disj.mpr ⟨p0, hp0, by simpa using h2⟩⟩
    · exact fromold hbm
  · dsimp only at hi ⊢
    rw [gr]
    rw [gl] at hi
    split
    · simp
    · exact I.full i (by dsimp only; omega)
  · dsimp only at h0 ⊢
    rw [gs q hq] at h0 ⊢
    split
    · rename_i hqa
      rw [show (((n : Int) + 1).toNat - 1) = n by omega, gr, if_pos rfl, at_append, at_one, if_pos hqa]
      simp
    · rename_i hqa
      rw [if_neg hqa] at h0
      have := I.some q hq h0
      dsimp only at this
      rw [gr]
      split
      · rename_i e
        rw [e] at this
        rw [at_append]
        intro z
        exact this (List.append_eq_nil_iff.mp z).1
      · exact this
  · dsimp only at hx
    rw [gr] at hx
    split at hx
    · rcases List.mem_append.mp hx with h | h
      · exact I.ok n x h
      · rw [List.mem_singleton.mp h]; exact ha
    · exact I.ok i x hx
theorem LInv.start {ls : Lets} {k : Int} : LInv ls k [] (List.replicate k.toNat 0, []) := by
  have g : ∀ q : Nat, (List.replicate k.toNat (0 : Int)).getD q 0 = 0 := fun q => by
    rw [List.getD_eq_getElem?_getD, List.getElem?_replicate]; split <;> rfl
  refine ⟨List.length_replicate, fun q _ => ?_, fun p => rfl, fun q i _ _ => rfl, fun i => List.Pairwise.nil, fun i a h => (by cases h), fun i h => (by cases h), fun q _ h => ?_, fun i x h => (by cases h), Nat.le_refl _, fun i => Nat.le_refl _⟩
  · dsimp only; rw [g]; exact ⟨Int.le_refl _, Int.le_refl _⟩
  · dsimp only at h; rw [g] at h; omega
/-! ### the order of free neighbours doesn't matter -/
structure Like (s t : List Int × List (List Int)) : Prop where
  hs : s.1 = t.1
  len : s.2.length = t.2.length
  row : ∀ i, (s.2.getD i []).Perm (t.2.getD i [])
theorem hgt_le {ls : Lets} {k : Int} {w : List Int} {s : List Int × List (List Int)} (A : AlphaOk k ls) (I : LInv ls k w s) {a : Int} (ha : 0 ≤ a ∧ a < (ls.length : Int)) : (top0 (hts ls s.1 a)).toNat ≤ s.2.length ∧ 0 ≤ top0 (hts ls s.1 a) := by
  obtain ⟨pne, _, pok⟩ := A.ok _ (pl_mem ha.1 ha.2)
  have hb : ∀ p ∈ pl ls a, 0 ≤ s.1.getD p.toNat 0 ∧ s.1.getD p.toNat 0 ≤ s.2.length := fun p hp => I.hi _ (by have := pok p hp; omega)
  have hmem : top0 (hts ls s.1 a) ∈ hts ls s.1 a := top0_mem (by simp [hts, pne]) fun y hy => by
    obtain ⟨p, hp, rfl⟩ := List.mem_map.mp hy
    exact (hb p hp).1
  obtain ⟨p, hp, e⟩ := List.mem_map.mp hmem
  have := hb p hp
  omega
theorem Like.step {ls : Lets} {k : Int} {w : List Int} {s t : List Int × List (List Int)} (A : AlphaOk k ls) (I : LInv ls k w s) (L : Like s t) {a : Int} (ha : 0 ≤ a ∧ a < (ls.length : Int)) : Like (lstep ls s a) (lstep ls t a) := by
  have h1 := (hgt_le A I ha).1
  have e : hts ls t.1 a = hts ls s.1 a := by rw [L.hs]
  refine ⟨?_, ?_, fun i => ?_⟩
  · show setAll s.1 _ (top0 (hts ls s.1 a) + 1) = setAll t.1 _ (top0 (hts ls t.1 a) + 1)
    rw [e, L.hs]
  · show (addRow s.2 _ a).length = (addRow t.2 (top0 (hts ls t.1 a)).toNat a).length
    rw [e, addRow_len h1, addRow_len (by rw [← L.len]; exact h1), L.len]
  · show ((addRow s.2 _ a).getD i []).Perm ((addRow t.2 (top0 (hts ls t.1 a)).toNat a).getD i [])
    rw [e, addRow_get h1, addRow_get (by rw [← L.len]; exact h1)]
    split
    · exact (L.row _).append_right _
    · exact L.row i
/-! ### what the law asks of the layers -/
end My
namespace My
/-! ### the order of events -/
/-- event j of the word depends on event k -/
def dep (ls : Lets) (w : List Int) (j k : Nat) : Bool := !free ls (w.getD j 0) (w.getD k 0)
inductive Bel (d : Nat → Nat → Bool) : Nat → Nat → Prop where
  | refl (i : Nat) : Bel d i i
  | step {i j k : Nat} : Bel d i j → j < k → d j k = true → Bel d i k
theorem Bel.le {d : Nat → Nat → Bool} {i k : Nat} (h : Bel d i k) : i ≤ k := by
  induction h with
  | refl => exact Nat.le_refl _
  | step _ h _ ih => omega
theorem Bel.cons {d : Nat → Nat → Bool} {i j k : Nat} (h : d i j = true) (l : i < j) (b : Bel d j k) : Bel d i k := by
  induction b with
  | refl => exact .step (.refl i) l h
  | step _ l2 h2 ih => exact .step ih l2 h2
theorem Bel.last {d : Nat → Nat → Bool} {i k : Nat} : Bel d i k ↔ i = k ∨ ∃ j, j < k ∧ d j k = true ∧ Bel d i j := by
  constructor
  · intro b
    cases b with
    | refl => exact .inl rfl
    | step b l h => exact .inr ⟨_, l, h, b⟩
  · rintro (e | ⟨j, l, h, b⟩)
    · subst e; exact .refl i
    · exact .step b l h
/-- a table of truth values at a place -/
def cell (m : List (List Bool)) (r c : Nat) : Bool := (m.getD r []).getD c false
/-! ### masks -/
end My
namespace My
/-! ### what is_below, view and newest say -/
noncomputable def bel (d : Nat → Nat → Bool) (i k : Nat) : Bool := @decide (Bel d i k) (Classical.propDecidable _)
theorem bel_iff {d : Nat → Nat → Bool} {i k : Nat} : bel d i k = true ↔ Bel d i k := by
  unfold bel
  exact @decide_eq_true_iff _ (Classical.propDecidable _)
/-- event e is in the view of the place -/
noncomputable def inView (ls : Lets) (w : List Int) (p : Int) (e : Nat) : Bool := (List.range w.length).any fun k => decide (p ∈ pl ls (w.getD k 0)) && bel (dep ls w) e k
theorem inView_iff {ls : Lets} {w : List Int} {p : Int} {e : Nat} : inView ls w p e = true ↔ ∃ k, k < w.length ∧ p ∈ pl ls (w.getD k 0) ∧ Bel (dep ls w) e k := by
  unfold inView
  rw [List.any_eq_true]
  constructor
  · rintro ⟨k, hk, h⟩
    rw [Bool.and_eq_true, decide_eq_true_iff, bel_iff] at h
    exact ⟨k, List.mem_range.mp hk, h.1, h.2⟩
  · rintro ⟨k, hk, h1, h2⟩
    exact ⟨k, List.mem_range.mpr hk, by rw [Bool.and_eq_true, decide_eq_true_iff, bel_iff]; exact ⟨h1, h2⟩⟩
/-- two letters that share a place -/
theorem dep_iff {ls : Lets} {w : List Int} {j k : Nat} : dep ls w j k = true ↔ ∃ p, p ∈ pl ls (w.getD j 0) ∧ p ∈ pl ls (w.getD k 0) := by
  unfold dep free
  rw [Bool.not_eq_true', not_disj]
end My
namespace My
/-! ### words of places, swaps, least forms -/
/-- the same words of all places -/
def Alk (ls : Lets) (k : Int) (u v : List Int) : Prop := ∀ p : Int, 0 ≤ p → p < k → at_ ls p u = at_ ls p v
theorem Alk.symm {ls k u v} (h : Alk ls k u v) : Alk ls k v u := fun p a b => (h p a b).symm
theorem Alk.trans {ls k u v x} (h : Alk ls k u v) (g : Alk ls k v x) : Alk ls k u x := fun p a b => (h p a b).trans (g p a b)
theorem AlphaOk.pl_ok {k : Int} {ls : Lets} (A : AlphaOk k ls) {a : Int} (ha : 0 ≤ a ∧ a < (ls.length : Int)) : pl ls a ≠ [] ∧ ∀ p ∈ pl ls a, 0 ≤ p ∧ p < k := by
  obtain ⟨h1, _, h3⟩ := A.ok _ (pl_mem ha.1 ha.2)
  exact ⟨h1, h3⟩
theorem AlphaOk.some {k : Int} {ls : Lets} (A : AlphaOk k ls) {a : Int} (ha : 0 ≤ a ∧ a < (ls.length : Int)) : ∃ p ∈ pl ls a, 0 ≤ p ∧ p < k := by
  obtain ⟨h1, h3⟩ := A.pl_ok ha
  obtain ⟨p, hp⟩ := List.exists_mem_of_ne_nil _ h1
  exact ⟨p, hp, h3 p hp⟩
/-- the letter comes next at each of its places -/
def rdy (ls : Lets) (r : List Int) (a : Int) : Bool := (pl ls a).all fun p => decide ((at_ ls p r).head? = some a)
theorem rdy_iff {ls : Lets} {r : List Int} {a : Int} : rdy ls r a = true ↔ ∀ p ∈ pl ls a, (at_ ls p r).head? = some a := by
  unfold rdy; simp
theorem at_cons_in {ls : Lets} {p a : Int} {r : List Int} (h : p ∈ pl ls a) : at_ ls p (a :: r) = a :: at_ ls p r := by
  unfold at_; rw [List.filter_cons, if_pos (by simpa using h)]
theorem at_cons_out {ls : Lets} {p a : Int} {r : List Int} (h : p ∉ pl ls a) : at_ ls p (a :: r) = at_ ls p r := by
  unfold at_; rw [List.filter_cons, if_neg (by simpa using h)]
theorem rdy_first {ls : Lets} {r : List Int} {a : Int} : rdy ls (a :: r) a = true := rdy_iff.mpr fun p hp => by rw [at_cons_in hp]; rfl
theorem WordOk.tail {ls : Lets} {a : Int} {r : List Int} (h : WordOk ls (a :: r)) : WordOk ls r := fun x hx => h x (List.mem_cons_of_mem _ hx)
theorem WordOk.erase {ls : Lets} {a : Int} {r : List Int} (h : WordOk ls r) : WordOk ls (r.erase a) := fun x hx => h x (List.mem_of_mem_erase hx)
theorem rdy_split {k : Int} {ls : Lets} (A : AlphaOk k ls) {a : Int} (ha : 0 ≤ a ∧ a < (ls.length : Int)) : ∀ {r : List Int}, rdy ls r a = true → ∃ r1 r2, r = r1 ++ a :: r2 ∧ a ∉ r1 ∧ (∀ b ∈ r1, free ls b a = true) ∧ r.erase a = r1 ++ r2
  | [], h => by
    obtain ⟨p, hp, _⟩ := A.some ha
    have := rdy_iff.mp h p hp
    simp [at_] at this
  | b :: r, h => by
    by_cases e : b = a
    · subst e
      exact ⟨[], r, rfl, by simp, (by simp), by simp⟩
    · have hp : ∀ p ∈ pl ls a, p ∉ pl ls b := fun p hp hb => by
        have := rdy_iff.mp h p hp
        rw [at_cons_in hb] at this
        exact e (by simpa using this)
      have h2 : rdy ls r a = true := rdy_iff.mpr fun p q => by
        have := rdy_iff.mp h p q
        rwa [at_cons_out (hp p q)] at this
      obtain ⟨r1, r2, e1, n1, f1, x1⟩ := rdy_split A ha h2
      refine ⟨b :: r1, r2, by rw [e1]; rfl, ?_, ?_, ?_⟩
      · intro hm
        rcases List.mem_cons.mp hm with hm | hm
        · exact e hm.symm
        · exact n1 hm
      · intro c hc
        rcases List.mem_cons.mp hc with rfl | hc
        · exact disj_iff.mpr fun p hpb hpa => hp p hpa hpb
        · exact f1 c hc
      · rw [List.erase_cons, if_neg (by simpa using e), x1]; rfl
theorem rdy_at {k : Int} {ls : Lets} (A : AlphaOk k ls) {a : Int} (ha : 0 ≤ a ∧ a < (ls.length : Int)) {r : List Int} (h : rdy ls r a = true) (p : Int) : at_ ls p r = at_ ls p (a :: r.erase a) := by
  obtain ⟨r1, r2, e1, n1, f1, x1⟩ := rdy_split A ha h
  rw [x1]
  by_cases hp : p ∈ pl ls a
  · have : at_ ls p r1 = [] := at_nil_iff.mpr fun b hb q => disj_iff.mp (f1 b hb) p q hp
    rw [at_cons_in hp, e1, at_append, at_append, this, at_cons_in hp]; rfl
  · rw [at_cons_out hp, e1, at_append, at_append, at_cons_out hp]
theorem rdy_mem {k : Int} {ls : Lets} (A : AlphaOk k ls) {a : Int} (ha : 0 ≤ a ∧ a < (ls.length : Int)) {r : List Int} (h : rdy ls r a = true) : a ∈ r := by
  obtain ⟨r1, r2, e1, _⟩ := rdy_split A ha h
  rw [e1]; simp
theorem Swp.trans1 {ls : Lets} {w u v : List Int} {a : Int} : ∀ {r : List Int}, Swp ls w (u ++ (r ++ a :: v)) → (∀ b ∈ r, free ls b a = true) → Swp ls w (u ++ a :: (r ++ v)) := by
  intro r
  induction r generalizing u with
  | nil => intro h _; exact h
  | cons b r ih =>
    intro h hf
    have h1 : Swp ls w ((u ++ [b]) ++ (r ++ a :: v)) := by simpa using h
    have h2 := ih h1 fun c hc => hf c (List.mem_cons_of_mem _ hc)
    have h3 : Swp ls w (u ++ b :: a :: (r ++ v)) := by simpa using h2
    exact .step h3 (hf b List.mem_cons_self)
theorem Alk.nil {k : Int} {ls : Lets} (A : AlphaOk k ls) {u : List Int} (hu : WordOk ls u) (h : Alk ls k u []) : u = [] := by
  cases u with
  | nil => rfl
  | cons a u =>
    obtain ⟨p, hp, h0, h1⟩ := A.some (hu a List.mem_cons_self)
    have := h p h0 h1
    rw [at_cons_in hp] at this
    cases this
theorem Alk.rdy {k : Int} {ls : Lets} (A : AlphaOk k ls) {u v : List Int} (h : Alk ls k u v) {a : Int} (ha : 0 ≤ a ∧ a < (ls.length : Int)) : rdy ls u a = rdy ls v a := by
  have := (A.pl_ok ha).2
  rw [Bool.eq_iff_iff, rdy_iff, rdy_iff]
  exact ⟨fun x p hp => by rw [← h p (this p hp).1 (this p hp).2]; exact x p hp, fun x p hp => by rw [h p (this p hp).1 (this p hp).2]; exact x p hp⟩
theorem Alk.tail {k : Int} {ls : Lets} {a : Int} {u v : List Int} (h : Alk ls k (a :: u) (a :: v)) : Alk ls k u v := fun p h0 h1 => by
  have := h p h0 h1
  by_cases hp : p ∈ pl ls a
  · rw [at_cons_in hp, at_cons_in hp] at this
    exact (List.cons.inj this).2
  · rwa [at_cons_out hp, at_cons_out hp] at this
theorem Alk.erase {k : Int} {ls : Lets} (A : AlphaOk k ls) {u v : List Int} (h : Alk ls k u v) {a : Int} (ha : 0 ≤ a ∧ a < (ls.length : Int)) (r : My.rdy ls u a = true) : Alk ls k (u.erase a) (v.erase a) := by
  have r2 : My.rdy ls v a = true := by rw [← h.rdy A ha]; exact r
  refine Alk.tail (a := a) fun p h0 h1 => ?_
  rw [← rdy_at A ha r, ← rdy_at A ha r2]
  exact h p h0 h1
theorem Alk.head {k : Int} {ls : Lets} (A : AlphaOk k ls) {u v : List Int} {a : Int} (h : Alk ls k u (a :: v)) (ha : 0 ≤ a ∧ a < (ls.length : Int)) : My.rdy ls u a = true ∧ Alk ls k (u.erase a) v := by
  have r : My.rdy ls u a = true := by rw [h.rdy A ha]; exact rdy_first
  have := h.erase A ha r
  rw [List.erase_cons_head] at this
  exact ⟨r, this⟩
theorem swp_of_alk {k : Int} {ls : Lets} (A : AlphaOk k ls) : ∀ {v u w x : List Int}, WordOk ls u → WordOk ls v → Alk ls k u v → Swp ls w (x ++ u) → Swp ls w (x ++ v)
  | [], u, w, x, hu, hv, h, s => by rw [h.nil A hu] at s; exact s
  | a :: v, u, w, x, hu, hv, h, s => by
    have ha := hv a List.mem_cons_self
    obtain ⟨r, h2⟩ := h.head A ha
    obtain ⟨r1, r2, e1, n1, f1, x1⟩ := rdy_split A ha r
    have s2 : Swp ls w (x ++ a :: (r1 ++ r2)) := by
      rw [e1] at s
      exact s.trans1 f1
    rw [← x1] at s2
    have s3 : Swp ls w ((x ++ [a]) ++ u.erase a) := by simpa using s2
    have := swp_of_alk A hu.erase hv.tail h2 s3
    simpa using this
theorem Alk.len {k : Int} {ls : Lets} (A : AlphaOk k ls) {u v : List Int} (hu : WordOk ls u) (hv : WordOk ls v) (h : Alk ls k u v) : v.length = u.length :=
  (swp_of_alk A (x := []) hu hv h (.refl u)).word hu |>.2
/-! least forms -/
def nxt (ls : Lets) (r : List Int) : Option Nat := ((List.range ls.length).filter fun a : Nat => rdy ls r a).head?
def lfN (ls : Lets) : Nat → List Int → List Int
  | 0, _ => []
  | n + 1, r => match nxt ls r with
    | none => []
    | some a => (a : Int) :: lfN ls n (r.erase a)
def lf (ls : Lets) (w : List Int) : List Int := lfN ls w.length w
theorem nxt_some {ls : Lets} {r : List Int} (hr : WordOk ls r) (h : r ≠ []) : ∃ a : Nat, nxt ls r = some a ∧ a < ls.length ∧ rdy ls r a = true := by
  obtain ⟨b, r', rfl⟩ := List.exists_cons_of_ne_nil h
  have hb := hr b List.mem_cons_self
  obtain ⟨c, rfl⟩ := Int.eq_ofNat_of_zero_le hb.1
  have hc : c ∈ (List.range ls.length).filter fun a : Nat => rdy ls ((c : Int) :: r') a := List.mem_filter.mpr ⟨List.mem_range.mpr (by omega), rdy_first⟩
  cases e : nxt ls ((c : Int) :: r') with
  | none =>
    unfold nxt at e
    rw [List.head?_eq_none_iff] at e
    rw [e] at hc; cases hc
  | some a =>
    have hm := List.mem_of_mem_head? (by exact e : _ ∈ ((List.range ls.length).filter fun a : Nat => rdy ls ((c : Int) :: r') a).head?)
    obtain ⟨h1, h2⟩ := List.mem_filter.mp hm
    exact ⟨a, rfl, List.mem_range.mp h1, h2⟩
theorem lf_step {ls : Lets} {r : List Int} {a : Nat} (h : nxt ls r = some a) (hm : (a : Int) ∈ r) : lf ls r = (a : Int) :: lf ls (r.erase a) := by
  unfold lf
  obtain ⟨n, e⟩ : ∃ n, r.length = n + 1 := ⟨r.length - 1, by have := List.length_pos_of_mem hm; omega⟩
  have hl : (r.erase (a : Int)).length = n := by rw [List.length_erase_of_mem hm]; omega
  rw [e, hl]
  show (match nxt ls r with | none => [] | some a => (a : Int) :: lfN ls n (r.erase a)) = _
  rw [h]
/-! lists of swaps -/
end My
namespace My
/-! ### swaps counted -/
def tot : List Int → List Int → Nat
  | _, [] => 0
  | x, a :: v => x.idxOf a + tot (x.erase a) v
/-- how often the letter at e stands before e -/
def occ (u : List Int) (e : Nat) : Nat := (u.take e).count (u.getD e 0)
def num (u : List Int) : List (Int × Int) := (List.range u.length).map fun e => (u.getD e 0, (occ u e : Int))
def pk (u : List Int) : List Int → List Int → List Nat
  | _, [] => []
  | pre, a :: v => (num u).idxOf (a, (pre.count a : Int)) :: pk u (pre ++ [a]) v
/-- a run: each time one of what is left is taken -/
inductive Run : List Nat → List Nat → Nat → Prop where
  | nil : Run [] [] 0
  | cons {r1 r2 P e t} : Run (r1 ++ r2) P t → Run (r1 ++ e :: r2) (e :: P) (r1.length + t)
def inv : List Nat → Nat
  | [] => 0
  | e :: P => (P.filter fun p => decide (p < e)).length + inv P
theorem Run.ok {r P t} (h : Run r P t) : r.Pairwise (· < ·) → r.Perm P ∧ t = inv P := by
  induction h with
  | nil => exact fun _ => ⟨.refl _, rfl⟩
  | @cons r1 r2 P e t h ih =>
    intro hp
    have hs : List.Sublist (r1 ++ r2) (r1 ++ e :: r2) := List.Sublist.append_left (List.sublist_cons_self _ _) _
    obtain ⟨p1, p2⟩ := ih (hp.sublist hs)
    refine ⟨List.perm_middle.trans (.cons e p1), ?_⟩
    have hf : (P.filter fun p => decide (p < e)).length = r1.length := by
      rw [← (p1.filter _).length_eq, List.filter_append]
      obtain ⟨q1, q2, q3⟩ := List.pairwise_append.mp hp
      rw [List.filter_eq_self.mpr fun x hx => decide_eq_true (q3 x hx e List.mem_cons_self), List.filter_eq_nil_iff.mpr fun x hx => by
        have := (List.pairwise_cons.mp q2).1 x hx
        simp; omega]
      simp
    unfold inv
    rw [hf, p2]
end My
namespace My
/-! ### all orders of a word, found breadth first -/
def ins (a : Int) : List Int → List (List Int)
  | [] => [[a]]
  | b :: l => (a :: b :: l) :: (ins a l).map (b :: ·)
end My
namespace My
/-- the words of all places -/
def pws (ls : Lets) (k : Int) (wd : List Int) : List (List Int) := (List.range k.toNat).map fun p : Nat => at_ ls p wd
end My
namespace My
/-! ### queues -/
abbrev Qs := List (List Int)
def qat (Q : Qs) (p : Int) : List Int := Q.getD p.toNat []
/-- the letter comes next in the queue of each of its places -/
def rdyR (ls : Lets) (Q : Qs) (a : Int) : Bool := (pl ls a).all fun p => decide ((qat Q p).head? = some a)
theorem rdyR_iff {ls : Lets} {Q : Qs} {a : Int} : rdyR ls Q a = true ↔ ∀ p ∈ pl ls a, (qat Q p).head? = some a := by
  unfold rdyR; simp
def nxtR (ls : Lets) (Q : Qs) : Option Nat := ((List.range ls.length).filter fun a : Nat => rdyR ls Q a).head?
/-- the letter taken off -/
def mvQ (ls : Lets) (a : Int) (Q : Qs) : Qs := (List.range Q.length).map fun p : Nat => if (p : Int) ∈ pl ls a then (qat Q p).tail else qat Q p
def totQ (Q : Qs) : Nat := (Q.map List.length).sum
def tkN (ls : Lets) : Nat → Qs → List Int
  | 0, _ => []
  | n + 1, Q => match nxtR ls Q with
    | none => []
    | some a => (a : Int) :: tkN ls n (mvQ ls a Q)
theorem tkN_succ {ls : Lets} {n : Nat} {Q : Qs} : tkN ls (n + 1) Q = match nxtR ls Q with | none => [] | some a => (a : Int) :: tkN ls n (mvQ ls a Q) := rfl
/-- the letters that happen if always the first ready one does -/
def tk (ls : Lets) (Q : Qs) : List Int := tkN ls (totQ Q) Q
theorem mvQ_len {ls : Lets} {a : Int} {Q : Qs} : (mvQ ls a Q).length = Q.length := by unfold mvQ; simp
theorem qat_map {n : Nat} {f : Nat → List Int} {p : Nat} (h : p < n) : qat ((List.range n).map f) (p : Int) = f p := by
  unfold qat
  rw [Int.toNat_natCast, List.getD_eq_getElem?_getD, List.getElem?_map, List.getElem?_range h]; rfl
theorem qat_mv {ls : Lets} {a : Int} {Q : Qs} {p : Nat} (h : p < Q.length) : qat (mvQ ls a Q) (p : Int) = if (p : Int) ∈ pl ls a then (qat Q p).tail else qat Q p := by
  unfold mvQ
  rw [qat_map h]
theorem qs_eq {Q : Qs} : Q = (List.range Q.length).map fun p : Nat => qat Q p := by
  apply List.ext_getElem
  · simp
  · intro i h1 h2
    simp only [List.getElem_map, List.getElem_range]
    unfold qat
    rw [Int.toNat_natCast, List.getD_eq_getElem?_getD, List.getElem?_eq_getElem h1]; rfl
theorem qs_ext {Q R : Qs} (hl : Q.length = R.length) (h : ∀ p : Nat, p < Q.length → qat Q p = qat R p) : Q = R := by
  rw [qs_eq (Q := Q), qs_eq (Q := R), ← hl]
  exact List.map_congr_left fun p hp => h p (List.mem_range.mp hp)
theorem totQ_eq {Q : Qs} : totQ Q = ((List.range Q.length).map fun p : Nat => (qat Q p).length).sum := by
  unfold totQ
  conv => lhs; rw [qs_eq (Q := Q), List.map_map]
  rfl
theorem sum_le {l : List Nat} {f g : Nat → Nat} (h : ∀ x ∈ l, f x ≤ g x) : (l.map f).sum ≤ (l.map g).sum := by
  induction l with
  | nil => exact Nat.le_refl _
  | cons a l ih =>
    have := h a List.mem_cons_self
    have := ih fun x hx => h x (List.mem_cons_of_mem _ hx)
    simp only [List.map_cons, List.sum_cons]; omega
theorem sum_lt {l : List Nat} {f g : Nat → Nat} (h : ∀ x ∈ l, f x ≤ g x) {y : Nat} (hy : y ∈ l) (hlt : f y < g y) : (l.map f).sum < (l.map g).sum := by
  induction l with
  | nil => cases hy
  | cons a l ih =>
    have h1 := h a List.mem_cons_self
    have h2 := sum_le fun x hx => h x (List.mem_cons_of_mem _ hx)
    simp only [List.map_cons, List.sum_cons]
    rcases List.mem_cons.mp hy with rfl | hy
    · omega
    · have := ih (fun x hx => h x (List.mem_cons_of_mem _ hx)) hy; omega
theorem totQ_mv {k : Int} {ls : Lets} (A : AlphaOk k ls) {Q : Qs} (hQ : Q.length = k.toNat) {a : Int} (ha : 0 ≤ a ∧ a < (ls.length : Int)) (r : rdyR ls Q a = true) : totQ (mvQ ls a Q) < totQ Q := by
  obtain ⟨p, hp, p0, pk⟩ := A.some ha
  obtain ⟨n, rfl⟩ := Int.eq_ofNat_of_zero_le p0
  have hn : n < Q.length := by omega
  rw [totQ_eq, totQ_eq (Q := Q), mvQ_len]
  refine sum_lt (fun x hx => ?_) (List.mem_range.mpr hn) ?_
  · rw [qat_mv (List.mem_range.mp hx)]
    split
    · rw [List.length_tail]; omega
    · exact Nat.le_refl _
  · rw [qat_mv hn, if_pos hp, List.length_tail]
    have := rdyR_iff.mp r _ hp
    cases e : qat Q (n : Int) with
    | nil => rw [e] at this; cases this
    | cons b l => simp
theorem nxtR_some {ls : Lets} {Q : Qs} {a : Nat} (h : nxtR ls Q = some a) : a < ls.length ∧ rdyR ls Q a = true := by
  have hm := List.mem_of_mem_head? (by exact h : _ ∈ ((List.range ls.length).filter fun a : Nat => rdyR ls Q a).head?)
  obtain ⟨h1, h2⟩ := List.mem_filter.mp hm
  exact ⟨List.mem_range.mp h1, h2⟩
theorem tkN_any {k : Int} {ls : Lets} (A : AlphaOk k ls) : ∀ {n m : Nat} {Q : Qs}, Q.length = k.toNat → totQ Q ≤ n → totQ Q ≤ m → tkN ls n Q = tkN ls m Q
  | n, m, Q, hQ, h1, h2 => by
    cases e : nxtR ls Q with
    | none => cases n <;> cases m <;> simp [tkN, e]
    | some a =>
      obtain ⟨ha, r⟩ := nxtR_some e
      have hA : 0 ≤ (a : Int) ∧ (a : Int) < (ls.length : Int) := ⟨by omega, by omega⟩
      have := totQ_mv A hQ hA r
      obtain ⟨n, rfl⟩ : ∃ n', n = n' + 1 := ⟨n - 1, by omega⟩
      obtain ⟨m, rfl⟩ : ∃ m', m = m' + 1 := ⟨m - 1, by omega⟩
      rw [tkN_succ, tkN_succ, e]
      simp only
      rw [tkN_any A (n := n) (m := m) (by rw [mvQ_len]; exact hQ) (by omega) (by omega)]
theorem tk_none {ls : Lets} {Q : Qs} (h : nxtR ls Q = none) : tk ls Q = [] := by
  unfold tk
  cases totQ Q <;> simp [tkN, h]
theorem tk_some {k : Int} {ls : Lets} (A : AlphaOk k ls) {Q : Qs} (hQ : Q.length = k.toNat) {a : Nat} (h : nxtR ls Q = some a) : tk ls Q = (a : Int) :: tk ls (mvQ ls a Q) := by
  obtain ⟨ha, r⟩ := nxtR_some h
  have hlt := totQ_mv A hQ (a := (a : Int)) ⟨by omega, by omega⟩ r
  unfold tk
  obtain ⟨n, e⟩ : ∃ n', totQ Q = n' + 1 := ⟨totQ Q - 1, by omega⟩
  rw [e, tkN_succ, h]
  simp only
  rw [tkN_any A (n := n) (m := totQ (mvQ ls a Q)) (by rw [mvQ_len]; exact hQ) (by omega) (Nat.le_refl _)]
/-! heads -/
def rq (qs : Qs) (hs : List Int) : Qs := (List.range qs.length).map fun p : Nat => (qat qs p).drop (hs.getD p 0).toNat
def mvH (ls : Lets) (a : Int) (hs : List Int) : List Int := hs.zipIdx.map fun z => z.1 + if (z.2 : Int) ∈ pl ls a then 1 else 0
structure QOk (k : Int) (qs : Qs) (hs : List Int) : Prop where
  ql : qs.length = k.toNat
  hl : hs.length = k.toNat
  h0 : ∀ x ∈ hs, 0 ≤ x
theorem rq_len {qs : Qs} {hs : List Int} : (rq qs hs).length = qs.length := by unfold rq; simp
theorem qat_rq {qs : Qs} {hs : List Int} {p : Nat} (h : p < qs.length) : qat (rq qs hs) (p : Int) = (qat qs p).drop (hs.getD p 0).toNat := qat_map h
theorem mvH_get {ls : Lets} {a : Int} {hs : List Int} {p : Nat} (h : p < hs.length) : (mvH ls a hs).getD p 0 = hs.getD p 0 + if (p : Int) ∈ pl ls a then 1 else 0 := by
  unfold mvH
  rw [List.getD_eq_getElem?_getD, List.getElem?_map, List.getElem?_zipIdx, List.getElem?_eq_getElem h, List.getD_eq_getElem?_getD, List.getElem?_eq_getElem h]
  simp
theorem getD_mem {hs : List Int} {p : Nat} (h : p < hs.length) : hs.getD p 0 ∈ hs := by
  rw [List.getD_eq_getElem?_getD, List.getElem?_eq_getElem h]; exact List.getElem_mem h
theorem QOk.mv {k : Int} {qs : Qs} {hs : List Int} (h : QOk k qs hs) {ls : Lets} {a : Int} : QOk k qs (mvH ls a hs) := by
  refine ⟨h.ql, by unfold mvH; rw [List.length_map, List.length_zipIdx]; exact h.hl, fun x hx => ?_⟩
  unfold mvH at hx
  obtain ⟨z, hz, rfl⟩ := List.mem_map.mp hx
  have := h.h0 z.1 (by
    have := List.mem_zipIdx hz
    rw [this.2.2]; exact List.getElem_mem _)
  split <;> omega
theorem rq_mv {k : Int} {qs : Qs} {hs : List Int} (h : QOk k qs hs) {ls : Lets} {a : Int} : rq qs (mvH ls a hs) = mvQ ls a (rq qs hs) := by
  have hl := h.hl; have ql := h.ql
  refine qs_ext (by rw [mvQ_len, rq_len, rq_len]) fun p hp => ?_
  rw [rq_len] at hp
  rw [qat_rq hp, qat_mv (by rw [rq_len]; exact hp), qat_rq hp, mvH_get (by omega)]
  have := h.h0 _ (getD_mem (hs := hs) (p := p) (by omega))
  split
  · rw [show (hs.getD p 0 + 1).toNat = (hs.getD p 0).toNat + 1 by omega, List.tail_drop]
  · rw [Int.add_zero]
theorem rq_zero {k : Int} {qs : Qs} (h : qs.length = k.toNat) : QOk k qs (List.replicate k.toNat 0) ∧ rq qs (List.replicate k.toNat 0) = qs := by
  refine ⟨⟨h, by simp, fun x hx => by rw [List.eq_of_mem_replicate hx]; exact Int.le_refl _⟩, ?_⟩
  refine qs_ext (by rw [rq_len]) fun p hp => ?_
  rw [rq_len] at hp
  rw [qat_rq hp, List.getD_eq_getElem?_getD, List.getElem?_replicate]
  split <;> rfl
/-! queues of a word -/
def QW (ls : Lets) (k : Int) (Q : Qs) (r : List Int) : Prop := Q.length = k.toNat ∧ ∀ p : Nat, (p : Int) < k → qat Q p = at_ ls p r
theorem QW.rdy {k : Int} {ls : Lets} (A : AlphaOk k ls) {Q : Qs} {r : List Int} (h : QW ls k Q r) {a : Int} (ha : 0 ≤ a ∧ a < (ls.length : Int)) : rdyR ls Q a = rdy ls r a := by
  have pk := (A.pl_ok ha).2
  rw [Bool.eq_iff_iff, rdyR_iff, rdy_iff]
  have key : ∀ p ∈ pl ls a, qat Q p = at_ ls p r := fun p hp => by
    obtain ⟨h0, h1⟩ := pk p hp
    obtain ⟨n, rfl⟩ := Int.eq_ofNat_of_zero_le h0
    exact h.2 n h1
  exact ⟨fun x p hp => by rw [← key p hp]; exact x p hp, fun x p hp => by rw [key p hp]; exact x p hp⟩
theorem QW.nxt {k : Int} {ls : Lets} (A : AlphaOk k ls) {Q : Qs} {r : List Int} (h : QW ls k Q r) : nxtR ls Q = nxt ls r := by
  unfold nxtR My.nxt
  congr 1
  apply List.filter_congr
  intro a ha
  have := List.mem_range.mp ha
  exact h.rdy A ⟨by omega, by omega⟩
theorem QW.mv {k : Int} {ls : Lets} (A : AlphaOk k ls) {Q : Qs} {r : List Int} (h : QW ls k Q r) {a : Int} (ha : 0 ≤ a ∧ a < (ls.length : Int)) (rd : My.rdy ls r a = true) : QW ls k (mvQ ls a Q) (r.erase a) := by
  refine ⟨by rw [mvQ_len]; exact h.1, fun p hp => ?_⟩
  have hq := h.1
  rw [qat_mv (by omega), h.2 p hp, rdy_at A ha rd p]
  split
  · rename_i hm; rw [at_cons_in hm]; rfl
  · rename_i hm; rw [at_cons_out hm]
theorem QW.tk {k : Int} {ls : Lets} (A : AlphaOk k ls) : ∀ {n : Nat} {Q : Qs} {r : List Int}, r.length = n → WordOk ls r → QW ls k Q r → tk ls Q = lf ls r
  | 0, Q, r, hn, hr, h => by
    have : r = [] := List.length_eq_zero_iff.mp hn
    subst this
    cases e : nxtR ls Q with
    | none => rw [tk_none e]; rfl
    | some a =>
      obtain ⟨ha, rd⟩ := nxtR_some e
      have hA : 0 ≤ (a : Int) ∧ (a : Int) < (ls.length : Int) := ⟨by omega, by omega⟩
      rw [h.rdy A hA] at rd
      have := rdy_mem A hA rd
      cases this
  | n + 1, Q, r, hn, hr, h => by
    obtain ⟨a, e, ha, rd⟩ := nxt_some hr (fun z => by subst z; cases hn)
    have hA : 0 ≤ (a : Int) ∧ (a : Int) < (ls.length : Int) := ⟨by omega, by omega⟩
    have hm := rdy_mem A hA rd
    rw [tk_some A h.1 (by rw [h.nxt A]; exact e), lf_step e hm]
    rw [QW.tk A (n := n) (by rw [List.length_erase_of_mem hm]; omega) hr.erase (h.mv A hA rd)]
/-- at most as many letters of a place as it has in the word -/
theorem at_le {ls : Lets} {p : Int} {w : List Int} : (at_ ls p w).length ≤ w.length := List.length_filter_le _ _
end My
namespace My
/-! ### runs of queues in any order -/
structure Sch (k : Int) (ls : Lets) (qs : Qs) (f hs : List Int) : Prop where
  q : QOk k qs hs
  wf : WordOk ls f
  hp : ∀ p : Nat, (p : Int) < k → hs.getD p 0 = ((at_ ls p f).length : Int) ∧ at_ ls p f ++ qat (rq qs hs) p = qat qs p
  tot : f.length + totQ (rq qs hs) ≤ totQ qs
  of : ∀ w, WordOk ls w → QW ls k qs w → ∃ r, WordOk ls r ∧ QW ls k (rq qs hs) r
theorem Sch.start {k : Int} {ls : Lets} {qs : Qs} (h : qs.length = k.toNat) : Sch k ls qs [] (List.replicate k.toNat 0) := by
  obtain ⟨z1, z2⟩ := rq_zero (qs := qs) h
  refine ⟨z1, fun x hx => (by cases hx), fun p hp => ⟨?_, by rw [z2]; rfl⟩, by rw [z2]; simp, fun w hw hq => ⟨w, hw, by rw [z2]; exact hq⟩⟩
  rw [List.getD_eq_getElem?_getD, List.getElem?_replicate]
  split <;> rfl
theorem Sch.step {k : Int} {ls : Lets} (A : AlphaOk k ls) {qs : Qs} {f hs : List Int} (h : Sch k ls qs f hs) {a : Int} (ha : 0 ≤ a ∧ a < (ls.length : Int)) (rd : rdyR ls (rq qs hs) a = true) : Sch k ls qs (f ++ [a]) (mvH ls a hs) := by
  have hl := h.q.hl; have ql := h.q.ql
  have mv := rq_mv h.q (ls := ls) (a := a)
  have lt := totQ_mv A (Q := rq qs hs) (by rw [rq_len]; exact ql) ha rd
  refine ⟨h.q.mv, fun x hx => ?_, fun p hp => ?_, ?_, fun w hw hq => ?_⟩
  · rcases List.mem_append.mp hx with hx | hx
    · exact h.wf x hx
    · rw [List.mem_singleton.mp hx]; exact ha
  · obtain ⟨h1, h2⟩ := h.hp p hp
    have hpn : p < qs.length := by omega
    rw [mvH_get (by omega), mv, qat_mv (by rw [rq_len]; exact hpn), at_append]
    by_cases hm : (p : Int) ∈ pl ls a
    · rw [if_pos hm, if_pos hm, at_cons_in hm]
      have hd := rdyR_iff.mp rd _ hm
      cases e : qat (rq qs hs) (p : Int) with
      | nil => rw [e] at hd; cases hd
      | cons b t =>
        rw [e] at hd h2
        have hb : b = a := by simpa using hd
        subst hb
        refine ⟨?_, ?_⟩
        · rw [h1, show at_ ls (p : Int) [] = [] from rfl, List.length_append]; simp
        · rw [← h2]
          simp only [show at_ ls (p : Int) [] = [] from rfl, List.tail_cons, List.append_assoc, List.cons_append, List.nil_append]
    · rw [if_neg hm, if_neg hm, at_cons_out hm, Int.add_zero, show at_ ls (p : Int) [] = [] from rfl, List.append_nil]
      exact ⟨h1, h2⟩
  · rw [mv, List.length_append]; simp only [List.length_singleton]
    have := h.tot
    omega
  · obtain ⟨r, hr, qr⟩ := h.of w hw hq
    rw [qr.rdy A ha] at rd
    exact ⟨r.erase a, hr.erase, by rw [mv]; exact qr.mv A ha rd⟩
end My
namespace My
/-! ### prefixes up to order -/
/-- what is left of a word behind the letters of another one -/
def dif (w u : List Int) : List Int := u.foldl (fun w a => w.erase a) w
theorem dif_cons {w u : List Int} {a : Int} : dif w (a :: u) = dif (w.erase a) u := rfl
def Pre (ls : Lets) (k : Int) (u w : List Int) : Prop := ∀ p : Int, 0 ≤ p → p < k → at_ ls p u <+: at_ ls p w
theorem Pre.head {k : Int} {ls : Lets} (A : AlphaOk k ls) {a : Int} {u w : List Int} (ha : 0 ≤ a ∧ a < (ls.length : Int)) (h : Pre ls k (a :: u) w) : rdy ls w a = true ∧ Pre ls k u (w.erase a) := by
  have pk := (A.pl_ok ha).2
  have r : rdy ls w a = true := rdy_iff.mpr fun p hp => by
    obtain ⟨t, e⟩ := h p (pk p hp).1 (pk p hp).2
    rw [at_cons_in hp] at e
    rw [← e]; rfl
  refine ⟨r, fun p h0 h1 => ?_⟩
  have q := h p h0 h1
  rw [rdy_at A ha r p] at q
  by_cases hp : p ∈ pl ls a
  · rw [at_cons_in hp, at_cons_in hp] at q
    exact (List.cons_prefix_cons.mp q).2
  · rw [at_cons_out hp, at_cons_out hp] at q
    exact q
theorem pre_dif {k : Int} {ls : Lets} (A : AlphaOk k ls) : ∀ {u w : List Int}, WordOk ls u → WordOk ls w → Pre ls k u w → WordOk ls (dif w u) ∧ (dif w u).length + u.length = w.length ∧ ∀ p : Int, 0 ≤ p → p < k → at_ ls p u ++ at_ ls p (dif w u) = at_ ls p w
  | [], w, _, hw, _ => ⟨hw, rfl, fun p _ _ => rfl⟩
  | a :: u, w, hu, hw, h => by
    have ha := hu a List.mem_cons_self
    obtain ⟨r, h2⟩ := h.head A ha
    obtain ⟨i1, i2, i3⟩ := pre_dif A hu.tail hw.erase h2
    have hm := rdy_mem A ha r
    have := List.length_erase_of_mem hm
    have := List.length_pos_of_mem hm
    refine ⟨i1, by rw [dif_cons, List.length_cons]; omega, fun p h0 h1 => ?_⟩
    rw [dif_cons, rdy_at A ha r p]
    by_cases hp : p ∈ pl ls a
    · rw [at_cons_in hp, at_cons_in hp, List.cons_append, i3 p h0 h1]
    · rw [at_cons_out hp, at_cons_out hp, i3 p h0 h1]
theorem Pre.rdy {k : Int} {ls : Lets} (A : AlphaOk k ls) {u w : List Int} (h : Pre ls k u w) {a : Int} (ha : 0 ≤ a ∧ a < (ls.length : Int)) (r : My.rdy ls u a = true) : My.rdy ls w a = true := rdy_iff.mpr fun p hp => by
  obtain ⟨h0, h1⟩ := (A.pl_ok ha).2 p hp
  have := rdy_iff.mp r p hp
  obtain ⟨t, e⟩ := h p h0 h1
  rw [← e]
  cases z : at_ ls p u with
  | nil => rw [z] at this; cases this
  | cons b l => rw [z] at this; exact this
/-! the greatest common prefix -/
/-! without, by counts -/
theorem getD_set {ts : List Int} {i j : Nat} {x : Int} (h : i < ts.length) : (ts.set i x).getD j 0 = if i = j then x else ts.getD j 0 := by
  rw [List.getD_eq_getElem?_getD, List.getElem?_set, List.getD_eq_getElem?_getD]
  by_cases e : i = j
  · subst e; simp [h]
  · simp [e]
end My
namespace My
/-! ### cuts -/
/-! the cut of a prefix -/
/-! the greatest common prefix is the greatest -/
theorem Pre.len {k : Int} {ls : Lets} (A : AlphaOk k ls) {u w : List Int} (hu : WordOk ls u) (hw : WordOk ls w) (h : Pre ls k u w) : u.length ≤ w.length := by
  have := (pre_dif A hu hw h).2.1
  omega
end My
namespace My
/-! ### what places know of letters -/
theorem dep_app {ls : Lets} {w v : List Int} {j k : Nat} (hj : j < w.length) (hk : k < w.length) : dep ls (w ++ v) j k = dep ls w j k := by
  unfold dep
  rw [List.getD_eq_getElem?_getD, List.getElem?_append_left hj, List.getD_eq_getElem?_getD, List.getElem?_append_left hk, List.getD_eq_getElem?_getD, List.getD_eq_getElem?_getD]
theorem bel_app {ls : Lets} {w v : List Int} : ∀ {k e : Nat}, k < w.length → (Bel (dep ls (w ++ v)) e k ↔ Bel (dep ls w) e k) := by
  intro k
  induction k using Nat.strongRecOn with
  | ind k ih =>
    intro e hk
    rw [Bel.last, Bel.last (d := dep ls w)]
    constructor
    · rintro (h | ⟨j, h1, h2, h3⟩)
      · exact .inl h
      · exact .inr ⟨j, h1, by rw [dep_app (by omega) hk] at h2; exact h2, (ih j h1 (by omega)).mp h3⟩
    · rintro (h | ⟨j, h1, h2, h3⟩)
      · exact .inl h
      · exact .inr ⟨j, h1, by rw [dep_app (by omega) hk]; exact h2, (ih j h1 (by omega)).mpr h3⟩
theorem getD_app {w v : List Int} {e : Nat} (h : e < w.length) : (w ++ v).getD e 0 = w.getD e 0 := by
  rw [List.getD_eq_getElem?_getD, List.getElem?_append_left h, List.getD_eq_getElem?_getD]
theorem getD_last {w : List Int} {x : Int} : (w ++ [x]).getD w.length 0 = x := by simp [List.getD_eq_getElem?_getD]
theorem view_out {ls : Lets} {w : List Int} {x p : Int} (hp : p ∉ pl ls x) {e : Nat} (he : e ≤ w.length) : inView ls (w ++ [x]) p e = true ↔ e < w.length ∧ inView ls w p e = true := by
  rw [inView_iff, inView_iff]
  constructor
  · rintro ⟨k, h1, h2, h3⟩
    rw [List.length_append, List.length_singleton] at h1
    have hk : k < w.length := by
      rcases Nat.lt_or_ge k w.length with h | h
      · exact h
      · have : k = w.length := by omega
        subst this
        rw [getD_last] at h2
        exact absurd h2 hp
    have := h3.le
    exact ⟨by omega, k, hk, by rw [getD_app hk] at h2; exact h2, (bel_app hk).mp h3⟩
  · rintro ⟨h0, k, h1, h2, h3⟩
    exact ⟨k, by rw [List.length_append]; omega, by rw [getD_app h1]; exact h2, (bel_app h1).mpr h3⟩
theorem view_in {ls : Lets} {w : List Int} {x p : Int} (hp : p ∈ pl ls x) {e : Nat} (he : e < w.length) : inView ls (w ++ [x]) p e = true ↔ ∃ q ∈ pl ls x, inView ls w q e = true := by
  rw [inView_iff]
  constructor
  · rintro ⟨k, h1, h2, h3⟩
    rw [List.length_append, List.length_singleton] at h1
    rcases Nat.lt_or_ge k w.length with hk | h
    · exact ⟨p, hp, inView_iff.mpr ⟨k, hk, by rw [getD_app hk] at h2; exact h2, (bel_app hk).mp h3⟩⟩
    · have : k = w.length := by omega
      subst this
      rcases Bel.last.mp h3 with z | ⟨j, j1, j2, j3⟩
      · omega
      · obtain ⟨q, q1, q2⟩ := dep_iff.mp j2
        rw [getD_last] at q2
        rw [getD_app j1] at q1
        exact ⟨q, q2, inView_iff.mpr ⟨j, j1, q1, (bel_app j1).mp j3⟩⟩
  · rintro ⟨q, hq, h⟩
    obtain ⟨j, j1, j2, j3⟩ := inView_iff.mp h
    refine ⟨w.length, by rw [List.length_append]; simp, by rw [getD_last]; exact hp, .step ((bel_app j1).mpr j3) j1 (dep_iff.mpr ⟨q, by rw [getD_app j1]; exact j2, by rw [getD_last]; exact hq⟩)⟩
theorem view_last {ls : Lets} {w : List Int} {x p : Int} (hp : p ∈ pl ls x) : inView ls (w ++ [x]) p w.length = true :=
  inView_iff.mpr ⟨w.length, by rw [List.length_append]; simp, by rw [getD_last]; exact hp, .refl _⟩
/-! clocks -/
end My
namespace My
open Hq
/-! ### facts about words, by views -/
inductive Fact where
  | cnt (l t : Int)
  | neg (f : Fact)
  | both (f g : Fact)
  | kn (p : Int) (f : Fact)
  | com (f : Fact)
def Fact.dep : Fact → Nat
  | .cnt _ _ => 1
  | .neg f => f.dep + 1
  | .both f g => max f.dep g.dep + 1
  | .kn _ f => f.dep + 1
  | .com f => f.dep + 1
/-- its places are there -/
def Fact.ok (k : Int) : Fact → Prop
  | .cnt _ _ => True
  | .neg f => f.ok k
  | .both f g => f.ok k ∧ g.ok k
  | .kn p f => (0 ≤ p ∧ p < k) ∧ f.ok k
  | .com f => f.ok k
end My
namespace My
open Hq
/-! ### the greatest event of a kind; claims about events -/
open Classical in
noncomputable def mx (P : Nat → Prop) : Nat → Int
  | 0 => -1
  | n + 1 => if P n then (n : Int) else mx P n
theorem mx_rng {P : Nat → Prop} : ∀ {n : Nat}, -1 ≤ mx P n ∧ mx P n < (n : Int)
  | 0 => by simp [mx]
  | n + 1 => by
    have := mx_rng (P := P) (n := n)
    unfold mx
    split <;> omega
theorem mx_yes {P : Nat → Prop} {n : Nat} (h : P n) : mx P (n + 1) = (n : Int) := by unfold mx; rw [if_pos h]
theorem mx_skip {P : Nat → Prop} {n : Nat} (h : ¬ P n) : mx P (n + 1) = mx P n := by
  conv => lhs; unfold mx
  rw [if_neg h]
theorem mx_ge {P : Nat → Prop} : ∀ {n e : Nat}, e < n → P e → (e : Int) ≤ mx P n
  | n + 1, e, h, p => by
    unfold mx
    split
    · omega
    · rcases Nat.lt_succ_iff_lt_or_eq.mp h with h | rfl
      · exact mx_ge h p
      · contradiction
theorem mx_in {P : Nat → Prop} : ∀ {n e : Nat}, mx P n = (e : Int) → e < n ∧ P e
  | 0, e, h => by unfold mx at h; omega
  | n + 1, e, h => by
    unfold mx at h
    split at h
    · have : n = e := by omega
      subst this
      exact ⟨by omega, by assumption⟩
    · have := mx_in h
      exact ⟨by omega, this.2⟩
theorem mx_of {P : Nat → Prop} {n e : Nat} (h1 : e < n) (h2 : P e) (h3 : ∀ e', e' < n → P e' → e' ≤ e) : mx P n = (e : Int) := by
  have a := mx_ge h1 h2
  obtain ⟨m, hm⟩ := Int.eq_ofNat_of_zero_le (show 0 ≤ mx P n by omega)
  obtain ⟨b, c⟩ := mx_in hm
  have := h3 m b c
  omega
theorem mx_no {P : Nat → Prop} {n : Nat} (h : ∀ e, e < n → ¬ P e) : mx P n = -1 := by
  have := mx_rng (P := P) (n := n)
  rcases (by omega : mx P n < 0 ∨ 0 ≤ mx P n) with z | z
  · omega
  · obtain ⟨m, hm⟩ := Int.eq_ofNat_of_zero_le z
    obtain ⟨b, c⟩ := mx_in hm
    exact absurd c (h m b)
theorem mx_cong {P Q : Nat → Prop} : ∀ {n : Nat}, (∀ e, e < n → (P e ↔ Q e)) → mx P n = mx Q n
  | 0, _ => rfl
  | n + 1, h => by
    unfold mx
    rw [mx_cong (n := n) fun e he => h e (by omega)]
    have := h n (by omega)
    split <;> split <;> first | rfl | (exfalso; simp_all)
theorem mx_or {ι : Type} {P : ι → Nat → Prop} {l : List ι} {n : Nat} {m : Int} (h1 : m ∈ l.map fun i => mx (P i) n) (h2 : ∀ y ∈ l.map (fun i => mx (P i) n), y ≤ m) : mx (fun e => ∃ i ∈ l, P i e) n = m := by
  obtain ⟨i, hi, rfl⟩ := List.mem_map.mp h1
  have hr := mx_rng (P := P i) (n := n)
  have up : ∀ j ∈ l, ∀ e, e < n → P j e → (e : Int) ≤ mx (P i) n := fun j hj e he hp => by
    have := mx_ge he hp
    have := h2 _ (List.mem_map.mpr ⟨j, hj, rfl⟩)
    omega
  rcases (by omega : mx (P i) n < 0 ∨ 0 ≤ mx (P i) n) with z | z
  · rw [mx_no]
    · omega
    · rintro e he ⟨j, hj, hp⟩
      have := up j hj e he hp
      omega
  · obtain ⟨m, hm⟩ := Int.eq_ofNat_of_zero_le z
    obtain ⟨b, c⟩ := mx_in hm
    rw [hm]
    refine mx_of b ⟨i, hi, c⟩ ?_
    rintro e he ⟨j, hj, hp⟩
    have := up j hj e he hp
    omega
theorem Bel.trans {d : Nat → Nat → Bool} {i j k : Nat} (h : Bel d i j) (h2 : Bel d j k) : Bel d i k := by
  induction h2 with
  | refl => exact h
  | step _ l e ih => exact .step ih l e
theorem dep_comm {ls : Lets} {w : List Int} {j k : Nat} : dep ls w j k = dep ls w k j := by unfold dep; rw [free_comm]
/-- the newest event at q strictly below event k -/
noncomputable def nwk (ls : Lets) (w : List Int) (q : Int) (k : Nat) : Int := mx (fun e => Bel (dep ls w) e k ∧ q ∈ pl ls (w.getD e 0)) k
/-- the newest event at q in the view of p -/
noncomputable def vw (ls : Lets) (w : List Int) (q p : Int) : Int := mx (fun e => inView ls w p e = true ∧ q ∈ pl ls (w.getD e 0)) w.length
theorem nwk_view {ls : Lets} {u v : List Int} {x q : Int} : nwk ls (u ++ x :: v) q u.length = mx (fun e => ∃ p ∈ pl ls x, inView ls u p e = true ∧ q ∈ pl ls (u.getD e 0)) u.length := by
  have e0 : u ++ x :: v = (u ++ [x]) ++ v := by simp
  refine mx_cong fun e he => ?_
  rw [show (u ++ x :: v).getD e 0 = u.getD e 0 from getD_app he]
  have : Bel (dep ls (u ++ x :: v)) e u.length ↔ ∃ p ∈ pl ls x, inView ls u p e = true := by
    rw [e0, bel_app (by simp)]
    constructor
    · intro h
      rcases Bel.last.mp h with z | ⟨j, j1, j2, j3⟩
      · omega
      · obtain ⟨p, p1, p2⟩ := dep_iff.mp j2
        rw [getD_last] at p2
        exact ⟨p, p2, inView_iff.mpr ⟨j, j1, by rw [getD_app j1] at p1; exact p1, (bel_app j1).mp j3⟩⟩
    · rintro ⟨p, hp, h⟩
      obtain ⟨j, j1, j2, j3⟩ := inView_iff.mp h
      exact .step ((bel_app j1).mpr j3) j1 (dep_iff.mpr ⟨p, by rw [getD_app j1]; exact j2, by rw [getD_last]; exact hp⟩)
  rw [this]
  constructor
  · rintro ⟨⟨p, h1, h2⟩, h3⟩; exact ⟨p, h1, h2, h3⟩
  · rintro ⟨p, h1, h2, h3⟩; exact ⟨⟨p, h1, h2⟩, h3⟩
theorem nwk_max {ls : Lets} {u v : List Int} {x q m : Int} (h1 : m ∈ (pl ls x).map fun p => vw ls u q p) (h2 : ∀ y ∈ (pl ls x).map (fun p => vw ls u q p), y ≤ m) : nwk ls (u ++ x :: v) q u.length = m := by
  rw [nwk_view]
  exact mx_or h1 h2
theorem vw_out {ls : Lets} {u : List Int} {x q p : Int} (hp : p ∉ pl ls x) : vw ls (u ++ [x]) q p = vw ls u q p := by
  unfold vw
  rw [List.length_append, List.length_singleton]
  rw [mx_skip fun z => by have := (view_out hp (Nat.le_refl _)).mp z.1; omega]
  refine mx_cong fun e he => ?_
  rw [getD_app he, view_out hp (by omega)]
  exact ⟨fun z => ⟨z.1.2, z.2⟩, fun z => ⟨⟨he, z.1⟩, z.2⟩⟩
theorem vw_in {ls : Lets} {u v : List Int} {x q p : Int} (hp : p ∈ pl ls x) : vw ls (u ++ [x]) q p = if q ∈ pl ls x then (u.length : Int) else nwk ls (u ++ x :: v) q u.length := by
  unfold vw
  rw [List.length_append, List.length_singleton]
  have vl := view_last hp (w := u)
  by_cases c : q ∈ pl ls x
  · rw [mx_yes ⟨vl, by rw [getD_last]; exact c⟩, if_pos c]
  · rw [mx_skip fun z => c (by have := z.2; rw [getD_last] at this; exact this), if_neg c, nwk_view]
    refine mx_cong fun e he => ?_
    rw [getD_app he, view_in hp he]
    constructor
    · rintro ⟨⟨p, h1, h2⟩, h3⟩; exact ⟨p, h1, h2, h3⟩
    · rintro ⟨p, h1, h2, h3⟩; exact ⟨⟨p, h1, h2⟩, h3⟩
inductive Clm where
  | letter (l : Int)
  | neg (c : Clm)
  | once (c : Clm)
  | known (p : Int) (c : Clm)
  | both (c d : Clm)
  | chain (c d : Clm)
deriving DecidableEq
def Clm.dep : Clm → Nat
  | .letter _ => 1
  | .neg c => c.dep + 1
  | .once c => c.dep + 1
  | .known _ c => c.dep + 1
  | .both c d => max c.dep d.dep + 1
  | .chain c d => max c.dep d.dep + 1
def Clm.ok (k : Int) : Clm → Prop
  | .letter _ => True
  | .neg c => c.ok k
  | .once c => c.ok k
  | .known p c => (0 ≤ p ∧ p < k) ∧ c.ok k
  | .both c d => c.ok k ∧ d.ok k
  | .chain c d => c.ok k ∧ d.ok k
inductive ChW (ls : Lets) (w : List Int) (f g : Nat → Prop) : Nat → Prop
  | now {k} : f k → ChW ls w f g k
  | prev {k j : Nat} {p : Int} : g k → p ∈ pl ls (w.getD k 0) → nwk ls w p k = (j : Int) → ChW ls w f g j → ChW ls w f g k
/-- words of which events answer one another -/
structure Iso (ls : Lets) (w w' : List Int) (π σ : Nat → Nat) : Prop where
  len : w'.length = w.length
  a : ∀ k, k < w.length → π k < w.length ∧ σ (π k) = k ∧ w'.getD (π k) 0 = w.getD k 0 ∧ occ w' (π k) = occ w k
  b : ∀ k, k < w.length → σ k < w.length ∧ π (σ k) = k
  o : ∀ j k, j < k → k < w.length → dep ls w j k = true → π j < π k
theorem Iso.dep {ls w w' π σ} (I : Iso ls w w' π σ) {j k : Nat} (hj : j < w.length) (hk : k < w.length) : dep ls w' (π j) (π k) = dep ls w j k := by
  unfold My.dep; rw [(I.a j hj).2.2.1, (I.a k hk).2.2.1]
theorem Iso.symm {ls w w' π σ} (I : Iso ls w w' π σ) : Iso ls w' w σ π where
  len := I.len.symm
  a := fun k hk => by
    rw [I.len] at hk ⊢
    obtain ⟨h1, h2⟩ := I.b k hk
    obtain ⟨_, _, h3, h4⟩ := I.a _ h1
    rw [h2] at h3 h4
    exact ⟨h1, h2, h3.symm, h4.symm⟩
  b := fun k hk => by
    rw [I.len] at hk ⊢
    obtain ⟨h1, h2, _⟩ := I.a k hk
    exact ⟨h1, h2⟩
  o := fun j k hjk hk hd => by
    rw [I.len] at hk
    obtain ⟨j1, j2⟩ := I.b j (by omega)
    obtain ⟨k1, k2⟩ := I.b k hk
    rcases Nat.lt_trichotomy (σ j) (σ k) with h | h | h
    · exact h
    · have := congrArg π h; omega
    · have := I.o _ _ h j1 (by
        rw [← I.dep k1 j1, j2, k2, dep_comm]; exact hd)
      omega
theorem Iso.bel {ls w w' π σ} (I : Iso ls w w' π σ) {j k : Nat} (hk : k < w.length) (h : Bel (My.dep ls w) j k) : Bel (My.dep ls w') (π j) (π k) := by
  induction h with
  | refl => exact .refl _
  | @step j k b l d ih => exact .step (ih (by omega)) (I.o _ _ l hk d) (by rw [I.dep (by omega) hk]; exact d)
theorem Iso.nwk {ls w w' π σ} (I : Iso ls w w' π σ) {j k : Nat} {q : Int} (hk : k < w.length) (h : nwk ls w q k = (j : Int)) : nwk ls w' q (π k) = (π j : Nat) := by
  obtain ⟨h1, h2, h3⟩ := mx_in h
  obtain ⟨ka, kb, kc, _⟩ := I.a k hk
  obtain ⟨ja, jb, jc, _⟩ := I.a j (by omega)
  have bj := I.bel hk h2
  refine mx_of ?_ ⟨bj, by rw [jc]; exact h3⟩ ?_
  · rcases Nat.eq_or_lt_of_le bj.le with e | e
    · rw [e] at jb; omega
    · exact e
  · rintro e he ⟨b, hq⟩
    have el : e < w.length := by omega
    have b2 := I.symm.bel (by rw [I.len]; exact ka) b
    rw [kb] at b2
    obtain ⟨e1, e2⟩ := I.b e el
    obtain ⟨_, _, ec, _⟩ := I.a (σ e) e1
    rw [e2] at ec
    have lt : σ e < k := by
      rcases Nat.eq_or_lt_of_le b2.le with z | z
      · rw [z] at e2; omega
      · exact z
    have := mx_ge (P := fun e => Bel (My.dep ls w) e k ∧ q ∈ pl ls (w.getD e 0)) lt ⟨b2, by rw [← ec]; exact hq⟩
    have h' : mx (fun e => Bel (My.dep ls w) e k ∧ q ∈ pl ls (w.getD e 0)) k = (j : Int) := h
    rw [h'] at this
    rcases Nat.eq_or_lt_of_le (show σ e ≤ j by omega) with z | z
    · rw [z] at e2; omega
    · have := I.o _ _ z (by omega) (dep_iff.mpr ⟨q, by rw [← ec]; exact hq, h3⟩)
      omega
theorem Iso.chain {ls w w' π σ} (I : Iso ls w w' π σ) {f g f' g' : Nat → Prop} (hf : ∀ k, k < w.length → f k → f' (π k)) (hg : ∀ k, k < w.length → g k → g' (π k)) {k : Nat} (hk : k < w.length) (h : ChW ls w f g k) : ChW ls w' f' g' (π k) := by
  induction h with
  | now h => exact .now (hf _ hk h)
  | @prev k j p h1 h2 h3 _ ih => exact .prev (hg _ hk h1) (by rw [(I.a k hk).2.2.1]; exact h2) (I.nwk hk h3) (ih (by have := (mx_in h3).1; omega))
theorem Iso.refl {ls : Lets} {w : List Int} : Iso ls w w id id := ⟨rfl, fun k hk => ⟨hk, rfl, rfl, rfl⟩, fun k hk => ⟨hk, rfl⟩, fun _ _ h _ _ => h⟩
end My
namespace My
open Hq PySem
/-! ### the parts of a claim -/
inductive Kd | letter | not | once | known | both | chain
deriving DecidableEq
def Kd.s : Kd → Str
  | .letter => "letter" | .not => "not" | .once => "once" | .known => "known" | .both => "both" | .chain => "chain"
abbrev Prt := Kd × List Int
def Clm.sz : Clm → Nat
  | .letter _ => 1
  | .neg c => c.sz + 1
  | .once c => c.sz + 1
  | .known _ c => c.sz + 1
  | .both c d => c.sz + d.sz + 1
  | .chain c d => c.sz + d.sz + 1
/-- what a part says, told by claims for the numbers -/
def PtOk (cs : List Clm) (i : Nat) (p : Prt) : Clm → Prop
  | .letter l => p = (.letter, [l])
  | .neg c => ∃ j : Nat, j < i ∧ cs[j]? = some c ∧ p = (.not, [(j : Int)])
  | .once c => ∃ j : Nat, j < i ∧ cs[j]? = some c ∧ p = (.once, [(j : Int)])
  | .known q c => ∃ j : Nat, j < i ∧ cs[j]? = some c ∧ p = (.known, [q, (j : Int)])
  | .both c d => ∃ j m : Nat, j < i ∧ m < i ∧ cs[j]? = some c ∧ cs[m]? = some d ∧ p = (.both, [(j : Int), (m : Int)])
  | .chain c d => ∃ j m : Nat, j < i ∧ m < i ∧ cs[j]? = some c ∧ cs[m]? = some d ∧ p = (.chain, [(j : Int), (m : Int)])
theorem PtOk.fn {cs : List Clm} {i i' : Nat} {p : Prt} {c c' : Clm} (h : PtOk cs i p c) (h' : PtOk cs i' p c') : c = c' := by
  cases c <;> cases c' <;> simp only [PtOk] at h h'
  all_goals (first
    | (obtain ⟨j, m, _, _, h1, h2, rfl⟩ := h; obtain ⟨j', m', _, _, h1', h2', e⟩ := h'; simp at e; done)
    | (obtain ⟨j, _, h1, rfl⟩ := h; obtain ⟨j', m', _, _, h1', h2', e⟩ := h'; simp at e; done)
    | (obtain ⟨j, m, _, _, h1, h2, rfl⟩ := h; obtain ⟨j', _, h1', e⟩ := h'; simp at e; done)
    | (obtain ⟨j, _, h1, rfl⟩ := h; obtain ⟨j', _, h1', e⟩ := h'; simp at e; done)
    | (subst h; obtain ⟨j', m', _, _, h1', h2', e⟩ := h'; simp at e; done)
    | (subst h; obtain ⟨j', _, h1', e⟩ := h'; simp at e; done)
    | (subst h'; obtain ⟨j', m', _, _, h1', h2', e⟩ := h; simp at e; done)
    | (subst h'; obtain ⟨j', _, h1', e⟩ := h; simp at e; done)
    | (subst h; simp at h'; rw [h'])
    | (obtain ⟨j, m, _, _, h1, h2, rfl⟩ := h; obtain ⟨j', m', _, _, h1', h2', e⟩ := h'; simp at e; obtain ⟨e1, e2⟩ := e; have e1 : j = j' := by omega
       have e2 : m = m' := by omega
       subst e1; subst e2; rw [h1] at h1'; rw [h2] at h2'; cases h1'; cases h2'; rfl)
    | (obtain ⟨j, _, h1, rfl⟩ := h; obtain ⟨j', _, h1', e⟩ := h'; simp at e; have e1 : j = j' := by omega
       subst e1; rw [h1] at h1'; cases h1'; rfl)
    | (obtain ⟨j, _, h1, rfl⟩ := h; obtain ⟨j', _, h1', e⟩ := h'; simp at e; obtain ⟨e0, e⟩ := e; have e1 : j = j' := by omega
       subst e1; subst e0; rw [h1] at h1'; cases h1'; rfl))
theorem PtOk.mono {cs cs' : List Clm} {i : Nat} {p : Prt} {c : Clm} (h : PtOk cs i p c) (hp : cs <+: cs') : PtOk cs' i p c := by
  have up : ∀ {j : Nat} {c : Clm}, cs[j]? = some c → cs'[j]? = some c := fun {j c} h => by
    obtain ⟨t, rfl⟩ := hp
    rw [List.getElem?_append_left (List.getElem?_eq_some_iff.mp h).1]; exact h
  cases c with
  | letter l => exact h
  | neg c => obtain ⟨j, a, b, e⟩ := h; exact ⟨j, a, up b, e⟩
  | once c => obtain ⟨j, a, b, e⟩ := h; exact ⟨j, a, up b, e⟩
  | known q c => obtain ⟨j, a, b, e⟩ := h; exact ⟨j, a, up b, e⟩
  | both c d => obtain ⟨j, m, a, a', b, b', e⟩ := h; exact ⟨j, m, a, a', up b, up b', e⟩
  | chain c d => obtain ⟨j, m, a, a', b, b', e⟩ := h; exact ⟨j, m, a, a', up b, up b', e⟩
end My
namespace My
open Hq
/-! ### gossip: newest events of newest events, and labels that are used again -/
section
variable {ls : Lets} {w : List Int}
/-- downward closed sets of events -/
structure Dn (ls : Lets) (w : List Int) (D : Nat → Prop) : Prop where
  dn : ∀ i j, D j → Bel (dep ls w) i j → D i
  lt : ∀ j, D j → j < w.length
/-- the newest event at q in a set -/
noncomputable def nd (ls : Lets) (w : List Int) (D : Nat → Prop) (q : Int) : Int := mx (fun e => D e ∧ q ∈ pl ls (w.getD e 0)) w.length
theorem nd_in {D : Nat → Prop} {q : Int} {j : Nat} (h : nd ls w D q = (j : Int)) : D j ∧ q ∈ pl ls (w.getD j 0) ∧ j < w.length := ⟨(mx_in h).2.1, (mx_in h).2.2, (mx_in h).1⟩
theorem nd_ge {D : Nat → Prop} (hD : Dn ls w D) {q : Int} {j : Nat} (h : D j) (hq : q ∈ pl ls (w.getD j 0)) : (j : Int) ≤ nd ls w D q := mx_ge (hD.lt j h) ⟨h, hq⟩
theorem nd_nat {D : Nat → Prop} (hD : Dn ls w D) {q : Int} {j : Nat} (h : D j) (hq : q ∈ pl ls (w.getD j 0)) : ∃ m : Nat, nd ls w D q = (m : Int) ∧ j ≤ m := by
  have := nd_ge hD h hq
  obtain ⟨m, hm⟩ := Int.eq_ofNat_of_zero_le (show 0 ≤ nd ls w D q by omega)
  exact ⟨m, hm, by omega⟩
theorem nd_rng {D : Nat → Prop} {q : Int} : -1 ≤ nd ls w D q ∧ nd ls w D q < (w.length : Int) := mx_rng
theorem same_bel {q : Int} {i j : Nat} (hi : q ∈ pl ls (w.getD i 0)) (hj : q ∈ pl ls (w.getD j 0)) (h : i ≤ j) : Bel (dep ls w) i j := by
  rcases Nat.eq_or_lt_of_le h with rfl | h
  · exact .refl _
  · exact .step (.refl _) h (dep_iff.mpr ⟨q, hi, hj⟩)
theorem dn_bel {g : Nat} (hg : g < w.length) : Dn ls w fun e => Bel (dep ls w) e g := ⟨fun i j h b => b.trans h, fun j h => by have := h.le; omega⟩
theorem dn_view {p : Int} : Dn ls w fun e => inView ls w p e = true := ⟨fun i j h b => by
  obtain ⟨k, hk, hp, h⟩ := inView_iff.mp h
  exact inView_iff.mpr ⟨k, hk, hp, b.trans h⟩, fun j h => by
  obtain ⟨k, hk, hp, h⟩ := inView_iff.mp h
  have := h.le; omega⟩
/-- what leads out of a closed set passes one of its newest events -/
theorem nd_cross {D : Nat → Prop} (hD : Dn ls w D) {f g : Nat} (b : Bel (dep ls w) f g) (hf : D f) : D g ∨ ∃ (j : Int) (h : Nat), nd ls w D j = (h : Int) ∧ Bel (dep ls w) f h ∧ Bel (dep ls w) h g := by
  induction b with
  | refl => exact .inl hf
  | @step j k b l d ih =>
    rcases ih with ih | ⟨q, h, h1, h2, h3⟩
    · by_cases c : D k
      · exact .inl c
      · obtain ⟨q, q1, q2⟩ := dep_iff.mp d
        obtain ⟨m, hm, jm⟩ := nd_nat hD ih q1
        obtain ⟨dm, qm, _⟩ := nd_in hm
        refine .inr ⟨q, m, hm, b.trans (same_bel q1 qm jm), ?_⟩
        rcases Nat.lt_or_ge m k with h | h
        · exact same_bel qm q2 (by omega)
        · exact absurd (hD.dn k m dm (same_bel q2 qm h)) c
    · exact .inr ⟨q, h, h1, h2, .step h3 l d⟩
/-- the newest event at q below an event, or it -/
noncomputable def nb (ls : Lets) (w : List Int) (q m : Int) : Int := if m < 0 then -1 else nd ls w (fun e => Bel (dep ls w) e m.toNat) q
theorem nb_nat {q : Int} {m : Nat} : nb ls w q (m : Int) = nd ls w (fun e => Bel (dep ls w) e m) q := by
  unfold nb
  rw [if_neg (by omega), Int.toNat_natCast]
theorem nb_neg {q m : Int} (h : m < 0) : nb ls w q m = -1 := by unfold nb; rw [if_pos h]
theorem nb_rng {q m : Int} : -1 ≤ nb ls w q m ∧ nb ls w q m < (w.length : Int) ∨ (nb ls w q m = -1) := by
  unfold nb
  split
  · exact .inr rfl
  · exact .inl nd_rng
/-- it is told by what it is -/
theorem nd_is {D : Nat → Prop} (hD : Dn ls w D) {q : Int} {j : Nat} (h1 : D j) (h2 : q ∈ pl ls (w.getD j 0)) (h3 : ∀ i, D i → q ∈ pl ls (w.getD i 0) → i ≤ j) : nd ls w D q = (j : Int) := mx_of (hD.lt j h1) ⟨h1, h2⟩ fun e _ h => h3 e h.1 h.2
theorem nb_self {q : Int} {m : Nat} (hm : m < w.length) (h : q ∈ pl ls (w.getD m 0)) : nb ls w q (m : Int) = (m : Int) := by
  rw [nb_nat]
  exact nd_is (dn_bel hm) (.refl _) h fun i b _ => b.le
/-- between: if f is the newest at q of a set and h of the set is above f, it is the newest below h -/
theorem nb_mid {D : Nat → Prop} (hD : Dn ls w D) {q : Int} {f h : Nat} (hf : nd ls w D q = (f : Int)) (hh : D h) (b : Bel (dep ls w) f h) : nb ls w q (h : Int) = (f : Int) := by
  obtain ⟨df, qf, _⟩ := nd_in hf
  rw [nb_nat]
  refine nd_is (dn_bel (hD.lt h hh)) b qf fun i bi qi => ?_
  have := nd_ge hD (hD.dn i h hh bi) qi
  omega
/-- a view is what lies below its own last event -/
theorem view_own {p : Int} {e : Nat} (h : inView ls w p e = true) : ∃ g : Nat, vw ls w p p = (g : Int) ∧ Bel (dep ls w) e g ∧ inView ls w p g = true ∧ p ∈ pl ls (w.getD g 0) ∧ g < w.length := by
  obtain ⟨k, hk, hp, b⟩ := inView_iff.mp h
  have vk : inView ls w p k = true := inView_iff.mpr ⟨k, hk, hp, .refl _⟩
  obtain ⟨g, hg, kg⟩ := nd_nat (D := fun e => inView ls w p e = true) dn_view vk hp
  obtain ⟨d, q, l⟩ := nd_in hg
  exact ⟨g, hg, b.trans (same_bel hp q kg), d, q, l⟩
theorem own_view {p : Int} {g e : Nat} (hg : vw ls w p p = (g : Int)) (b : Bel (dep ls w) e g) : inView ls w p e = true := dn_view.dn e g (nd_in hg).1 b
/-- every event of a place is in its view -/
theorem at_view {p : Int} {e : Nat} (he : e < w.length) (h : p ∈ pl ls (w.getD e 0)) : inView ls w p e = true := inView_iff.mpr ⟨e, he, h, .refl _⟩
/-- the last event of a place, in another closed set, is its newest there -/
theorem own_newest {p : Int} {D : Nat → Prop} (hD : Dn ls w D) {g : Nat} (hg : vw ls w p p = (g : Int)) (h : D g) : nd ls w D p = (g : Int) := by
  obtain ⟨_, q, _⟩ := nd_in (D := fun e => inView ls w p e = true) hg
  refine nd_is hD h q fun i di qi => ?_
  have := nd_ge (D := fun e => inView ls w p e = true) dn_view (at_view (hD.lt i di) qi) qi
  have hg : nd ls w (fun e => inView ls w p e = true) p = (g : Int) := hg
  omega
/-- two steps away from a place -/
def Sec (ls : Lets) (w : List Int) (e : Nat) : Prop := ∃ x q r : Int, nb ls w r (vw ls w q x) = (e : Int)
theorem sec_prim {q x : Int} {e : Nat} (h : vw ls w q x = (e : Int)) : Sec ls w e := ⟨x, q, q, by
  obtain ⟨_, hq, hl⟩ := nd_in (D := fun e => inView ls w x e = true) h
  rw [h, nb_self hl hq]⟩
/-- an event two steps away that is in a view is three steps away there -/
theorem ter {x q r p : Int} {f : Nat} (h : nb ls w r (vw ls w q x) = (f : Int)) (hf : inView ls w p f = true) : ∃ q' r' s' : Int, nb ls w s' (nb ls w r' (vw ls w q' p)) = (f : Int) := by
  have gn : 0 ≤ vw ls w q x := Int.not_lt.mp fun c => by rw [nb_neg c] at h; omega
  obtain ⟨g, hg⟩ := Int.eq_ofNat_of_zero_le gn
  rw [hg, nb_nat] at h
  obtain ⟨vg, qg, lg⟩ := nd_in (D := fun e => inView ls w x e = true) hg
  obtain ⟨bf, rf, lf⟩ := nd_in h
  rcases nd_cross (D := fun e => inView ls w p e = true) dn_view bf hf with vpg | ⟨j, h0, hj, b1, b2⟩
  · obtain ⟨gx, e1, e2, e3, e4, e5⟩ := view_own vg
    rcases nd_cross (D := fun e => inView ls w p e = true) dn_view e2 vpg with vgx | ⟨j, h0, hj, b1, b2⟩
    · have := own_newest (D := fun e => inView ls w p e = true) dn_view e1 vgx
      refine ⟨x, q, r, ?_⟩
      rw [show vw ls w x p = (gx : Int) from this, nb_mid (D := fun e => inView ls w x e = true) dn_view hg e3 e2, nb_nat]
      exact h
    · refine ⟨j, q, r, ?_⟩
      rw [show vw ls w j p = (h0 : Int) from hj, nb_mid (D := fun e => inView ls w x e = true) dn_view hg (own_view e1 b2) b1, nb_nat]
      exact h
  · refine ⟨j, r, r, ?_⟩
    rw [show vw ls w j p = (h0 : Int) from hj, nb_mid (D := fun e => Bel (dep ls w) e g) (dn_bel lg) h b2 b1, nb_self lf rf]
end
end My
namespace My
/-! ### lines of places, heads, least cuts -/
def lineQ (ls : Lets) (wd : List Int) (p : Int) : List Int := ((List.range wd.length).filter fun e : Nat => decide (p ∈ pl ls (wd.getD e 0))).map fun e : Nat => (e : Int)
def unm (cs : List (List Int)) (l : List Int) : Int := match (List.range l.length).find? fun p => !decide (l.getD p 0 ∈ cs.getD p []) with
  | some p => (p : Int)
  | none => -1
/-! heads of a cut -/
def lastL (qs : List (List Int)) (hs : List Int) : List Int := (qs.zip hs).map fun z => if z.2 > 0 then z.1.getD (z.2 - 1).toNat 0 else -1
/-- what the heads hs take -/
def tkn2 (ls : Lets) (wd hs : List Int) (p : Nat) : List Int := (lineQ ls wd p).take (hs.getD p 0).toNat
def Full (ls : Lets) (wd hs : List Int) (e : Int) : Prop := ∀ q : Nat, (q : Int) ∈ pl ls (wd.getD e.toNat 0) → e ∈ tkn2 ls wd hs q
theorem tkn2_mono {ls : Lets} {wd hs : List Int} {p q : Nat} {h : Nat} (hp : p < hs.length) (hh : hs.getD p 0 = (h : Int)) {x : Int} (hx : x ∈ tkn2 ls wd hs q) : x ∈ tkn2 ls wd (hs.set p ((h : Int) + 1)) q := by
  unfold tkn2 at hx ⊢
  rw [getD_set hp]
  by_cases e : p = q
  · subst e
    rw [if_pos rfl]
    rw [hh, Int.toNat_natCast] at hx
    rw [show ((h : Int) + 1).toNat = h + 1 by omega]
    exact (List.take_sublist_take_left (by omega)).subset hx
  · rw [if_neg e]; exact hx
theorem Full.mono {ls : Lets} {wd hs : List Int} {p : Nat} {h : Nat} (hp : p < hs.length) (hh : hs.getD p 0 = (h : Int)) {x : Int} (f : Full ls wd hs x) : Full ls wd (hs.set p ((h : Int) + 1)) x := fun q hq => tkn2_mono hp hh (f q hq)
/-! the last letters -/
/-! least cuts in which the conditions hold -/
end My
namespace My
open Hq
/-! ### beginnings of orders, told by their heads; the least of them that avoids some heads -/
def hdF (ls : Lets) (k : Int) (u : List Int) : List Int := u.foldl (fun h a => mvH ls a h) (List.replicate k.toNat 0)
def Bg (ls : Lets) (k : Int) (wd u : List Int) : Prop := WordOk ls u ∧ ∃ r, WordOk ls r ∧ Alk ls k wd (u ++ r)
/-! #### lists of pairs with each first part once -/
/-! #### the rounds -/
def bad (cs qs : List (List Int)) (h : List Int) : Bool := decide (unm cs (lastL qs h) < 0)
def Av (ls : Lets) (k : Int) (wd : List Int) (cs : List (List Int)) (u : List Int) : Prop := ∀ m, m ≤ u.length → bad cs (pws ls k wd) (hdF ls k (u.take m)) = false
structure Dl (ls : Lets) (k : Int) (wd : List Int) (cs : List (List Int)) (r : Nat) (Pr : List Int → Int → Prop) (L : List (List Int × List Int)) : Prop where
  nd : (L.map (·.1)).Nodup
  ok : ∀ z ∈ L, z.2.length = r + 1 ∧ Bg ls k wd z.2 ∧ hdF ls k z.2 = z.1 ∧ Av ls k wd cs z.2
  le : ∀ (o : List Int) (a : Int), Pr o a → bad cs (pws ls k wd) (mvH ls a (hdF ls k o)) = false → ∃ z ∈ L, z.1 = mvH ls a (hdF ls k o) ∧ z.2 ≤ o ++ [a]
theorem Dl.mono {ls k wd cs r Pr Pr' L} (h : Dl ls k wd cs r Pr L) (hp : ∀ o a, Pr' o a → Pr o a) : Dl ls k wd cs r Pr' L := ⟨h.nd, h.ok, fun o a p => h.le o a (hp o a p)⟩
/-! #### last letters -/
end My
namespace My
open Hq
/-! ### labels of events, tables of labels -/
section
variable {ls : Lets} {w lam : List Int}
theorem list_max : ∀ {l : List Int}, l ≠ [] → ∃ m ∈ l, ∀ y ∈ l, y ≤ m
  | [a], _ => ⟨a, List.mem_cons_self, fun y hy => by rw [List.mem_singleton.mp hy]; omega⟩
  | a :: b :: l, _ => by
    obtain ⟨m, hm, ub⟩ := list_max (l := b :: l) (by simp)
    rcases Int.lt_or_le a m with h | h
    · exact ⟨m, List.mem_cons_of_mem _ hm, fun y hy => (List.mem_cons.mp hy).elim (fun e => by omega) (ub y)⟩
    · exact ⟨a, List.mem_cons_self, fun y hy => (List.mem_cons.mp hy).elim (fun e => by omega) fun h' => by have := ub y h'; omega⟩
/-- old events know what they knew -/
theorem nb_old {q a : Int} {m : Nat} (hm : m < w.length) : nb ls (w ++ [a]) q (m : Int) = nb ls w q (m : Int) := by
  rw [nb_nat, nb_nat]
  unfold nd
  rw [List.length_append, List.length_singleton, mx_skip fun z => by have := z.1.le; omega]
  exact mx_cong fun e he => by
    show Bel (dep ls (w ++ [a])) e m ∧ _ ↔ Bel (dep ls w) e m ∧ _
    rw [bel_app hm, getD_app he]
theorem nb_oldI {q a m : Int} (hm : m < (w.length : Int)) : nb ls (w ++ [a]) q m = nb ls w q m := by
  rcases Int.lt_or_le m 0 with h | h
  · rw [nb_neg h, nb_neg h]
  · obtain ⟨n, rfl⟩ := Int.eq_ofNat_of_zero_le h
    exact nb_old (by omega)
/-- the newest at q of the places of a letter -/
noncomputable def mq (ls : Lets) (w : List Int) (a q : Int) : Int := nwk ls (w ++ [a]) q w.length
theorem mq_is {a q m : Int} (h1 : m ∈ (pl ls a).map fun y => vw ls w q y) (h2 : ∀ y ∈ (pl ls a).map (fun y => vw ls w q y), y ≤ m) : mq ls w a q = m := nwk_max (v := []) h1 h2
theorem mq_ex {a q : Int} (h : pl ls a ≠ []) : ∃ y ∈ pl ls a, mq ls w a q = vw ls w q y ∧ ∀ y' ∈ pl ls a, vw ls w q y' ≤ vw ls w q y := by
  obtain ⟨m, hm, ub⟩ := list_max (l := (pl ls a).map fun y => vw ls w q y) (by simpa using h)
  obtain ⟨y, hy, rfl⟩ := List.mem_map.mp hm
  exact ⟨y, hy, mq_is hm ub, fun y' hy' => ub _ (List.mem_map.mpr ⟨y', hy', rfl⟩)⟩
theorem mq_lt {a q : Int} (h : pl ls a ≠ []) : mq ls w a q < (w.length : Int) := by
  obtain ⟨y, _, e, _⟩ := mq_ex (w := w) (q := q) h
  rw [e]
  exact (nd_rng (D := fun e => inView ls w y e = true)).2
/-- the new event -/
theorem nb_new {a q : Int} : nb ls (w ++ [a]) q (w.length : Int) = if q ∈ pl ls a then (w.length : Int) else mq ls w a q := by
  have hl : w.length < (w ++ [a]).length := by simp
  by_cases c : q ∈ pl ls a
  · rw [if_pos c]
    exact nb_self hl (by rw [getD_last]; exact c)
  · rw [if_neg c, nb_nat]
    unfold nd
    rw [List.length_append, List.length_singleton, mx_skip fun z => c (by have := z.2; rw [getD_last] at this; exact this)]
    rfl
theorem vw_new {a q x : Int} (hx : x ∈ pl ls a) : vw ls (w ++ [a]) q x = nb ls (w ++ [a]) q (w.length : Int) := by
  rw [nb_new]
  exact vw_in (v := []) hx
theorem vw_lt {q x : Int} : vw ls w q x < (w.length : Int) := (nd_rng (D := fun e => inView ls w x e = true)).2
/-- what is two steps away behind a new event -/
theorem sec_step {k : Int} (A : AlphaOk k ls) {a : Int} (ha : 0 ≤ a ∧ a < (ls.length : Int)) {f : Nat} (h : Sec ls (w ++ [a]) f) (hf : f ≠ w.length) :
    (f < w.length ∧ Sec ls w f) ∧ ((w.getD f 0 = a) → ∃ p ∈ pl ls a, ∃ q r s : Int, nb ls w s (nb ls w r (vw ls w q p)) = (f : Int)) := by
  have pne := (A.pl_ok ha).1
  obtain ⟨x, q, r, h⟩ := h
  have lf : f < (w ++ [a]).length := by
    rcases nb_rng (ls := ls) (w := w ++ [a]) (q := r) (m := vw ls (w ++ [a]) q x) with z | z <;> omega
  have lf : f < w.length := by rw [List.length_append, List.length_singleton] at lf; omega
  have prim : ∀ {q y : Int}, y ∈ pl ls a → vw ls w q y = (f : Int) → (f < w.length ∧ Sec ls w f) ∧ ((w.getD f 0 = a) → ∃ p ∈ pl ls a, ∃ q r s : Int, nb ls w s (nb ls w r (vw ls w q p)) = (f : Int)) := fun {q y} hy e => by
    obtain ⟨_, qf, _⟩ := nd_in (D := fun e => inView ls w y e = true) e
    exact ⟨⟨lf, sec_prim e⟩, fun _ => ⟨y, hy, q, q, q, by rw [e, nb_self lf qf, nb_self lf qf]⟩⟩
  by_cases hx : x ∈ pl ls a
  · rw [vw_new hx, nb_new] at h
    by_cases hq : q ∈ pl ls a
    · rw [if_pos hq, nb_new] at h
      by_cases hr : r ∈ pl ls a
      · rw [if_pos hr] at h; omega
      · rw [if_neg hr] at h
        obtain ⟨y, hy, e, _⟩ := mq_ex (w := w) (q := r) pne
        rw [e] at h
        exact prim hy h
    · rw [if_neg hq, nb_oldI (mq_lt pne)] at h
      obtain ⟨y, hy, e, _⟩ := mq_ex (w := w) (q := q) pne
      rw [e] at h
      refine ⟨⟨lf, ⟨y, q, r, h⟩⟩, fun _ => ⟨y, hy, q, q, r, ?_⟩⟩
      have gn : 0 ≤ vw ls w q y := Int.not_lt.mp fun c => by rw [nb_neg c] at h; omega
      obtain ⟨g, hg⟩ := Int.eq_ofNat_of_zero_le gn
      obtain ⟨_, qg, lg⟩ := nd_in (D := fun e => inView ls w y e = true) hg
      rw [hg, nb_self lg qg, ← hg]
      exact h
  · rw [vw_out hx, nb_oldI vw_lt] at h
    refine ⟨⟨lf, ⟨x, q, r, h⟩⟩, fun e => ?_⟩
    obtain ⟨p, hp⟩ : ∃ p, p ∈ pl ls a := List.exists_mem_of_ne_nil _ pne
    obtain ⟨q', r', s', z⟩ := ter h (at_view lf (by rw [e]; exact hp))
    exact ⟨p, hp, q', r', s', z⟩
/-- a label, 0 for none -/
def lb (lam : List Int) (m : Int) : Int := if m < 0 then 0 else lam.getD m.toNat 0
theorem lb_nat {m : Nat} : lb lam (m : Int) = lam.getD m 0 := by unfold lb; rw [if_neg (by omega), Int.toNat_natCast]
/-- the labels are told apart where it matters -/
structure LbOk (ls : Lets) (w lam : List Int) : Prop where
  len : lam.length = w.length
  res : ∀ e, e < w.length → 1 ≤ lam.getD e 0 ∧ (lam.getD e 0 - 1) % (ls.length : Int) = w.getD e 0
  uq : ∀ e f, Sec ls w e → Sec ls w f → lam.getD e 0 = lam.getD f 0 → e = f
/-- an entry of a table -/
noncomputable def ent (ls : Lets) (w lam : List Int) (q r s p : Int) : Int := lb lam (nb ls w s (nb ls w r (vw ls w q p)))
theorem LbOk.step {k : Int} (A : AlphaOk k ls) {a c : Int} (ha : 0 ≤ a ∧ a < (ls.length : Int)) (hw : WordOk ls w) (L : LbOk ls w lam) (h1 : 1 ≤ c) (hc : (c - 1) % (ls.length : Int) = a)
    (fresh : ∀ p ∈ pl ls a, ∀ q r s : Int, (0 ≤ q ∧ q < k) → (0 ≤ r ∧ r < k) → (0 ≤ s ∧ s < k) → ent ls w lam q r s p ≠ c) : LbOk ls (w ++ [a]) (lam ++ [c]) := by
  have gl : (lam ++ [c]).getD w.length 0 = c := by rw [← L.len]; exact getD_last
  have old : ∀ {e : Nat}, e < w.length → (lam ++ [c]).getD e 0 = lam.getD e 0 := fun {e} h => getD_app (by rw [L.len]; exact h)
  have inr : ∀ {q : Int} {e : Nat}, e < w.length → q ∈ pl ls (w.getD e 0) → 0 ≤ q ∧ q < k := fun {q e} he hq => by
    have hx := hw (w.getD e 0) (by rw [List.getD_eq_getElem?_getD, List.getElem?_eq_getElem he]; exact List.getElem_mem he)
    exact (A.ok _ (pl_mem hx.1 hx.2)).2.2 q hq
  have new : ∀ {f : Nat}, Sec ls (w ++ [a]) f → f ≠ w.length → lam.getD f 0 ≠ c := fun {f} hf ne e => by
    obtain ⟨⟨lf, _⟩, z⟩ := sec_step A ha hf ne
    have := (L.res f lf).2
    rw [e, hc] at this
    obtain ⟨p, hp, q, r, s, h⟩ := z this.symm
    -- the three places are there
    have g2 : 0 ≤ nb ls w r (vw ls w q p) := Int.not_lt.mp fun c => by rw [nb_neg c] at h; omega
    obtain ⟨m2, e2⟩ := Int.eq_ofNat_of_zero_le g2
    have g1 : 0 ≤ vw ls w q p := Int.not_lt.mp fun c => by rw [nb_neg c] at e2; omega
    obtain ⟨m1, e1⟩ := Int.eq_ofNat_of_zero_le g1
    have i1 := nd_in (D := fun e => inView ls w p e = true) e1
    have e2' := e2
    rw [e1, nb_nat] at e2'
    have i2 := nd_in e2'
    have h' := h
    rw [e2, nb_nat] at h'
    have i3 := nd_in h'
    refine fresh p hp q r s (inr i1.2.2 i1.2.1) (inr i2.2.2 i2.2.1) (inr i3.2.2 i3.2.1) ?_
    unfold ent
    rw [h, lb_nat, e]
  refine ⟨by rw [List.length_append, List.length_append, L.len]; rfl, fun e he => ?_, fun e f he hf eq => ?_⟩
  · rw [List.length_append, List.length_singleton] at he
    rcases Nat.lt_succ_iff_lt_or_eq.mp he with h | rfl
    · rw [old h, getD_app h]; exact L.res e h
    · rw [gl, getD_last]; exact ⟨h1, hc⟩
  · by_cases ce : e = w.length
    · by_cases cf : f = w.length
      · rw [ce, cf]
      · obtain ⟨⟨lf, _⟩, _⟩ := sec_step A ha hf cf
        rw [ce, gl, old lf] at eq
        exact absurd eq.symm (new hf cf)
    · obtain ⟨⟨le, se⟩, _⟩ := sec_step A ha he ce
      by_cases cf : f = w.length
      · rw [cf, gl, old le] at eq
        exact absurd eq (new he ce)
      · obtain ⟨⟨lf, sf⟩, _⟩ := sec_step A ha hf cf
        rw [old le, old lf] at eq
        exact L.uq e f se sf eq
end
end My
namespace My
open Hq PySem
/-! ### claims as data; what monitors keep -/
theorem eqv_c1 {x y : PyData} : PyData.eqvAll [x] [y] = PyData.eqv x y := by show (PyData.eqv x y && true) = _; rw [Bool.and_true]
theorem eqv_c2 {x y x2 y2 : PyData} : PyData.eqvAll [x, x2] [y, y2] = (PyData.eqv x y && PyData.eqv x2 y2) := by show (PyData.eqv x y && (PyData.eqv x2 y2 && true)) = _; rw [Bool.and_true]
theorem lay_1 {x : PyData} (h : PyData.canLay0 x = true) : PyData.canLayAll0 [x] = true := by show (PyData.canLay0 x && true) = true; rw [h]; rfl
theorem lay_2 {x y : PyData} (h : PyData.canLay0 x = true) (h2 : PyData.canLay0 y = true) : PyData.canLayAll0 [x, y] = true := by show (PyData.canLay0 x && (PyData.canLay0 y && true)) = true; rw [h, h2]; rfl
end My
namespace My
open Hq PySem
/-! ### expressions and their texts -/
abbrev wN : List Nat := [110, 111, 110, 101]
abbrev wE : List Nat := [101, 109, 112, 116, 121]
abbrev wL : List Nat := [108, 101, 116, 116, 101, 114]
abbrev wS : List Nat := [115, 116, 97, 114]
abbrev wA : List Nat := [101, 105, 116, 104, 101, 114]
abbrev wJ : List Nat := [106, 111, 105, 110]
inductive Xp where
  | letter (n : Nat) | none | empty | star (e : Xp) | either (a b : Xp) | join (a b : Xp)
  deriving DecidableEq
namespace Xp
def sz : Xp → Nat
  | letter _ => 1 | none => 1 | empty => 1 | star e => e.sz + 1 | either a b => a.sz + b.sz + 1 | join a b => a.sz + b.sz + 1
def dep : Xp → Nat
  | letter _ => 1 | none => 1 | empty => 1 | star e => e.dep + 1 | either a b => max a.dep b.dep + 1 | join a b => max a.dep b.dep + 1
/-- its letters are single digits -/
def ok : Xp → Prop
  | letter n => n ≤ 9 | none => True | empty => True | star e => e.ok | either a b => a.ok ∧ b.ok | join a b => a.ok ∧ b.ok
end Xp
def kdX : Xp → List Nat
  | .letter _ => wL | .none => wN | .empty => wE | .star _ => wS | .either _ _ => wA | .join _ _ => wJ
def dX : Xp → PyData
  | .letter n => .tuple [dS wL, .int (n : Int)]
  | .none => .tuple [dS wN]
  | .empty => .tuple [dS wE]
  | .star e => .tuple [dS wS, dX e]
  | .either a b => .tuple [dS wA, dX a, dX b]
  | .join a b => .tuple [dS wJ, dX a, dX b]
theorem dX_kd (e : Xp) : ∃ as, dX e = .tuple (dS (kdX e) :: as) := by cases e <;> exact ⟨_, rfl⟩
theorem kd_W {e : Xp} (h : kdX e = wN ∨ kdX e = wE) : e = .none ∨ e = .empty := by cases e <;> simp [kdX] at h ⊢
theorem kd_L {e : Xp} (h : kdX e = wL) : ∃ n, e = .letter n := by cases e <;> simp [kdX] at h ⊢
theorem kd_S {e : Xp} (h : kdX e = wS) : ∃ f, e = .star f := by cases e <;> simp [kdX] at h ⊢
theorem kd_R {e : Xp} (h1 : ¬(kdX e = wN ∨ kdX e = wE)) (h2 : kdX e ≠ wL) (h3 : kdX e ≠ wS) : (∃ a b, e = .either a b) ∨ ∃ a b, e = .join a b := by cases e <;> simp [kdX] at h1 h2 h3 ⊢
theorem eqv_hdS {a b : List Nat} {xs ys : List PyData} : PyData.eqv (.tuple (dS a :: xs)) (.tuple (dS b :: ys)) = (decide (a = b) && PyData.eqvAll xs ys) := by
  show (PyData.eqv (dS a) (dS b) && PyData.eqvAll xs ys) = _
  rw [eqv_S]
theorem dX_eq : ∀ (c c' : Xp), PyData.eqv (dX c) (dX c') = decide (c = c') := by
  intro c
  induction c with
  | letter l => intro c'; cases c' <;> simp only [dX, eqv_hdS, eqv_c1, enc_int.eq] <;> simp <;> omega
  | none => intro c'; cases c' <;> simp only [dX, eqv_hdS] <;> first | rfl | simp
  | empty => intro c'; cases c' <;> simp only [dX, eqv_hdS] <;> first | rfl | simp
  | star c ih => intro c'; cases c' <;> simp only [dX, eqv_hdS, eqv_c1, ih] <;> simp
  | either c d ih ih2 => intro c'; cases c' <;> simp only [dX, eqv_hdS, eqv_c2, ih, ih2] <;> simp
  | join c d ih ih2 => intro c'; cases c' <;> simp only [dX, eqv_hdS, eqv_c2, ih, ih2] <;> simp
def par (b : Bool) (l : List Nat) : List Nat := if b then [40] ++ l ++ [41] else l
/-- the text of an expression, in a place of strength k -/
def txt : Xp → Nat → List Nat
  | .letter n, _ => [48 + n]
  | .none, _ => wN
  | .empty, _ => wE
  | .star e, _ => txt e 2 ++ [42]
  | .either a b, k => par (decide (0 < k)) (txt a 0 ++ [32, 43, 32] ++ txt b 1)
  | .join a b, k => par (decide (1 < k)) (txt a 1 ++ [32, 46, 32] ++ txt b 2)
theorem par_len {b : Bool} {l : List Nat} : (par b l).length ≤ l.length + 2 := by
  unfold par
  split <;> simp
theorem txt_len : ∀ (e : Xp) (k : Nat), (txt e k).length ≤ 8 * e.sz
  | .letter n, _ => by show 1 ≤ 8 * 1; decide
  | .none, _ => by show 4 ≤ 8 * 1; decide
  | .empty, _ => by show 5 ≤ 8 * 1; decide
  | .star e, _ => by
    have := txt_len e 2
    show (txt e 2 ++ [42]).length ≤ 8 * (e.sz + 1)
    rw [List.length_append, List.length_singleton]; omega
  | .either a b, k => by
    have h1 := txt_len a 0
    have h2 := txt_len b 1
    refine Nat.le_trans par_len ?_
    show _ ≤ 8 * (a.sz + b.sz + 1)
    simp only [List.length_append, List.length_cons, List.length_nil]; omega
  | .join a b, k => by
    have h1 := txt_len a 1
    have h2 := txt_len b 2
    refine Nat.le_trans par_len ?_
    show _ ≤ 8 * (a.sz + b.sz + 1)
    simp only [List.length_append, List.length_cons, List.length_nil]; omega
/-! ### tokens -/
def dropSp (l : List Nat) : List Nat := l.dropWhile (· == 32)
/-- the token with which a text begins -/
def tokL : List Nat → List Nat
  | [] => []
  | c :: r => if (c :: r).take 4 = wN then wN else if (c :: r).take 5 = wE then wE else [c]
/-- what follows it -/
def nxS (r : List Nat) : List Nat := dropSp (r.drop (tokL r).length)
theorem dropSp_len (l : List Nat) : (dropSp l).length ≤ l.length := (List.dropWhile_sublist _).length_le
theorem dropSp_cons {c : Nat} {l : List Nat} (h : c ≠ 32) : dropSp (c :: l) = c :: l := by
  unfold dropSp
  rw [List.dropWhile_cons_of_neg (by simpa using h)]
theorem dropSp_sp {l : List Nat} : dropSp (32 :: l) = dropSp l := by
  unfold dropSp
  rw [List.dropWhile_cons_of_pos (by rfl)]
theorem tokL_cons {c : Nat} {r : List Nat} : tokL (c :: r) = if (c :: r).take 4 = wN then wN else if (c :: r).take 5 = wE then wE else [c] := rfl
theorem tokL_pos {r : List Nat} (h : r ≠ []) : 1 ≤ (tokL r).length := by
  cases r with
  | nil => exact absurd rfl h
  | cons c r =>
    rw [tokL_cons]
    split
    · decide
    · split
      · decide
      · exact Nat.le_refl _
theorem tokL_le {r : List Nat} : (tokL r).length ≤ r.length := by
  cases r with
  | nil => exact Nat.le_refl _
  | cons c r =>
    rw [tokL_cons]
    split
    · rename_i h; have := congrArg List.length h; rw [List.length_take] at this; simp only [List.length_cons, List.length_nil] at this ⊢; omega
    · split
      · rename_i h; have := congrArg List.length h; rw [List.length_take] at this; simp only [List.length_cons, List.length_nil] at this ⊢; omega
      · simp
theorem tokL_nil {r : List Nat} : tokL r = [] ↔ r = [] := by
  constructor
  · intro h
    by_cases z : r = []
    · exact z
    · have := tokL_pos z; rw [h] at this; simp at this
  · rintro rfl; rfl
theorem nxS_lt {r : List Nat} (h : r ≠ []) : (nxS r).length < r.length := by
  have h1 := tokL_pos h
  have h2 := dropSp_len (r.drop (tokL r).length)
  have h3 := tokL_le (r := r)
  rw [List.length_drop] at h2
  unfold nxS
  omega
/-- a token that is one sign, or one of the two words -/
inductive TkOk : List Nat → Prop
  | one {c : Nat} (h1 : c ≠ 110) (h2 : c ≠ 101) (h3 : c ≠ 32) : TkOk [c]
  | n : TkOk wN
  | e : TkOk wE
theorem tokL_app {t r : List Nat} (h : TkOk t) : tokL (t ++ r) = t := by
  cases h with
  | one h1 h2 h3 =>
    rename_i c
    show (if (c :: r).take 4 = wN then wN else if (c :: r).take 5 = wE then wE else [c]) = [c]
    rw [if_neg (by intro z; rw [List.take_succ_cons] at z; exact h1 (List.cons.inj z).1), if_neg (by intro z; rw [List.take_succ_cons] at z; exact h2 (List.cons.inj z).1)]
  | n => rfl
  | e => rfl
theorem tk_ne {t : List Nat} (h : TkOk t) : ∃ c r, t = c :: r ∧ c ≠ 32 := by
  cases h with
  | one h1 h2 h3 => exact ⟨_, _, rfl, h3⟩
  | n => exact ⟨_, _, rfl, by decide⟩
  | e => exact ⟨_, _, rfl, by decide⟩
/-- a text of tokens with spaces between them -/
inductive Wr : List Nat → List (List Nat) → Prop
  | nil : Wr [] []
  | sp {w ts} : Wr w ts → Wr (32 :: w) ts
  | tk {t w ts} : TkOk t → Wr w ts → Wr (t ++ w) (t :: ts)
theorem Wr.app {w ts w' ts'} (h : Wr w ts) (h' : Wr w' ts') : Wr (w ++ w') (ts ++ ts') := by
  induction h with
  | nil => exact h'
  | sp _ ih => exact .sp ih
  | tk k _ ih => rw [List.append_assoc]; exact .tk k ih
theorem Wr.one {t} (h : TkOk t) : Wr t [t] := by
  have := Wr.tk h .nil
  rwa [List.append_nil] at this
/-- a text behind its first spaces has these tokens -/
inductive Tk : List Nat → List (List Nat) → Prop
  | nil : Tk [] []
  | cons {r ts} : r ≠ [] → Tk (nxS r) ts → Tk r (tokL r :: ts)
theorem Wr.tks {w ts} (h : Wr w ts) : Tk (dropSp w) ts := by
  induction h with
  | nil => exact .nil
  | sp _ ih => rw [dropSp_sp]; exact ih
  | tk k h ih =>
    rename_i t w ts
    obtain ⟨c, r, e, hc⟩ := tk_ne k
    have e1 : dropSp (t ++ w) = t ++ w := by rw [e, List.cons_append]; exact dropSp_cons hc
    rw [e1]
    have et := tokL_app (r := w) k
    have en : nxS (t ++ w) = dropSp w := by
      unfold nxS
      rw [et, List.drop_left]
    have := Tk.cons (r := t ++ w) (ts := ts) (by rw [e]; simp) (by rw [en]; exact ih)
    rwa [et] at this
def parT (b : Bool) (l : List (List Nat)) : List (List Nat) := if b then [[40]] ++ l ++ [[41]] else l
/-- the tokens of an expression's text -/
def tks : Xp → Nat → List (List Nat)
  | .letter n, _ => [[48 + n]]
  | .none, _ => [wN]
  | .empty, _ => [wE]
  | .star e, _ => tks e 2 ++ [[42]]
  | .either a b, k => parT (decide (0 < k)) (tks a 0 ++ [[43]] ++ tks b 1)
  | .join a b, k => parT (decide (1 < k)) (tks a 1 ++ [[46]] ++ tks b 2)
theorem par_wr {b : Bool} {w ts} (h : Wr w ts) : Wr (par b w) (parT b ts) := by
  unfold par parT
  split
  · exact ((Wr.one (.one (by decide) (by decide) (by decide))).app h).app (Wr.one (.one (by decide) (by decide) (by decide)))
  · exact h
theorem txt_wr : ∀ {e : Xp} (k : Nat), e.ok → Wr (txt e k) (tks e k)
  | .letter n, k, h => Wr.one (.one (by have : n ≤ 9 := h; omega) (by have : n ≤ 9 := h; omega) (by have : n ≤ 9 := h; omega))
  | .none, k, h => Wr.one .n
  | .empty, k, h => Wr.one .e
  | .star e, k, h => (txt_wr (e := e) 2 h).app (Wr.one (.one (by decide) (by decide) (by decide)))
  | .either a b, k, h => par_wr (((txt_wr (e := a) 0 h.1).app (.sp (.tk (t := [43]) (.one (by decide) (by decide) (by decide)) (.sp .nil)))).app (txt_wr (e := b) 1 h.2))
  | .join a b, k, h => par_wr (((txt_wr (e := a) 1 h.1).app (.sp (.tk (t := [46]) (.one (by decide) (by decide) (by decide)) (.sp .nil)))).app (txt_wr (e := b) 2 h.2))
/-! ### spaces put in, or taken away -/
abbrev sgn : List (List Nat) := [[40], [41], [42], [43], [46]]
def Pc (c : Nat) (x : List Nat) : Prop := (c = 32 ∧ ∃ n, x = List.replicate n 32) ∨ ([c] ∈ sgn ∧ ∃ n, x = c :: List.replicate n 32) ∨ (c ≠ 32 ∧ [c] ∉ sgn ∧ x = [c])
theorem Pc.sp {x : List Nat} (h : Pc 32 x) : ∃ n, x = List.replicate n 32 := by
  rcases h with ⟨_, h⟩ | ⟨h, _⟩ | ⟨h, _⟩
  · exact h
  · exact absurd h (by decide)
  · exact absurd rfl h
/-! ### reading -/
abbrev Rs := Except Nat (Xp × List Nat)
def pSimple (pE : List Nat → Rs) (r : List Nat) : Rs :=
  if tokL r = [40] then
    match pE (nxS r) with
    | .ok z => if tokL z.2 = [41] then .ok (z.1, nxS z.2) else .error z.2.length
    | .error n => .error n
  else if tokL r = wN then .ok (.none, nxS r)
  else if tokL r = wE then .ok (.empty, nxS r)
  else if tokL r ≠ [] ∧ 48 ≤ (tokL r).headD 0 ∧ (tokL r).headD 0 ≤ 57 then .ok (.letter ((tokL r).headD 0 - 48), nxS r)
  else .error r.length
def lStar : Nat → Xp → List Nat → Xp × List Nat
  | 0, e, r => (e, r)
  | n + 1, e, r => if tokL r = [42] then lStar n (.star e) (nxS r) else (e, r)
def pStar (pE : List Nat → Rs) (r : List Nat) : Rs := match pSimple pE r with | .ok z => .ok (lStar z.2.length z.1 z.2) | .error n => .error n
def lJoin (pE : List Nat → Rs) : Nat → Xp → List Nat → Rs
  | 0, e, r => .ok (e, r)
  | n + 1, e, r => if tokL r = [46] then (match pStar pE (nxS r) with | .ok z => lJoin pE n (.join e z.1) z.2 | .error m => .error m) else .ok (e, r)
def pJoin (pE : List Nat → Rs) (r : List Nat) : Rs := match pStar pE r with | .ok z => lJoin pE z.2.length z.1 z.2 | .error n => .error n
def lEither (pE : List Nat → Rs) : Nat → Xp → List Nat → Rs
  | 0, e, r => .ok (e, r)
  | n + 1, e, r => if tokL r = [43] then (match pJoin pE (nxS r) with | .ok z => lEither pE n (.either e z.1) z.2 | .error m => .error m) else .ok (e, r)
def pEither (pE : List Nat → Rs) (r : List Nat) : Rs := match pJoin pE r with | .ok z => lEither pE z.2.length z.1 z.2 | .error n => .error n
def gE : Nat → List Nat → Rs
  | 0, _ => .error 0
  | d + 1, r => pEither (gE d) r
def gS : Nat → List Nat → Rs
  | 0, _ => .error 0
  | d + 1, r => pSimple (gE d) r
def gT : Nat → List Nat → Rs
  | 0, _ => .error 0
  | d + 1, r => pStar (gE d) r
def gJ : Nat → List Nat → Rs
  | 0, _ => .error 0
  | d + 1, r => pJoin (gE d) r
theorem lStar_fuel : ∀ {n m : Nat} {e : Xp} {r : List Nat}, r.length ≤ n → r.length ≤ m → lStar n e r = lStar m e r
  | 0, 0, _, _, _, _ => rfl
  | 0, m + 1, e, r, h, _ => by
    cases r with
    | nil => rfl
    | cons => simp at h
  | n + 1, 0, e, r, _, h => by
    cases r with
    | nil => rfl
    | cons => simp at h
  | n + 1, m + 1, e, r, h1, h2 => by
    unfold lStar
    split
    · rename_i z
      have : (nxS r).length < r.length := nxS_lt fun c => by rw [c] at z; cases z
      exact lStar_fuel (by omega) (by omega)
    · rfl
end My
namespace My
open Hq PySem
/-! ### reading what was written -/
theorem Tk.inv {r t ts} (h : Tk r (t :: ts)) : r ≠ [] ∧ tokL r = t ∧ Tk (nxS r) ts := by
  cases h with
  | cons h1 h2 => exact ⟨h1, rfl, h2⟩
theorem Tk.head {r ts} {x : List Nat} (h : Tk r ts) (hn : ts.head? ≠ some x) (hx : x ≠ []) : tokL r ≠ x := by
  cases h with
  | nil => exact fun e => hx e.symm
  | cons h1 h2 => exact fun e => hn (by rw [e]; rfl)
theorem lStar_no {n : Nat} {e : Xp} {r : List Nat} (h : tokL r ≠ [42]) : lStar n e r = (e, r) := by
  cases n with
  | zero => rfl
  | succ n => unfold lStar; rw [if_neg h]
theorem lJoin_s {pE : List Nat → Rs} {n : Nat} {e : Xp} {r : List Nat} : lJoin pE (n + 1) e r = if tokL r = [46] then (match pStar pE (nxS r) with | .ok z => lJoin pE n (.join e z.1) z.2 | .error m => .error m) else .ok (e, r) := rfl
theorem lEither_s {pE : List Nat → Rs} {n : Nat} {e : Xp} {r : List Nat} : lEither pE (n + 1) e r = if tokL r = [43] then (match pJoin pE (nxS r) with | .ok z => lEither pE n (.either e z.1) z.2 | .error m => .error m) else .ok (e, r) := rfl
theorem lJoin_no {pE} {n : Nat} {e : Xp} {r : List Nat} (h : tokL r ≠ [46]) : lJoin pE n e r = .ok (e, r) := by
  cases n with
  | zero => rfl
  | succ n => unfold lJoin; rw [if_neg h]
theorem lEither_no {pE} {n : Nat} {e : Xp} {r : List Nat} (h : tokL r ≠ [43]) : lEither pE n e r = .ok (e, r) := by
  cases n with
  | zero => rfl
  | succ n => unfold lEither; rw [if_neg h]
theorem lStar_yes {e : Xp} {r : List Nat} (h : tokL r = [42]) : lStar r.length e r = lStar (nxS r).length (.star e) (nxS r) := by
  have hr : r ≠ [] := fun c => by rw [c] at h; cases h
  have hl := nxS_lt hr
  obtain ⟨n, hn⟩ : ∃ n, r.length = n + 1 := ⟨r.length - 1, by omega⟩
  rw [hn]
  show (if tokL r = [42] then lStar n (.star e) (nxS r) else (e, r)) = _
  rw [if_pos h]
  exact lStar_fuel (by omega) (Nat.le_refl _)
/-- what is read is shorter -/
def Sh (p : List Nat → Rs) : Prop := ∀ r z, p r = .ok z → z.2.length ≤ r.length
theorem lStar_sh : ∀ (n : Nat) (e : Xp) (r : List Nat), (lStar n e r).2.length ≤ r.length
  | 0, e, r => Nat.le_refl _
  | n + 1, e, r => by
    unfold lStar
    split
    · rename_i h
      have := nxS_lt (r := r) fun c => by rw [c] at h; cases h
      have := lStar_sh n (.star e) (nxS r)
      omega
    · exact Nat.le_refl _
theorem nxS_le (r : List Nat) : (nxS r).length ≤ r.length := by
  by_cases h : r = []
  · subst h; exact Nat.le_refl _
  · exact Nat.le_of_lt (nxS_lt h)
theorem pSimple_sh {p} (h : Sh p) : Sh (pSimple p) := fun r z e => by
  unfold pSimple at e
  have n1 := nxS_le r
  split at e
  · cases q : p (nxS r) with
    | error n => rw [q] at e; cases e
    | ok y =>
      rw [q] at e
      have := h _ _ q
      have n2 := nxS_le y.2
      dsimp only at e
      split at e
      · cases e; show (nxS y.2).length ≤ _; omega
      · cases e
  · split at e
    · cases e; exact n1
    · split at e
      · cases e; exact n1
      · split at e
        · cases e; exact n1
        · cases e
theorem pStar_sh {p} (h : Sh p) : Sh (pStar p) := fun r z e => by
  unfold pStar at e
  cases q : pSimple p r with
  | error n => rw [q] at e; cases e
  | ok y =>
    rw [q] at e
    cases e
    exact Nat.le_trans (lStar_sh _ _ _) (pSimple_sh h _ _ q)
theorem lJoin_sh {p} (h : Sh p) : ∀ (n : Nat) (e : Xp) (r : List Nat) z, lJoin p n e r = .ok z → z.2.length ≤ r.length
  | 0, e, r, z, q => by cases q; exact Nat.le_refl _
  | n + 1, e, r, z, q => by
    unfold lJoin at q
    split at q
    · cases y : pStar p (nxS r) with
      | error m => rw [y] at q; cases q
      | ok y' =>
        rw [y] at q
        have h1 := pStar_sh h _ _ y
        have h2 := lJoin_sh h n _ _ _ q
        have := nxS_le r
        omega
    · cases q; exact Nat.le_refl _
theorem pJoin_sh {p} (h : Sh p) : Sh (pJoin p) := fun r z e => by
  unfold pJoin at e
  cases q : pStar p r with
  | error n => rw [q] at e; cases e
  | ok y =>
    rw [q] at e
    exact Nat.le_trans (lJoin_sh h _ _ _ _ e) (pStar_sh h _ _ q)
theorem lJoin_fuel {p} (hp : Sh p) : ∀ {n m : Nat} {e : Xp} {r : List Nat}, r.length ≤ n → r.length ≤ m → lJoin p n e r = lJoin p m e r
  | 0, 0, _, _, _, _ => rfl
  | 0, m + 1, e, r, h, _ => by
    cases r with
    | nil => rfl
    | cons => simp at h
  | n + 1, 0, e, r, _, h => by
    cases r with
    | nil => rfl
    | cons => simp at h
  | n + 1, m + 1, e, r, h1, h2 => by
    unfold lJoin
    split
    · rename_i z
      have l1 : (nxS r).length < r.length := nxS_lt fun c => by rw [c] at z; cases z
      cases q : pStar p (nxS r) with
      | error k => rfl
      | ok y =>
        have := pStar_sh hp _ _ q
        exact lJoin_fuel hp (by omega) (by omega)
    · rfl
theorem lEither_fuel {p} (hp : Sh p) : ∀ {n m : Nat} {e : Xp} {r : List Nat}, r.length ≤ n → r.length ≤ m → lEither p n e r = lEither p m e r
  | 0, 0, _, _, _, _ => rfl
  | 0, m + 1, e, r, h, _ => by
    cases r with
    | nil => rfl
    | cons => simp at h
  | n + 1, 0, e, r, _, h => by
    cases r with
    | nil => rfl
    | cons => simp at h
  | n + 1, m + 1, e, r, h1, h2 => by
    unfold lEither
    split
    · rename_i z
      have l1 : (nxS r).length < r.length := nxS_lt fun c => by rw [c] at z; cases z
      cases q : pJoin p (nxS r) with
      | error k => rfl
      | ok y =>
        have := pJoin_sh hp _ _ q
        exact lEither_fuel hp (by omega) (by omega)
    · rfl
theorem lEither_sh {p} (h : Sh p) : ∀ (n : Nat) (e : Xp) (r : List Nat) z, lEither p n e r = .ok z → z.2.length ≤ r.length
  | 0, e, r, z, q => by cases q; exact Nat.le_refl _
  | n + 1, e, r, z, q => by
    unfold lEither at q
    split at q
    · cases y : pJoin p (nxS r) with
      | error m => rw [y] at q; cases q
      | ok y' =>
        rw [y] at q
        have h1 := pJoin_sh h _ _ y
        have h2 := lEither_sh h n _ _ _ q
        have := nxS_le r
        omega
    · cases q; exact Nat.le_refl _
theorem gE_sh : ∀ d, Sh (gE d)
  | 0 => fun r z e => by cases e
  | d + 1 => fun r z e => by
    have e : pEither (gE d) r = .ok z := e
    unfold pEither at e
    cases q : pJoin (gE d) r with
    | error n => rw [q] at e; cases e
    | ok y =>
      rw [q] at e
      exact Nat.le_trans (lEither_sh (gE_sh d) _ _ _ _ e) (pJoin_sh (gE_sh d) _ _ q)
theorem lJoin_yes {d : Nat} {e : Xp} {r : List Nat} {z} (h : tokL r = [46]) (hz : pStar (gE d) (nxS r) = .ok z) : lJoin (gE d) r.length e r = lJoin (gE d) z.2.length (.join e z.1) z.2 := by
  have hr : r ≠ [] := fun c => by rw [c] at h; cases h
  have hl := nxS_lt hr
  obtain ⟨n, hn⟩ : ∃ n, r.length = n + 1 := ⟨r.length - 1, by omega⟩
  rw [hn, lJoin_s, if_pos h, hz]
  have := pStar_sh (gE_sh d) _ _ hz
  dsimp only
  have l2 : z.2.length ≤ n := by omega
  exact lJoin_fuel (n := n) (gE_sh d) l2 (Nat.le_refl _)
theorem lEither_yes {d : Nat} {e : Xp} {r : List Nat} {z} (h : tokL r = [43]) (hz : pJoin (gE d) (nxS r) = .ok z) : lEither (gE d) r.length e r = lEither (gE d) z.2.length (.either e z.1) z.2 := by
  have hr : r ≠ [] := fun c => by rw [c] at h; cases h
  have hl := nxS_lt hr
  obtain ⟨n, hn⟩ : ∃ n, r.length = n + 1 := ⟨r.length - 1, by omega⟩
  rw [hn, lEither_s, if_pos h, hz]
  have := pJoin_sh (gE_sh d) _ _ hz
  dsimp only
  have l2 : z.2.length ≤ n := by omega
  exact lEither_fuel (n := n) (gE_sh d) l2 (Nat.le_refl _)
theorem hd_ne {a b : Nat} {ts : List (List Nat)} (h : a ≠ b) : ([[a]] ++ ts).head? ≠ some [b] := fun c => h (List.cons.inj (Option.some.inj c)).1
def B2 (e : Xp) (l : List (List Nat)) (d : Nat) : Prop := ∀ r ts, Tk r (l ++ ts) → ∃ r', Tk r' ts ∧ pStar (gE d) r = .ok (lStar r'.length e r')
def B1 (e : Xp) (l : List (List Nat)) (d : Nat) : Prop := ∀ r ts, Tk r (l ++ ts) → ts.head? ≠ some [42] → ∃ r', Tk r' ts ∧ pJoin (gE d) r = lJoin (gE d) r'.length e r'
def B0 (e : Xp) (l : List (List Nat)) (d : Nat) : Prop := ∀ r ts, Tk r (l ++ ts) → ts.head? ≠ some [42] → ts.head? ≠ some [46] → ∃ r', Tk r' ts ∧ pEither (gE d) r = lEither (gE d) r'.length e r'
theorem B2.b1 {e l d} (h : B2 e l d) : B1 e l d := fun r ts t hs => by
  obtain ⟨r', t', q⟩ := h r ts t
  refine ⟨r', t', ?_⟩
  unfold pJoin
  rw [q, lStar_no (t'.head hs (by decide))]
theorem B1.b0 {e l d} (h : B1 e l d) : B0 e l d := fun r ts t hs hj => by
  obtain ⟨r', t', q⟩ := h r ts t hs
  refine ⟨r', t', ?_⟩
  unfold pEither
  rw [q, lJoin_no (t'.head hj (by decide))]
/-- parentheses round it -/
theorem B0.par {e l d} (h : B0 e l d) : B2 e ([[40]] ++ l ++ [[41]]) (d + 1) := fun r ts t => by
  rw [List.append_assoc, List.append_assoc] at t
  obtain ⟨h1, h2, h3⟩ := t.inv
  obtain ⟨r1, t1, q1⟩ := h (nxS r) ([[41]] ++ ts) h3 (hd_ne (by decide)) (hd_ne (by decide))
  obtain ⟨k1, k2, k3⟩ := t1.inv
  rw [lEither_no (by rw [k2]; decide)] at q1
  refine ⟨nxS r1, k3, ?_⟩
  have : pSimple (gE (d + 1)) r = .ok (e, nxS r1) := by
    unfold pSimple
    rw [if_pos h2]
    have q2 : gE (d + 1) (nxS r) = .ok (e, r1) := q1
    rw [q2]
    show (if tokL r1 = [41] then _ else _) = _
    rw [if_pos k2]
  unfold pStar
  rw [this]
theorem B_atom {e : Xp} {t : List Nat} {d : Nat} (h : ∀ r, r ≠ [] → tokL r = t → pSimple (gE d) r = .ok (e, nxS r)) : B2 e [t] d := fun r ts tk => by
  obtain ⟨h1, h2, h3⟩ := tk.inv
  refine ⟨nxS r, h3, ?_⟩
  unfold pStar
  rw [h r h1 h2]
theorem reads : ∀ (e : Xp), e.ok → ∀ d, e.dep ≤ d → B2 e (tks e 2) d ∧ B1 e (tks e 1) d ∧ B0 e (tks e 0) d := by
  intro e
  induction e with
  | letter n =>
    intro ok d _
    have ok : n ≤ 9 := ok
    have : B2 (.letter n) [[48 + n]] d := B_atom fun r hr ht => by
      unfold pSimple
      rw [if_neg (by rw [ht]; intro c; have := (List.cons.inj c).1; omega), if_neg (by rw [ht]; intro c; have := (List.cons.inj c).1; omega), if_neg (by rw [ht]; intro c; have := (List.cons.inj c).1; omega), ht, if_pos ⟨by simp, by show 48 ≤ 48 + n; omega, by show 48 + n ≤ 57; omega⟩]
      show Except.ok (Xp.letter (48 + n - 48), _) = _
      rw [show 48 + n - 48 = n by omega]
    exact ⟨this, this.b1, this.b1.b0⟩
  | none =>
    intro ok d _
    have : B2 .none [wN] d := B_atom fun r hr ht => by
      unfold pSimple
      rw [if_neg (by rw [ht]; decide), if_pos ht]
    exact ⟨this, this.b1, this.b1.b0⟩
  | empty =>
    intro ok d _
    have : B2 .empty [wE] d := B_atom fun r hr ht => by
      unfold pSimple
      rw [if_neg (by rw [ht]; decide), if_neg (by rw [ht]; decide), if_pos ht]
    exact ⟨this, this.b1, this.b1.b0⟩
  | star e ih =>
    intro ok d hd
    have hd : e.dep + 1 ≤ d := hd
    obtain ⟨i2, _, _⟩ := ih ok d (by omega)
    have : B2 (.star e) (tks e 2 ++ [[42]]) d := fun r ts t => by
      rw [List.append_assoc] at t
      obtain ⟨r1, t1, q1⟩ := i2 r ([[42]] ++ ts) t
      obtain ⟨k1, k2, k3⟩ := t1.inv
      exact ⟨nxS r1, k3, by rw [q1, lStar_yes k2]⟩
    exact ⟨this, this.b1, this.b1.b0⟩
  | either a b iha ihb =>
    intro ok d hd
    have hd : max a.dep b.dep + 1 ≤ d := hd
    have U : ∀ d, a.dep ≤ d → b.dep ≤ d → B0 (.either a b) (tks a 0 ++ [[43]] ++ tks b 1) d := fun d ha hb r ts t hs hj => by
      rw [List.append_assoc, List.append_assoc] at t
      obtain ⟨r1, t1, q1⟩ := (iha ok.1 d ha).2.2 r _ t (hd_ne (by decide)) (hd_ne (by decide))
      obtain ⟨k1, k2, k3⟩ := t1.inv
      obtain ⟨r2, t2, q2⟩ := (ihb ok.2 d hb).2.1 (nxS r1) ts k3 hs
      rw [lJoin_no (t2.head hj (by decide))] at q2
      exact ⟨r2, t2, by rw [q1, lEither_yes k2 q2]⟩
    obtain ⟨d, rfl⟩ : ∃ d', d = d' + 1 := ⟨d - 1, by omega⟩
    have p : B2 (.either a b) ([[40]] ++ (tks a 0 ++ [[43]] ++ tks b 1) ++ [[41]]) (d + 1) := (U d (by omega) (by omega)).par
    exact ⟨p, p.b1, U (d + 1) (by omega) (by omega)⟩
  | join a b iha ihb =>
    intro ok d hd
    have hd : max a.dep b.dep + 1 ≤ d := hd
    have U : ∀ d, a.dep ≤ d → b.dep ≤ d → B1 (.join a b) (tks a 1 ++ [[46]] ++ tks b 2) d := fun d ha hb r ts t hs => by
      rw [List.append_assoc, List.append_assoc] at t
      obtain ⟨r1, t1, q1⟩ := (iha ok.1 d ha).2.1 r _ t (hd_ne (by decide))
      obtain ⟨k1, k2, k3⟩ := t1.inv
      obtain ⟨r2, t2, q2⟩ := (ihb ok.2 d hb).1 (nxS r1) ts k3
      rw [lStar_no (t2.head hs (by decide))] at q2
      exact ⟨r2, t2, by rw [q1, lJoin_yes k2 q2]⟩
    obtain ⟨d, rfl⟩ : ∃ d', d = d' + 1 := ⟨d - 1, by omega⟩
    have p : B2 (.join a b) ([[40]] ++ (tks a 1 ++ [[46]] ++ tks b 2) ++ [[41]]) (d + 1) := (U d (by omega) (by omega)).b0.par
    exact ⟨p, U (d + 1) (by omega) (by omega), (U (d + 1) (by omega) (by omega)).b0⟩
/-- a text with these tokens reads as the expression, to its end -/
theorem reads_all {e : Xp} (ok : e.ok) {d : Nat} (hd : e.dep ≤ d) {w : List Nat} (h : Wr w (tks e 0)) : gE (d + 1) (dropSp w) = .ok (e, []) := by
  have t := h.tks
  rw [← List.append_nil (tks e 0)] at t
  obtain ⟨r', t', q⟩ := (reads e ok d hd).2.2 _ _ t (by decide) (by decide)
  cases t'
  exact q
end My
namespace My
open Hq PySem
/-! ### what is left of a text is at its end -/
theorem nxS_suf (r : List Nat) : nxS r <:+ r := (List.dropWhile_suffix _).trans (List.drop_suffix _ _)
def Sf (p : List Nat → Rs) : Prop := ∀ r z, p r = .ok z → z.2 <:+ r
theorem pSimple_sf {p} (h : Sf p) : Sf (pSimple p) := fun r z e => by
  unfold pSimple at e
  have n1 := nxS_suf r
  split at e
  · cases q : p (nxS r) with
    | error n => rw [q] at e; cases e
    | ok y =>
      rw [q] at e
      dsimp only at e
      split at e
      · cases e; exact ((nxS_suf y.2).trans (h _ _ q)).trans n1
      · cases e
  · split at e
    · cases e; exact n1
    · split at e
      · cases e; exact n1
      · split at e
        · cases e; exact n1
        · cases e
theorem lStar_sf : ∀ (n : Nat) (e : Xp) (r : List Nat), (lStar n e r).2 <:+ r
  | 0, e, r => List.suffix_refl _
  | n + 1, e, r => by
    unfold lStar
    split
    · exact (lStar_sf n (.star e) (nxS r)).trans (nxS_suf r)
    · exact List.suffix_refl _
theorem pStar_sf {p} (h : Sf p) : Sf (pStar p) := fun r z e => by
  unfold pStar at e
  cases q : pSimple p r with
  | error n => rw [q] at e; cases e
  | ok y =>
    rw [q] at e
    cases e
    exact (lStar_sf _ _ _).trans (pSimple_sf h _ _ q)
theorem lJoin_sf {p} (h : Sf p) : ∀ (n : Nat) (e : Xp) (r : List Nat) z, lJoin p n e r = .ok z → z.2 <:+ r
  | 0, e, r, z, q => by cases q; exact List.suffix_refl _
  | n + 1, e, r, z, q => by
    rw [lJoin_s] at q
    split at q
    · cases y : pStar p (nxS r) with
      | error m => rw [y] at q; cases q
      | ok y' =>
        rw [y] at q
        exact ((lJoin_sf h n _ _ _ q).trans (pStar_sf h _ _ y)).trans (nxS_suf r)
    · cases q; exact List.suffix_refl _
theorem pJoin_sf {p} (h : Sf p) : Sf (pJoin p) := fun r z e => by
  unfold pJoin at e
  cases q : pStar p r with
  | error n => rw [q] at e; cases e
  | ok y =>
    rw [q] at e
    exact (lJoin_sf h _ _ _ _ e).trans (pStar_sf h _ _ q)
theorem lEither_sf {p} (h : Sf p) : ∀ (n : Nat) (e : Xp) (r : List Nat) z, lEither p n e r = .ok z → z.2 <:+ r
  | 0, e, r, z, q => by cases q; exact List.suffix_refl _
  | n + 1, e, r, z, q => by
    rw [lEither_s] at q
    split at q
    · cases y : pJoin p (nxS r) with
      | error m => rw [y] at q; cases q
      | ok y' =>
        rw [y] at q
        exact ((lEither_sf h n _ _ _ q).trans (pJoin_sf h _ _ y)).trans (nxS_suf r)
    · cases q; exact List.suffix_refl _
theorem gE_sf : ∀ d, Sf (gE d)
  | 0 => fun r z e => by cases e
  | d + 1 => fun r z e => by
    have e : pEither (gE d) r = .ok z := e
    unfold pEither at e
    cases q : pJoin (gE d) r with
    | error n => rw [q] at e; cases e
    | ok y =>
      rw [q] at e
      exact (lEither_sf (gE_sf d) _ _ _ _ e).trans (pJoin_sf (gE_sf d) _ _ q)
theorem gS_sf : ∀ d, Sf (gS d)
  | 0 => fun r z e => by cases e
  | d + 1 => pSimple_sf (gE_sf d)
theorem gT_sf : ∀ d, Sf (gT d)
  | 0 => fun r z e => by cases e
  | d + 1 => pStar_sf (gE_sf d)
theorem gJ_sf : ∀ d, Sf (gJ d)
  | 0 => fun r z e => by cases e
  | d + 1 => pJoin_sf (gE_sf d)
theorem suf_drop {w r : List Nat} (h : r <:+ w) : w.drop (w.length - r.length) = r := by
  obtain ⟨p, rfl⟩ := h
  rw [List.length_append, Nat.add_sub_cancel, List.drop_left]
end My
namespace My
open Hq PySem
theorem layS {a : List Nat} (h : PyData.canLay0 (dS a) = true) {xs : List PyData} (hx : PyData.canLayAll0 xs = true) : PyData.canLay0 (.tuple (dS a :: xs)) = true := by
  show (PyData.canLay0 (dS a) && PyData.canLayAll0 xs) = true
  rw [hx, show PyData.canLay0 (dS a) = true from h]; rfl
theorem dX_lay : ∀ e : Xp, PyData.canLay0 (dX e) = true
  | .letter n => layS (by decide +kernel) (lay_1 (enc_int.lay _))
  | .none => layS (by decide +kernel) rfl
  | .empty => layS (by decide +kernel) rfl
  | .star e => layS (by decide +kernel) (lay_1 (dX_lay e))
  | .either a b => layS (by decide +kernel) (lay_2 (dX_lay a) (dX_lay b))
  | .join a b => layS (by decide +kernel) (lay_2 (dX_lay a) (dX_lay b))
theorem dX_deep : ∀ e : Xp, PyData.depth (dX e) ≤ e.dep + 1
  | .letter n => by simp [dX, PyData.depth, PyData.depthAll, Xp.dep]
  | .none => by simp [dX, PyData.depth, PyData.depthAll, Xp.dep]
  | .empty => by simp [dX, PyData.depth, PyData.depthAll, Xp.dep]
  | .star e => by have := dX_deep e; simp [dX, PyData.depth, PyData.depthAll, Xp.dep]; omega
  | .either a b => by have := dX_deep a; have := dX_deep b; simp [dX, PyData.depth, PyData.depthAll, Xp.dep]; omega
  | .join a b => by have := dX_deep a; have := dX_deep b; simp [dX, PyData.depth, PyData.depthAll, Xp.dep]; omega
theorem dX_shaped {e : Xp} (h : e.dep ≤ 60) : SeqAt.shaped (dX e) = true := by
  unfold SeqAt.shaped
  rw [dX_lay, decide_eq_true (by have := dX_deep e; omega)]; rfl
end My
namespace My
open Hq PySem
/-! ### where a text stops being one of an expression -/
def isOpd (t : List Nat) : Bool := decide (t = wN) || decide (t = wE) || decide (t ≠ [] ∧ 48 ≤ t.headD 0 ∧ t.headD 0 ≤ 57)
/-- one token: whether an operand is due behind it, and the parentheses that stand open -/
def stp (due : Bool) (k : Nat) (t : List Nat) : Option (Bool × Nat) :=
  if t = [40] then (if due then some (true, k + 1) else none)
  else if t = [41] then (if due || decide (k = 0) then none else some (false, k - 1))
  else if t = [43] ∨ t = [46] then (if due then none else some (true, k))
  else if t = [42] then (if due then none else some (false, k))
  else if isOpd t then (if due then some (false, k) else none)
  else none
inductive Sc : Bool → Nat → List Nat → Option Nat → Prop
  | fin : Sc false 0 [] none
  | eof {due k} : due = true ∨ 0 < k → Sc due k [] (some 0)
  | bad {due k r} : r ≠ [] → stp due k (tokL r) = none → Sc due k r (some r.length)
  | go {due k r due' k' o} : r ≠ [] → stp due k (tokL r) = some (due', k') → Sc due' k' (nxS r) o → Sc due k r o
theorem Sc.at {due k r o due' k'} (h : Sc due k r o) (hr : r ≠ []) (hs : stp due k (tokL r) = some (due', k')) : Sc due' k' (nxS r) o := by
  cases h with
  | fin => exact absurd rfl hr
  | eof _ => exact absurd rfl hr
  | bad _ h => rw [hs] at h; cases h
  | go _ h1 h2 => rw [hs] at h1; cases h1; exact h2
theorem Sc.stop {due k r o} (h : Sc due k r o) (hr : r ≠ []) (hs : stp due k (tokL r) = none) : o = some r.length := by
  cases h with
  | fin => exact absurd rfl hr
  | eof _ => exact absurd rfl hr
  | bad _ h => rfl
  | go _ h1 h2 => rw [hs] at h1; cases h1
theorem Sc.end {due k o} (h : Sc due k [] o) : o = if due = true ∨ 0 < k then some 0 else none := by
  cases h with
  | fin => rfl
  | eof h => rw [if_pos h]
  | bad h _ => exact absurd rfl h
  | go h _ _ => exact absurd rfl h
/-! ### signs counted -/
def cP (r : List Nat) : Nat := r.count 40
def cO (r : List Nat) : Nat := (r.filter fun c => c == 42 || c == 43 || c == 46).length
theorem cP_suf {a b : List Nat} (h : a <:+ b) : cP a ≤ cP b := h.sublist.count_le _
theorem cO_suf {a b : List Nat} (h : a <:+ b) : cO a ≤ cO b := (h.sublist.filter _).length_le
theorem tok_cons {r : List Nat} {c : Nat} (h : tokL r = [c]) : ∃ r', r = c :: r' ∧ nxS r = dropSp r' := by
  cases r with
  | nil => cases h
  | cons x r =>
    have h' := h
    rw [tokL_cons] at h'
    have : x = c := by
      split at h'
      · cases h'
      · split at h'
        · cases h'
        · exact (List.cons.inj h').1
    subst this
    refine ⟨r, rfl, ?_⟩
    unfold nxS
    rw [h]
    rfl
theorem cP_lt {r : List Nat} (h : tokL r = [40]) : cP (nxS r) < cP r := by
  obtain ⟨r', rfl, e⟩ := tok_cons h
  rw [e]
  have := cP_suf (List.dropWhile_suffix (l := r') (fun x => x == 32))
  have h2 : cP (40 :: r') = cP r' + 1 := by unfold cP; rw [List.count_cons_self]
  have : cP (dropSp r') ≤ cP r' := this
  omega
theorem cO_lt {r : List Nat} {c : Nat} (h : tokL r = [c]) (hc : c = 42 ∨ c = 43 ∨ c = 46) : cO (nxS r) + 1 ≤ cO r := by
  obtain ⟨r', rfl, e⟩ := tok_cons h
  rw [e]
  have : cO (dropSp r') ≤ cO r' := cO_suf (List.dropWhile_suffix _)
  have h2 : cO (c :: r') = cO r' + 1 := by
    unfold cO
    rw [List.filter_cons_of_pos (by rcases hc with rfl | rfl | rfl <;> rfl)]
    rfl
  omega
/-- how many signs an expression has -/
def Xp.nl : Xp → Nat
  | .letter _ => 0 | .none => 0 | .empty => 0 | .star e => e.nl + 1 | .either a b => a.nl + b.nl + 1 | .join a b => a.nl + b.nl + 1
theorem dep_nl : ∀ e : Xp, e.dep ≤ e.nl + 1
  | .letter _ => Nat.le_refl _ | .none => Nat.le_refl _ | .empty => Nat.le_refl _
  | .star e => by have := dep_nl e; show e.dep + 1 ≤ e.nl + 1 + 1; omega
  | .either a b => by have := dep_nl a; have := dep_nl b; show max a.dep b.dep + 1 ≤ a.nl + b.nl + 1 + 1; omega
  | .join a b => by have := dep_nl a; have := dep_nl b; show max a.dep b.dep + 1 ≤ a.nl + b.nl + 1 + 1; omega
theorem nl_sz : ∀ e : Xp, e.nl ≤ e.sz
  | .letter _ => Nat.zero_le _ | .none => Nat.zero_le _ | .empty => Nat.zero_le _
  | .star e => by have := nl_sz e; show e.nl + 1 ≤ e.sz + 1; omega
  | .either a b => by have := nl_sz a; have := nl_sz b; show a.nl + b.nl + 1 ≤ a.sz + b.sz + 1; omega
  | .join a b => by have := nl_sz a; have := nl_sz b; show a.nl + b.nl + 1 ≤ a.sz + b.sz + 1; omega
/-- what a reader that was handed an operand's beginning comes to -/
structure Rd (p : List Nat → Rs) (r : List Nat) : Prop where
  ok : ∀ z, p r = .ok z → (∀ k o, Sc false k z.2 o → Sc true k r o) ∧ z.1.ok ∧ z.1.sz + z.2.length ≤ r.length ∧ z.1.nl + cO z.2 ≤ cO r
  er : ∀ n, p r = .error n → ∀ k, Sc true k r (some n)
theorem opd_step {r : List Nat} {k : Nat} {o : Option Nat} (h1 : tokL r ≠ [40]) (h2 : isOpd (tokL r) = true) (h : Sc false k (nxS r) o) : Sc true k r o := by
  have hr : r ≠ [] := fun c => by subst c; exact absurd h2 (by decide)
  have g : ∀ c : Nat, ¬ (48 ≤ c ∧ c ≤ 57) → tokL r ≠ [c] := fun c hc e => by
    rw [e] at h2
    unfold isOpd at h2
    simp only [Bool.or_eq_true, decide_eq_true_iff] at h2
    rcases h2 with (h2 | h2) | h2
    · cases h2
    · cases h2
    · exact hc h2.2
  refine .go hr ?_ h
  unfold stp
  rw [if_neg h1, if_neg (g 41 (by decide)), if_neg (fun c => c.elim (g 43 (by decide)) (g 46 (by decide))), if_neg (g 42 (by decide)), if_pos h2]
  rfl
theorem pSimple_rd {d : Nat} {r : List Nat} (hp : cP r ≤ d) (ih : ∀ r, cP r < d → Rd (gE d) r ∧ ∀ z, gE d r = .ok z → tokL z.2 ≠ [42] ∧ tokL z.2 ≠ [43] ∧ tokL z.2 ≠ [46]) : Rd (pSimple (gE d)) r := by
  by_cases h1 : tokL r = [40]
  · have hr : r ≠ [] := fun c => by subst c; cases h1
    have lt := cP_lt h1
    obtain ⟨I, J⟩ := ih (nxS r) (by omega)
    have st : ∀ k, stp true k (tokL r) = some (true, k + 1) := fun k => by unfold stp; rw [if_pos h1]; rfl
    have eq : pSimple (gE d) r = match gE d (nxS r) with | .ok z => if tokL z.2 = [41] then .ok (z.1, nxS z.2) else .error z.2.length | .error n => .error n := by
      unfold pSimple
      rw [if_pos h1] <;> rfl
    cases q : gE d (nxS r) with
    | error n =>
      rw [q] at eq
      refine ⟨fun z h => (by rw [eq] at h; cases h), fun m h k => ?_⟩
      rw [eq] at h
      cases h
      exact .go hr (st k) (I.er n q (k + 1))
    | ok z =>
      rw [q] at eq
      dsimp only at eq
      obtain ⟨i1, i2, i3, i4⟩ := I.ok z q
      obtain ⟨j1, j2, j3⟩ := J z q
      by_cases c : tokL z.2 = [41]
      · rw [if_pos c] at eq
        have hz : z.2 ≠ [] := fun e => by rw [e] at c; cases c
        refine ⟨fun y h => ?_, fun m h k => (by rw [eq] at h; cases h)⟩
        rw [eq] at h
        cases h
        have l1 := nxS_lt hz
        have l2 := nxS_lt hr
        have o1 := cO_suf (nxS_suf z.2)
        have o2 := cO_suf (nxS_suf r)
        refine ⟨fun k o hs => .go hr (st k) (i1 (k + 1) o (.go hz ?_ hs)), i2, by show z.1.sz + (nxS z.2).length ≤ _; omega, by show z.1.nl + cO (nxS z.2) ≤ _; omega⟩
        unfold stp
        rw [if_neg (by rw [c]; decide), if_pos c]
        rfl
      · rw [if_neg c] at eq
        refine ⟨fun y h => (by rw [eq] at h; cases h), fun m h k => ?_⟩
        rw [eq] at h
        cases h
        refine .go hr (st k) (i1 (k + 1) _ ?_)
        by_cases hz : z.2 = []
        · rw [hz]
          exact .eof (.inr (by omega))
        · refine .bad hz ?_
          unfold stp
          by_cases x : tokL z.2 = [40]
          · rw [if_pos x]; rfl
          · rw [if_neg x, if_neg c, if_neg (fun x => x.elim j2 j3), if_neg j1]
            split <;> rfl
  · have eq : pSimple (gE d) r = if tokL r = wN then .ok (.none, nxS r) else if tokL r = wE then .ok (.empty, nxS r) else if tokL r ≠ [] ∧ 48 ≤ (tokL r).headD 0 ∧ (tokL r).headD 0 ≤ 57 then .ok (.letter ((tokL r).headD 0 - 48), nxS r) else .error r.length := by
      unfold pSimple
      rw [if_neg h1]
    have key : ∀ e : Xp, pSimple (gE d) r = .ok (e, nxS r) → isOpd (tokL r) = true → e.ok → e.sz = 1 → e.nl = 0 → Rd (pSimple (gE d)) r := fun e he ho ok sz dp => by
      have hr : r ≠ [] := fun c => by subst c; exact absurd ho (by decide)
      have l1 := nxS_lt hr
      have o1 := cO_suf (nxS_suf r)
      refine ⟨fun z h => ?_, fun n h => (by rw [he] at h; cases h)⟩
      rw [he] at h
      cases h
      exact ⟨fun k o hs => opd_step h1 ho hs, ok, by show e.sz + (nxS r).length ≤ _; omega, by show e.nl + cO (nxS r) ≤ _; omega⟩
    by_cases c1 : tokL r = wN
    · rw [if_pos c1] at eq
      exact key .none eq (by unfold isOpd; rw [c1]; rfl) trivial rfl rfl
    rw [if_neg c1] at eq
    by_cases c2 : tokL r = wE
    · rw [if_pos c2] at eq
      exact key .empty eq (by unfold isOpd; rw [c2]; rfl) trivial rfl rfl
    rw [if_neg c2] at eq
    by_cases c3 : tokL r ≠ [] ∧ 48 ≤ (tokL r).headD 0 ∧ (tokL r).headD 0 ≤ 57
    · rw [if_pos c3] at eq
      exact key _ eq (by unfold isOpd; rw [decide_eq_true c3, Bool.or_true]) (by show _ - 48 ≤ 9; omega) rfl rfl
    · rw [if_neg c3] at eq
      refine ⟨fun z h => (by rw [eq] at h; cases h), fun n h k => ?_⟩
      rw [eq] at h
      cases h
      by_cases hr : r = []
      · subst hr; exact .eof (.inl rfl)
      · refine .bad hr ?_
        unfold stp
        rw [if_neg h1]
        by_cases z1 : tokL r = [41]
        · rw [if_pos z1]; rfl
        rw [if_neg z1]
        by_cases z2 : tokL r = [43] ∨ tokL r = [46]
        · rw [if_pos z2]; rfl
        rw [if_neg z2]
        by_cases z3 : tokL r = [42]
        · rw [if_pos z3]; rfl
        rw [if_neg z3, if_neg]
        unfold isOpd
        rw [decide_eq_false c1, decide_eq_false c2, decide_eq_false c3]
        decide
theorem op_step {r : List Nat} {c : Nat} {k : Nat} {o : Option Nat} (h : tokL r = [c]) (hc : c = 43 ∨ c = 46) (hs : Sc true k (nxS r) o) : Sc false k r o := by
  have hr : r ≠ [] := fun e => by subst e; cases h
  refine .go hr ?_ hs
  unfold stp
  rw [h, if_neg (by rcases hc with rfl | rfl <;> decide), if_neg (by rcases hc with rfl | rfl <;> decide), if_pos (by rcases hc with rfl | rfl <;> decide)]
  rfl
theorem star_step {r : List Nat} {k : Nat} {o : Option Nat} (h : tokL r = [42]) (hs : Sc false k (nxS r) o) : Sc false k r o := by
  have hr : r ≠ [] := fun e => by subst e; cases h
  refine .go hr ?_ hs
  unfold stp
  rw [h]
  rfl
theorem lStar_rd : ∀ (n : Nat) (e : Xp) (r : List Nat), r.length ≤ n → (∀ k o, Sc false k (lStar n e r).2 o → Sc false k r o) ∧ (e.ok → (lStar n e r).1.ok) ∧ (lStar n e r).1.sz + (lStar n e r).2.length ≤ e.sz + r.length ∧ (lStar n e r).1.nl + cO (lStar n e r).2 ≤ e.nl + cO r ∧ tokL (lStar n e r).2 ≠ [42]
  | 0, e, r, h => by
    have : r = [] := List.length_eq_zero_iff.mp (by omega)
    subst this
    exact ⟨fun _ _ h => h, fun h => h, Nat.le_refl _, Nat.le_refl _, by show tokL [] ≠ _; decide⟩
  | n + 1, e, r, h => by
    by_cases c : tokL r = [42]
    · have e1 : lStar (n + 1) e r = lStar n (.star e) (nxS r) := by
        show (if tokL r = [42] then _ else _) = _
        rw [if_pos c]
      have hr : r ≠ [] := fun z => by subst z; cases c
      have l1 := nxS_lt hr
      have o1 := cO_lt c (.inl rfl)
      obtain ⟨i1, i2, i3, i4, i5⟩ := lStar_rd n (.star e) (nxS r) (by omega)
      rw [e1]
      have s1 : (Xp.star e).sz = e.sz + 1 := rfl
      have s2 : (Xp.star e).nl = e.nl + 1 := rfl
      exact ⟨fun k o hs => star_step c (i1 k o hs), i2, by omega, by omega, i5⟩
    · rw [lStar_no c]
      exact ⟨fun _ _ h => h, fun h => h, Nat.le_refl _, Nat.le_refl _, c⟩
theorem pStar_rd {d : Nat} {r : List Nat} (h : Rd (pSimple (gE d)) r) : Rd (pStar (gE d)) r ∧ ∀ z, pStar (gE d) r = .ok z → tokL z.2 ≠ [42] := by
  have eq : pStar (gE d) r = match pSimple (gE d) r with | .ok z => .ok (lStar z.2.length z.1 z.2) | .error n => .error n := rfl
  cases q : pSimple (gE d) r with
  | error n =>
    rw [q] at eq
    exact ⟨⟨fun z hz => (by rw [eq] at hz; cases hz), fun m hm k => by rw [eq] at hm; cases hm; exact h.er n q k⟩, fun z hz => by rw [eq] at hz; cases hz⟩
  | ok z =>
    rw [q] at eq
    obtain ⟨a1, a2, a3, a4⟩ := h.ok z q
    obtain ⟨i1, i2, i3, i4, i5⟩ := lStar_rd z.2.length z.1 z.2 (Nat.le_refl _)
    refine ⟨⟨fun y hy => ?_, fun m hm => (by rw [eq] at hm; cases hm)⟩, fun y hy => ?_⟩
    · rw [eq] at hy; cases hy
      exact ⟨fun k o hs => a1 k o (i1 k o hs), i2 a2, by omega, by omega⟩
    · rw [eq] at hy; cases hy
      exact i5
theorem lJoin_rd {d : Nat} : ∀ (n : Nat) (e : Xp) (r : List Nat), r.length ≤ n → e.ok → (∀ r2, r2 <:+ r → Rd (pStar (gE d)) r2 ∧ ∀ z, pStar (gE d) r2 = .ok z → tokL z.2 ≠ [42]) → tokL r ≠ [42] →
    (∀ z, lJoin (gE d) n e r = .ok z → (∀ k o, Sc false k z.2 o → Sc false k r o) ∧ z.1.ok ∧ z.1.sz + z.2.length ≤ e.sz + r.length ∧ z.1.nl + cO z.2 ≤ e.nl + cO r ∧ tokL z.2 ≠ [42] ∧ tokL z.2 ≠ [46]) ∧ (∀ m, lJoin (gE d) n e r = .error m → ∀ k, Sc false k r (some m))
  | 0, e, r, h, ho, _, h42 => by
    have : r = [] := List.length_eq_zero_iff.mp (by omega)
    subst this
    exact ⟨fun z hz => by cases hz; exact ⟨fun _ _ h => h, ho, Nat.le_refl _, Nat.le_refl _, h42, by show tokL [] ≠ _; decide⟩, fun m hm => by cases hm⟩
  | n + 1, e, r, h, ho, hS, h42 => by
    by_cases c : tokL r = [46]
    · have hr : r ≠ [] := fun z => by subst z; cases c
      have l1 := nxS_lt hr
      have o1 := cO_lt c (.inr (.inr rfl))
      obtain ⟨S1, S2⟩ := hS (nxS r) (nxS_suf r)
      cases q : pStar (gE d) (nxS r) with
      | error m =>
        have eq : lJoin (gE d) (n + 1) e r = .error m := by rw [lJoin_s, if_pos c, q]
        exact ⟨fun z hz => (by rw [eq] at hz; cases hz), fun m' hm k => by rw [eq] at hm; cases hm; exact op_step c (.inr rfl) (S1.er _ q k)⟩
      | ok y =>
        have eq : lJoin (gE d) (n + 1) e r = lJoin (gE d) n (.join e y.1) y.2 := by rw [lJoin_s, if_pos c, q]
        obtain ⟨a1, a2, a3, a4⟩ := S1.ok y q
        have sf := pStar_sf (gE_sf d) _ _ q
        have o2 := cO_suf sf
        obtain ⟨I1, I2⟩ := lJoin_rd n (.join e y.1) y.2 (by have := sf.length_le; omega) ⟨ho, a2⟩ (fun r2 h2 => hS r2 (h2.trans (sf.trans (nxS_suf r)))) (S2 y q)
        rw [eq]
        have s1 : (Xp.join e y.1).sz = e.sz + y.1.sz + 1 := rfl
        have s2 : (Xp.join e y.1).nl = e.nl + y.1.nl + 1 := rfl
        refine ⟨fun z hz => ?_, fun m hm k => op_step c (.inr rfl) (a1 k _ (I2 m hm k))⟩
        obtain ⟨b1, b2, b3, b4, b5⟩ := I1 z hz
        exact ⟨fun k o hs => op_step c (.inr rfl) (a1 k o (b1 k o hs)), b2, by omega, by omega, b5⟩
    · rw [lJoin_no c]
      exact ⟨fun z hz => by cases hz; exact ⟨fun _ _ h => h, ho, Nat.le_refl _, Nat.le_refl _, h42, c⟩, fun m hm => by cases hm⟩
theorem pJoin_rd {d : Nat} {r : List Nat} (hS : ∀ r2, r2 <:+ r → Rd (pStar (gE d)) r2 ∧ ∀ z, pStar (gE d) r2 = .ok z → tokL z.2 ≠ [42]) : Rd (pJoin (gE d)) r ∧ ∀ z, pJoin (gE d) r = .ok z → tokL z.2 ≠ [42] ∧ tokL z.2 ≠ [46] := by
  have eq : pJoin (gE d) r = match pStar (gE d) r with | .ok z => lJoin (gE d) z.2.length z.1 z.2 | .error n => .error n := rfl
  obtain ⟨S1, S2⟩ := hS r (List.suffix_refl _)
  cases q : pStar (gE d) r with
  | error n =>
    rw [q] at eq
    exact ⟨⟨fun z hz => (by rw [eq] at hz; cases hz), fun m hm k => by rw [eq] at hm; cases hm; exact S1.er n q k⟩, fun z hz => by rw [eq] at hz; cases hz⟩
  | ok y =>
    rw [q] at eq
    dsimp only at eq
    obtain ⟨a1, a2, a3, a4⟩ := S1.ok y q
    have sf := pStar_sf (gE_sf d) _ _ q
    obtain ⟨I1, I2⟩ := lJoin_rd (d := d) y.2.length y.1 y.2 (Nat.le_refl _) a2 (fun r2 h2 => hS r2 (h2.trans sf)) (S2 y q)
    refine ⟨⟨fun z hz => ?_, fun m hm k => ?_⟩, fun z hz => ?_⟩
    · rw [eq] at hz
      obtain ⟨b1, b2, b3, b4, b5⟩ := I1 z hz
      exact ⟨fun k o hs => a1 k o (b1 k o hs), b2, by omega, by omega⟩
    · rw [eq] at hm
      exact a1 k _ (I2 m hm k)
    · rw [eq] at hz
      exact (I1 z hz).2.2.2.2
theorem lEither_rd {d : Nat} : ∀ (n : Nat) (e : Xp) (r : List Nat), r.length ≤ n → e.ok → (∀ r2, r2 <:+ r → Rd (pJoin (gE d)) r2 ∧ ∀ z, pJoin (gE d) r2 = .ok z → tokL z.2 ≠ [42] ∧ tokL z.2 ≠ [46]) → tokL r ≠ [42] ∧ tokL r ≠ [46] →
    (∀ z, lEither (gE d) n e r = .ok z → (∀ k o, Sc false k z.2 o → Sc false k r o) ∧ z.1.ok ∧ z.1.sz + z.2.length ≤ e.sz + r.length ∧ z.1.nl + cO z.2 ≤ e.nl + cO r ∧ (tokL z.2 ≠ [42] ∧ tokL z.2 ≠ [46]) ∧ tokL z.2 ≠ [43]) ∧ (∀ m, lEither (gE d) n e r = .error m → ∀ k, Sc false k r (some m))
  | 0, e, r, h, ho, _, h42 => by
    have : r = [] := List.length_eq_zero_iff.mp (by omega)
    subst this
    exact ⟨fun z hz => by cases hz; exact ⟨fun _ _ h => h, ho, Nat.le_refl _, Nat.le_refl _, h42, by show tokL [] ≠ _; decide⟩, fun m hm => by cases hm⟩
  | n + 1, e, r, h, ho, hS, h42 => by
    by_cases c : tokL r = [43]
    · have hr : r ≠ [] := fun z => by subst z; cases c
      have l1 := nxS_lt hr
      have o1 := cO_lt c (.inr (.inl rfl))
      obtain ⟨S1, S2⟩ := hS (nxS r) (nxS_suf r)
      cases q : pJoin (gE d) (nxS r) with
      | error m =>
        have eq : lEither (gE d) (n + 1) e r = .error m := by rw [lEither_s, if_pos c, q]
        exact ⟨fun z hz => (by rw [eq] at hz; cases hz), fun m' hm k => by rw [eq] at hm; cases hm; exact op_step c (.inl rfl) (S1.er _ q k)⟩
      | ok y =>
        have eq : lEither (gE d) (n + 1) e r = lEither (gE d) n (.either e y.1) y.2 := by rw [lEither_s, if_pos c, q]
        obtain ⟨a1, a2, a3, a4⟩ := S1.ok y q
        have sf := pJoin_sf (gE_sf d) _ _ q
        have o2 := cO_suf sf
        obtain ⟨I1, I2⟩ := lEither_rd n (.either e y.1) y.2 (by have := sf.length_le; omega) ⟨ho, a2⟩ (fun r2 h2 => hS r2 (h2.trans (sf.trans (nxS_suf r)))) (S2 y q)
        rw [eq]
        have s1 : (Xp.either e y.1).sz = e.sz + y.1.sz + 1 := rfl
        have s2 : (Xp.either e y.1).nl = e.nl + y.1.nl + 1 := rfl
        refine ⟨fun z hz => ?_, fun m hm k => op_step c (.inl rfl) (a1 k _ (I2 m hm k))⟩
        obtain ⟨b1, b2, b3, b4, b5⟩ := I1 z hz
        exact ⟨fun k o hs => op_step c (.inl rfl) (a1 k o (b1 k o hs)), b2, by omega, by omega, b5⟩
    · rw [lEither_no c]
      exact ⟨fun z hz => by cases hz; exact ⟨fun _ _ h => h, ho, Nat.le_refl _, Nat.le_refl _, h42, c⟩, fun m hm => by cases hm⟩
theorem pEither_rd {d : Nat} {r : List Nat} (hS : ∀ r2, r2 <:+ r → Rd (pJoin (gE d)) r2 ∧ ∀ z, pJoin (gE d) r2 = .ok z → tokL z.2 ≠ [42] ∧ tokL z.2 ≠ [46]) : Rd (pEither (gE d)) r ∧ ∀ z, pEither (gE d) r = .ok z → tokL z.2 ≠ [42] ∧ tokL z.2 ≠ [43] ∧ tokL z.2 ≠ [46] := by
  have eq : pEither (gE d) r = match pJoin (gE d) r with | .ok z => lEither (gE d) z.2.length z.1 z.2 | .error n => .error n := rfl
  obtain ⟨S1, S2⟩ := hS r (List.suffix_refl _)
  cases q : pJoin (gE d) r with
  | error n =>
    rw [q] at eq
    exact ⟨⟨fun z hz => (by rw [eq] at hz; cases hz), fun m hm k => by rw [eq] at hm; cases hm; exact S1.er n q k⟩, fun z hz => by rw [eq] at hz; cases hz⟩
  | ok y =>
    rw [q] at eq
    dsimp only at eq
    obtain ⟨a1, a2, a3, a4⟩ := S1.ok y q
    have sf := pJoin_sf (gE_sf d) _ _ q
    obtain ⟨I1, I2⟩ := lEither_rd (d := d) y.2.length y.1 y.2 (Nat.le_refl _) a2 (fun r2 h2 => hS r2 (h2.trans sf)) (S2 y q)
    refine ⟨⟨fun z hz => ?_, fun m hm k => ?_⟩, fun z hz => ?_⟩
    · rw [eq] at hz
      obtain ⟨b1, b2, b3, b4, b5⟩ := I1 z hz
      exact ⟨fun k o hs => a1 k o (b1 k o hs), b2, by omega, by omega⟩
    · rw [eq] at hm
      exact a1 k _ (I2 m hm k)
    · rw [eq] at hz
      obtain ⟨b1, b2, b3, b4, b5, b6⟩ := I1 z hz
      exact ⟨b5.1, b6, b5.2⟩
theorem gE_rd : ∀ (d : Nat) (r : List Nat), cP r < d → Rd (gE d) r ∧ ∀ z, gE d r = .ok z → tokL z.2 ≠ [42] ∧ tokL z.2 ≠ [43] ∧ tokL z.2 ≠ [46]
  | 0, r, h => absurd h (Nat.not_lt_zero _)
  | d + 1, r, h => by
    have S : ∀ r2, r2 <:+ r → Rd (pStar (gE d)) r2 ∧ ∀ z, pStar (gE d) r2 = .ok z → tokL z.2 ≠ [42] := fun r2 h2 => pStar_rd (pSimple_rd (by have := cP_suf h2; omega) (gE_rd d))
    have J : ∀ r2, r2 <:+ r → Rd (pJoin (gE d)) r2 ∧ ∀ z, pJoin (gE d) r2 = .ok z → tokL z.2 ≠ [42] ∧ tokL z.2 ≠ [46] := fun r2 h2 => pJoin_rd fun r3 h3 => S r3 (h3.trans h2)
    exact pEither_rd J
/-- what the whole text comes to: its expression, or the place at which it stops being one -/
def out (d : Nat) (w : List Nat) : Except Nat Xp := match gE d (dropSp w) with
  | .ok z => if z.2 = [] then .ok z.1 else .error (w.length - z.2.length)
  | .error n => .error (w.length - n)
theorem out_sc {d : Nat} {w : List Nat} (h : cP w < d) : (∀ e, out d w = .ok e → Sc true 0 (dropSp w) none ∧ e.ok ∧ e.sz ≤ w.length ∧ e.nl ≤ cO w) ∧ (∀ p, out d w = .error p → ∃ n, p = w.length - n ∧ Sc true 0 (dropSp w) (some n)) := by
  have sf : dropSp w <:+ w := List.dropWhile_suffix _
  obtain ⟨R, T⟩ := gE_rd d (dropSp w) (Nat.lt_of_le_of_lt (cP_suf sf) h)
  unfold out
  cases q : gE d (dropSp w) with
  | error n => exact ⟨fun e he => (by cases he), fun p hp => by cases hp; exact ⟨n, rfl, R.er n q 0⟩⟩
  | ok z =>
    obtain ⟨a1, a2, a3, a4⟩ := R.ok z q
    obtain ⟨t1, t2, t3⟩ := T z q
    dsimp only
    have l1 := sf.length_le
    have o1 := cO_suf sf
    by_cases hz : z.2 = []
    · rw [if_pos hz]
      refine ⟨fun e he => ?_, fun p hp => (by cases hp)⟩
      cases he
      exact ⟨a1 0 none (by rw [hz]; exact .fin), a2, by omega, by omega⟩
    · rw [if_neg hz]
      refine ⟨fun e he => (by cases he), fun p hp => ?_⟩
      cases hp
      refine ⟨_, rfl, a1 0 _ (.bad hz ?_)⟩
      unfold stp
      by_cases x : tokL z.2 = [40]
      · rw [if_pos x]; rfl
      rw [if_neg x]
      by_cases y : tokL z.2 = [41]
      · rw [if_pos y]; rfl
      rw [if_neg y, if_neg (fun x => x.elim t2 t3), if_neg t1]
      split <;> rfl
/-! ### what a printed text has of these signs -/
theorem cP_app (a b : List Nat) : cP (a ++ b) = cP a + cP b := List.count_append
theorem cO_app (a b : List Nat) : cO (a ++ b) = cO a + cO b := by unfold cO; rw [List.filter_append, List.length_append]
theorem txt_cP : ∀ (e : Xp) (k : Nat), e.ok → cP (txt e k) ≤ e.nl
  | .letter n, k, h => by
    have h : n ≤ 9 := h
    show cP [48 + n] ≤ 0
    unfold cP
    rw [List.count_cons_of_ne (by omega)]
    exact Nat.le_refl _
  | .none, k, _ => by show cP wN ≤ 0; decide
  | .empty, k, _ => by show cP wE ≤ 0; decide
  | .star e, k, h => by
    have := txt_cP e 2 h
    show cP (txt e 2 ++ [42]) ≤ e.nl + 1
    rw [cP_app]
    have : cP [42] = 0 := by decide
    omega
  | .either a b, k, h => by
    have h1 := txt_cP a 0 h.1
    have h2 := txt_cP b 1 h.2
    have e1 : cP [32, 43, 32] = 0 := by decide
    have e2 : cP [40] = 1 := by decide
    have e3 : cP [41] = 0 := by decide
    show cP (par _ _) ≤ a.nl + b.nl + 1
    unfold par
    split <;> simp only [cP_app] <;> omega
  | .join a b, k, h => by
    have h1 := txt_cP a 1 h.1
    have h2 := txt_cP b 2 h.2
    have e1 : cP [32, 46, 32] = 0 := by decide
    have e2 : cP [40] = 1 := by decide
    have e3 : cP [41] = 0 := by decide
    show cP (par _ _) ≤ a.nl + b.nl + 1
    unfold par
    split <;> simp only [cP_app] <;> omega
theorem txt_cO : ∀ (e : Xp) (k : Nat), e.ok → cO (txt e k) ≤ e.sz
  | .letter n, k, h => by
    show cO [48 + n] ≤ 1
    unfold cO
    exact Nat.le_trans (List.length_filter_le _ _) (by simp)
  | .none, k, _ => by show cO wN ≤ 1; decide
  | .empty, k, _ => by show cO wE ≤ 1; decide
  | .star e, k, h => by
    have := txt_cO e 2 h
    show cO (txt e 2 ++ [42]) ≤ e.sz + 1
    rw [cO_app]
    have : cO [42] = 1 := by decide
    omega
  | .either a b, k, h => by
    have h1 := txt_cO a 0 h.1
    have h2 := txt_cO b 1 h.2
    have e1 : cO [32, 43, 32] = 1 := by decide
    have e2 : cO [40] = 0 := by decide
    have e3 : cO [41] = 0 := by decide
    show cO (par _ _) ≤ a.sz + b.sz + 1
    unfold par
    split <;> simp only [cO_app] <;> omega
  | .join a b, k, h => by
    have h1 := txt_cO a 1 h.1
    have h2 := txt_cO b 2 h.2
    have e1 : cO [32, 46, 32] = 1 := by decide
    have e2 : cO [40] = 0 := by decide
    have e3 : cO [41] = 0 := by decide
    show cO (par _ _) ≤ a.sz + b.sz + 1
    unfold par
    split <;> simp only [cO_app] <;> omega
end My
/-! HqTg: slices of texts. -/
namespace Hq
open PySem L2
/-- l[lo:hi] -/
def cutN (l : List Nat) (lo hi : Option Int) : List Nat := (l.drop (HT.sIx l.length 0 lo)).take (HT.sIx l.length l.length hi - HT.sIx l.length 0 lo)
theorem cutN_mid {l : List Nat} {a k : Nat} (h : a ≤ l.length) : cutN l (some (a : Int)) (some ((a + k : Nat) : Int)) = (l.drop a).take k := by
  unfold cutN
  rw [HT.sIx_nat, HT.sIx_nat, Nat.min_eq_left h]
  rcases Nat.le_total (a + k) l.length with z | z
  · rw [Nat.min_eq_left z, Nat.add_sub_cancel_left]
  · rw [Nat.min_eq_right z, List.take_of_length_le (by rw [List.length_drop]; omega), List.take_of_length_le (by rw [List.length_drop]; omega)]
theorem cutN_to {l : List Nat} {a : Nat} : cutN l none (some (a : Int)) = l.take a := by
  unfold cutN
  rw [HT.sIx_nat, HT.sIx_none, List.drop_zero, Nat.sub_zero]
  rcases Nat.le_total a l.length with z | z
  · rw [Nat.min_eq_left z]
  · rw [Nat.min_eq_right z, List.take_of_length_le z, List.take_of_length_le (Nat.le_refl _)]
theorem cutN_from {l : List Nat} {a : Nat} : cutN l (some (a : Int)) none = l.drop a := by
  unfold cutN
  rw [HT.sIx_nat, HT.sIx_none, List.take_of_length_le (by rw [List.length_drop]; omega)]
  rcases Nat.le_total a l.length with z | z
  · rw [Nat.min_eq_left z]
  · rw [Nat.min_eq_right z, List.drop_eq_nil_of_le z, List.drop_eq_nil_of_le (Nat.le_refl _)]
section
variable {K : PySem.W.Frag} {E : Ent} {F H : Hp} {M M1 : Ms} {Γ : Gm} {te : TE} {l : List Nat}
theorem cutS_N {lo hi : Option Int} : cutS ⟨l.toArray⟩ lo hi = ⟨(cutN l lo hi).toArray⟩ := by
  unfold cutS cutN
  have : (⟨l.toArray⟩ : Str).length = l.length := by show l.toArray.size = _; simp
  rw [this]
theorem ev_slS {lo hi : Option Int} {tl th : TO} (h : Ev te Γ M (D K (dS l)) M1) (h1 : EvP tl Γ M1 lo) (h2 : EvP th Γ M1 hi) (hl : l.length ≤ 16000000) : Ev (tSl rSlS te tl th) Γ M (D K (dS (cutN l lo hi))) M1 := fun E F σ H a b Q k =>
  h E F σ H a b _ fun v F1 H1 e1 g1 p1 => h1 E F1 σ H1 g1 (b.mono e1) _ fun F2 H2 e2 g2 => h2 E F2 σ H2 g2 (b.mono (e1.trans e2)) _ fun F3 H3 e3 g3 => by
    cases dp_strS p1
    refine ⟨_, rfl, line24 (by show l.toArray.size ≤ _; simpa using hl), ?_⟩
    rw [cutS_N]
    exact k _ F3 H3 ((e1.trans e2).trans e3) g3 (.str _)
end
end Hq
namespace My
open Hq PySem
/-- the signs of a text of an expression, but the space -/
abbrev sgl : List Nat := [48, 49, 50, 51, 52, 53, 54, 55, 56, 57, 43, 46, 42, 40, 41]
/-- the token, [] if it is none -/
def ltok : List Nat → List Nat
  | [] => []
  | c :: r => if (c :: r).take 4 = wN then wN else if (c :: r).take 5 = wE then wE else if c ∈ sgl then [c] else []
theorem ltok_cons {c : Nat} {r : List Nat} : ltok (c :: r) = if (c :: r).take 4 = wN then wN else if (c :: r).take 5 = wE then wE else if c ∈ sgl then [c] else [] := rfl
theorem ltok_nil {r : List Nat} {due : Bool} {k : Nat} (hr : r ≠ []) (h : ltok r = []) : stp due k (tokL r) = none := by
  cases r with
  | nil => exact absurd rfl hr
  | cons c r =>
    rw [ltok_cons] at h
    rw [tokL_cons]
    by_cases c1 : (c :: r).take 4 = wN
    · rw [if_pos c1] at h; cases h
    rw [if_neg c1] at h ⊢
    by_cases c2 : (c :: r).take 5 = wE
    · rw [if_pos c2] at h; cases h
    rw [if_neg c2] at h ⊢
    by_cases c3 : c ∈ sgl
    · rw [if_pos c3] at h; cases h
    have n : ∀ x ∈ sgl, ([c] : List Nat) ≠ [x] := fun x hx e => c3 (by rw [(List.cons.inj e).1]; exact hx)
    unfold stp
    rw [if_neg (n 40 (by decide)), if_neg (n 41 (by decide)), if_neg (fun e => e.elim (n 43 (by decide)) (n 46 (by decide))), if_neg (n 42 (by decide)), if_neg]
    unfold isOpd
    have d1 : decide ([c] = wN) = false := decide_eq_false fun e => by simp at e
    have d2 : decide ([c] = wE) = false := decide_eq_false fun e => by simp at e
    rw [d1, d2, Bool.false_or, Bool.false_or]
    intro z
    have z := of_decide_eq_true z
    have z1 : 48 ≤ c := z.2.1
    have z2 : c ≤ 57 := z.2.2
    apply c3
    simp only [List.mem_cons, List.not_mem_nil, or_false]
    omega
theorem ltok_some {r : List Nat} (h : ltok r ≠ []) : ltok r = tokL r := by
  cases r with
  | nil => exact absurd rfl h
  | cons c r =>
    rw [ltok_cons] at h ⊢
    rw [tokL_cons]
    by_cases c1 : (c :: r).take 4 = wN
    · rw [if_pos c1, if_pos c1]
    rw [if_neg c1] at h ⊢
    rw [if_neg c1]
    by_cases c2 : (c :: r).take 5 = wE
    · rw [if_pos c2, if_pos c2]
    rw [if_neg c2] at h ⊢
    rw [if_neg c2]
    by_cases c3 : c ∈ sgl
    · rw [if_pos c3]
    · rw [if_neg c3] at h; exact absurd rfl h
/-- of the tokens that are none of the signs ( ) + . * -/
theorem stp_opd {due : Bool} {k : Nat} {r : List Nat} (h : ltok r ≠ []) (h1 : tokL r ≠ [40]) (h2 : tokL r ≠ [41]) (h3 : ¬(tokL r = [43] ∨ tokL r = [46])) (h4 : tokL r ≠ [42]) : stp due k (tokL r) = if due then some (false, k) else none := by
  unfold stp
  rw [if_neg h1, if_neg h2, if_neg h3, if_neg h4, if_pos]
  have e := ltok_some h
  rw [← e] at h1 h2 h3 h4 ⊢
  unfold isOpd
  cases r with
  | nil => exact absurd rfl h
  | cons c r =>
    rw [ltok_cons] at h h1 h2 h3 h4 ⊢
    by_cases c1 : (c :: r).take 4 = wN
    · rw [if_pos c1]; rfl
    rw [if_neg c1] at h h1 h2 h3 h4 ⊢
    by_cases c2 : (c :: r).take 5 = wE
    · rw [if_pos c2]; rfl
    rw [if_neg c2] at h h1 h2 h3 h4 ⊢
    by_cases c3 : c ∈ sgl
    · rw [if_pos c3] at h h1 h2 h3 h4 ⊢
      have c4 : 48 ≤ c ∧ c ≤ 57 := by
        simp only [List.mem_cons, List.not_mem_nil, or_false] at c3
        rcases c3 with rfl | rfl | rfl | rfl | rfl | rfl | rfl | rfl | rfl | rfl | rfl | rfl | rfl | rfl | rfl <;> first | decide | exact absurd rfl h1 | exact absurd rfl h2 | exact absurd (Or.inl rfl) h3 | exact absurd (Or.inr rfl) h3 | exact absurd rfl h4
      rw [show decide ([c] ≠ [] ∧ 48 ≤ ([c] : List Nat).headD 0 ∧ ([c] : List Nat).headD 0 ≤ 57) = true from decide_eq_true ⟨by simp, c4.1, c4.2⟩, Bool.or_true]
    · rw [if_neg c3] at h; exact absurd rfl h
/-- the place of the fault, -1 if there is none -/
def fz (w : List Nat) : Option Nat → Int
  | none => -1
  | some n => ((w.length - n : Nat) : Int)
theorem nxS_drop {w : List Nat} {i : Nat} (h : i ≤ w.length) : nxS (w.drop i) = dropSp (w.drop (i + (tokL (w.drop i)).length)) := by
  unfold nxS
  rw [List.drop_drop]
end My
set_option maxHeartbeats 2000000
/-! HqTe: an own exception whose __init__ hands a text to super().__init__ and keeps a field. -/
namespace HqTe
open PySem PySem.W PySem.Calls PyProof.Rows
def eArgs : Arguments :=
  { posonlyargs := [],
    args := [{ arg := "self", annotation := none, pos := ⟨6, 17, 6, 21⟩ }, { arg := "position", annotation := none, pos := ⟨6, 23, 6, 31⟩ }],
    vararg := none, kwonlyargs := [], kw_defaults := [], kwarg := none, defaults := [] }
def eBody : List Stmt :=
  [.Expr (.Call (.Attribute (.Call (.Name "super" ⟨7, 8, 7, 13⟩) [] [] ⟨7, 8, 7, 15⟩) "__init__" ⟨7, 8, 7, 24⟩) [.Constant (.str "this is not the text of an expression") 0 ⟨7, 25, 7, 64⟩] [] ⟨7, 8, 7, 65⟩) ⟨7, 8, 7, 65⟩,
   .Assign [.Attribute (.Name "self" ⟨8, 8, 8, 12⟩) "position" ⟨8, 8, 8, 21⟩] (.Name "position" ⟨8, 24, 8, 32⟩) ⟨8, 8, 8, 32⟩]
def eScope : Scope :=
  { kind := .function,
    names := [(PySem.Str.ofString "self", .local), (PySem.Str.ofString "position", .local), (PySem.Str.ofString "__class__", .free), (PySem.Str.ofString "super", .globalImplicit)],
    isGenerator := false, isCoroutine := false, more := [] }
abbrev eFn (qual : Str) (kV doc pm : Value) (an : Option Addr) (cdv ct : Value) (cc : Addr) : FuncData :=
  ksFn "__init__" qual eArgs eBody eScope .none kV doc pm an cdv ct cc
/-- what the written part says of the class at C and of its __init__ at fI -/
structure ETxt (K : Frag) (mg : Str → Option Value) (C fI : Addr) (file : Str) : Prop where
  cls : ∃ nm q N bs bm sn sub ab col dd k0 k1 k2 k3 k5, K.lookup C = some (excClassObj nm q C N bs bm true sn sub ab col dd k0 k1 k2 k3 k5 "ValueError.__new__") ∧ PySem.HandSPX.refsVE bm = true
  sa : findIn K (.ref C) "__setattr__" = some (some (.builtin "object.__setattr__"))
  ga : findIn K (.ref C) "__getattribute__" = some (some (.builtin "BaseException.__getattribute__"))
  gg : findIn K (.ref C) "__getattr__" = some none
  noF : findIn K (.ref C) "position" = some none
  ini : findIn K (.ref C) "__init__" = some (some (.ref fI))
  tI : typeIn K (.ref fI) = some (.type "function")
  kC : keepIn K (.ref C) = true
  exC : subIn K (.ref C) (.type "BaseException") = some true
  tyC : typeIn K (.ref C) = some (.type "type")
  hdC : hasDictIn K C = true
  te : exmOne K (.ref C) (.ref C) = some true
  veC : subIn K (.ref C) (.type "ValueError") = some true
  selfC : mroIn K C (.ref C) = some true
  sup : ks_superIn K C C "__init__" = some (some (.builtin "ValueError.__init__"))
  tp : nsIn K cStatics "thirdparty.any" = some none
  msup : mg "super" = none
  fn : ∃ (oc : Value) (od : Option Addr) (osl : Array (Option Value)) (qual : Str) (kV doc pm : Value) (an : Option Addr) (cda : Addr) (ct : Value) (cc : Addr),
    K.lookup fI = some ⟨oc, od, .func (eFn qual kV doc pm an (.ref cda) ct cc), osl⟩ ∧ codeIn K (.ref cda) qual = true ∧
    (∃ ccl cdd vs ccs tf, K.lookup cda = some ⟨ccl, cdd, .fields vs, ccs⟩ ∧ vs[2]? = some (.str file tf)) ∧
    ∃ cl cld csl, K.lookup cc = some ⟨cl, cld, .cell (some (.ref C)), csl⟩
/-- what the program must be -/
structure PrgOk (prog : Program) (file : Str) : Prop where
  f : ((prog.main.file : Str) == file) = true
  s : (prog.main.scope.names.lookup ("super" : Str)).isSome = false
theorem kept_by {K : Frag} {h h' : Heap} {x : Addr} (X : K.In h) (hx : K.lookup x = none) (k : ∀ b o, b ≠ x → h.get? b = some o → h'.get? b = some o) : K.In h' :=
  fun a o e => k a o (fun z => by rw [z, hx] at e; cases e) (X a o e)
/-- what __init__ leaves of a fresh exception at x -/
structure EEnd (h h' : Heap) (x C dx t1 : Addr) (v : Value) : Prop where
  keep : ∀ b o, b ≠ x → h.get? b = some o → h'.get? b = some o
  obj : h'.get? x = some { cls := .ref C, dict := some dx, data := .fields #[.ref t1, .none, .none, .none, .bool false, .none] }
  dbig : h.objs.size ≤ dx
  dne : dx ≠ x
  ns : h'.Ns1 dx (fun y => if y = "position" then some v else none)
section
variable {prog : Program} {w : World} {A : Around} {E : Value → Shared → Prop} {R : Result → Shared → Prop} {K : Frag} {mg : Str → Option Value} {C fI : Addr} {file : Str}
theorem call_mw {nm q : Str} {N : Addr} {bs bm : List Value} {hdct : Bool} {sn : List Str} {sub : List Value} {ab : Bool} {col : Option Bool} {dd : Option Addr} {k0 k1 k2 k3 k5 : Option Value} {h : Heap} {g : Array GenState} {d : Drawn} {t : Nat} {os : OsState}
    {u e t0 : Addr} {rest : List Value} {Q : Value → Shared → Prop}
    (hC : h.get? C = some (excClassObj nm q C N bs bm hdct sn sub ab col dd k0 k1 k2 k3 k5 "ValueError.__new__")) (he : h.get? e = some (HandSPX.excO C t0)) (hu : h.get? u = some (kxs_mw "ValueError.__init__" e)) (hrest : rest.length ≤ sizeLine)
    (hq : ∀ h' t1, (∀ b o, b ≠ e → h.get? b = some o → h'.get? b = some o) → h'.get? e = some (HandSPX.excO C t1) → Q .none ⟨h', g, d, t, os⟩) :
    wpAny (model prog w) A (call (.ref u) rest) Q E ⟨h, g, d, t, os⟩ := by
  refine wpAny_call (codeAny_of_tree ?_)
  show wpAny _ A.in1 (callAny (.ref u) ⟨rest, []⟩) _ _ _
  simp only [callAny]
  refine wpAny_bind (wpAny_load hu ?_)
  simp only [kxs_mw, show (Value.type "method-wrapper" == Value.type "method" || Value.type "method-wrapper" == Value.type "builtin_function_or_method" || Value.type "method-wrapper" == Value.type "method-wrapper") = true by decide, if_true]
  refine KFB.if_so (by decide) ?_
  refine wpAny_bind (ESX.check_bound F.excBase_ValueError hC he rfl ?_)
  refine wpAny_bind (wpAny_pure (wpAny_pure ?_))
  refine ⟨Code.quiet_builtin _ (by decide +kernel), codeAny_builtin F.excBase_ValueError.initEntry ?_⟩
  rw [Around.under_plainId F.excBase_ValueError.init.plain _]
  wp_walk
  refine hq _ h.objs.size (fun b o hb ho => ?_) ?_
  · rw [Heap.get?_update_other _ _ (Ne.symm hb)]
    exact Heap.get?_push_of_some _ ho
  · rw [Heap.get?_update_self _ (Heap.get?_push_of_some _ he) rfl]
    rfl
theorem e_init {s : Shared} (T : ETxt K mg C fI file) (PF : PrgOk prog file) {x t0 : Addr} {v : Value} (X : K.In s.heap) (G : s.heap.Ns mainGlobals mg) (B : ∃ mb, s.heap.Ns builtinsNs mb ∧ ∀ y : Str, y ≠ "__name__" → mb y = bootBuiltins y)
    (hlim : s.heap.NoLimit) (hx : s.heap.get? x = some (HandSPX.excO C t0)) (hroom : A.depth < recursionLimit) (hnx : K.lookup x = none)
    (hq : ∀ h' tk dx t1, EEnd s.heap h' x C dx t1 v → R (.ok (.ret .none)) { s with heap := h', toks := tk }) :
    codeAny (model prog w) A (.call (.ref fI) ⟨[.ref x, v], []⟩) R s := by
  obtain ⟨oc, od, osl, qual, kV, doc, pm, an, cda, ct, cc, ho, hcd, ⟨ccl, cdd, vs, ccs, tf, hcode, hvs⟩, cl, cld, csl, hcell⟩ := T.fn
  obtain ⟨nm, q, N, bs, bm, sn, sub, ab, col, dd, k0, k1, k2, k3, k5, hC, hbm⟩ := T.cls
  obtain ⟨mb, hB, hb⟩ := B
  have hcl : clsIn K C = some { name := nm, bases := bs, mro := .ref C :: bm, ns := N, qualname := q, hasDict := true, slotNames := sn, subclasses := sub, abstract := ab, collection := col, hasDel := false } := by unfold clsIn; rw [hC] <;> rfl
  obtain ⟨hp, g, dr, tk, os⟩ := s
  have hxC : x ≠ C := fun z => by rw [z, hC] at hnx; cases hnx
  refine ks_codeAny_call_defAt (fd := eFn qual kV doc pm an (.ref cda) ct cc) (body := eBody) (binds := [("self", .ref x), ("position", v)]) hroom (X _ _ ho) rfl hlim (codeRec_of X hcd) rfl
    (BindsTo.of_eq (by first | rfl | with_unfolding_all rfl)) (show ∀ y ∈ eScope.names, y.2 ≠ .cell by decide +kernel) (fun y hy => by
      rcases List.mem_cons.mp hy with rfl | hy
      · rfl
      · rw [List.mem_singleton.mp hy]; rfl) (fun h₁ hns k₁ => ?_) rfl rfl rfl
  have X₁ : K.In h₁ := X.keeps k₁
  have hx₁ := k₁ _ _ hx
  refine ks_wpAt_execs_cons (ks_wpAt_Expr_any (ks_wpAt_MethodCall ?_))
  refine ks_wpAt_super_base (by rfl) (by rfl) (by decide +kernel) (by rfl) (X₁ _ _ ho) (by rfl) (by rfl) (by rfl) (X₁ _ _ hcode) (by rfl) hvs PF.f PF.s ?_
  refine ks_loadName_global (by rfl) (by rfl) (loadGlobal_builtin (G.keeps k₁) T.msup (hB.keeps k₁) ((hb _ (by decide)).trans PyProof.Rows.Boot.«super») ⟨rfl, ?_⟩)
  refine wpAny_loadName_free (c := cc) (v := .ref C) (by rfl) (by rfl) (by rfl) ⟨_, X₁ _ _ hcell, rfl⟩ ?_
  refine wpAny_loadName_local (v := .ref x) (by rfl) (by rfl) hns (by rfl) ?_
  refine ks_wpAny_isType_cls (X₁ _ _ hC) rfl ⟨rfl, ?_⟩
  refine ks_wpAny_call_super (X₁ _ _ hC) rfl hx₁ rfl (fun c e => by cases e) (looks_mroIn X₁ T.selfC) (fun h₂ eso k₂ => ?_)
  have X₂ : K.In h₂ := X₁.keeps k₂
  have hx₂ := k₂ _ _ hx₁
  have I₂ : W.InstAt h₂ x (HandSPX.excO C t0) C none := ⟨hx₂, rfl, rfl, trivial⟩
  have hsup : alongIn K "__init__" (((Value.ref C :: bm).dropWhile (· != .ref C)).drop 1) = some (some (.builtin "ValueError.__init__")) := by
    have := T.sup
    unfold ks_superIn at this
    rw [hcl] at this
    exact this
  have lm : Looks (model prog w) h₂ (mroOf (.ref C)) (.ref C :: bm) := (looks_clsIn X₂ hcl).andThen .now
  refine kxs_getMethod kxs_ValueError eso (looks_opaque X₂ T.tp) (l₀ := .ref C :: bm) lm rfl X₂ hsup (I₂.type.andThen (looks_subIn X₂ T.veC)) hxC (by decide +kernel) ?_
  have e3 : (h₂.push (kxs_mw "ValueError.__init__" x)).get? h₂.objs.size = some (kxs_mw "ValueError.__init__" x) := Heap.get?_push_at rfl rfl
  have k₃ : ∀ b o, h₂.get? b = some o → (h₂.push (kxs_mw "ValueError.__init__" x)).get? b = some o := fun b o e => Heap.get?_push_of_some _ e
  show wpAny _ _ (callWith _ (.ref h₂.objs.size) [] (backTo _ (starEach [_] _)) []) _ _ _
  refine kxs_callWith (i := "ValueError.__init__") (x := x) (by rfl) (evalArgs_plain (spliced_cons (Constant_str (x := "this is not the text of an expression") (k := 0) (pos := ⟨7, 25, 7, 64⟩) (spliced_nil ⟨e3, ?_⟩))))
  refine call_mw (k₃ _ _ (X₂ _ _ hC)) (k₃ _ _ hx₂) e3 (by rw [sizeLine_eq]; exact (by decide : 1 ≤ 16777216)) (fun h₄ t1 k₄ hx₄ => ?_)
  have old : ∀ b o, b ≠ x → h₁.get? b = some o → h₄.get? b = some o := fun b o hb e => k₄ b o hb (k₃ b o (k₂ b o e))
  have hL : hp.objs.size ≠ x := Nat.ne_of_gt (Heap.lt_size hx)
  have hns₄ := hns.at fun o e => old _ o hL e
  have X₄ : K.In h₄ := kept_by X₁ hnx old
  refine ks_wpAt_execs_cons (ks_wpAt_Assign_Attr ?_ (by rfl))
  refine wpAt_of_wpAny (wpAny_Name (wpAny_loadName_local (v := v) (by rfl) (by rfl) hns₄ (by rfl) ?_) (by decide))
  refine wpAny_Name (wpAny_loadName_local (v := .ref x) (by rfl) (by rfl) hns₄ (by rfl) ?_) (by decide)
  refine set_plain X₄ (ox := HandSPX.excO C t1) (od := none) ⟨hx₄, rfl, rfl, trivial⟩ T.sa ?_
  refine HandSPX.exc_osa X₄ hx₄ hcl (show PySem.HandSPX.refsVE (.ref C :: bm) = true from hbm) rfl T.noF (fun h₅ tk₅ dx k₅ dn dne hx₅ hn₅ => ?_)
  refine wpAt_of_wpAny (wpAny_execs_nil (hq h₅ tk₅ dx t1 ⟨fun b o hb e => k₅ b o hb (old b o hb (k₁ b o e)), hx₅, ?_, dne, hn₅⟩))
  exact Nat.le_of_lt (Nat.lt_of_lt_of_le hns₄.lt dn)
/-- a made one -/
structure EMade (h h' : Heap) (e C d : Addr) (v : Value) : Prop where
  keep : ∀ b o, h.get? b = some o → h'.get? b = some o
  new : h.objs.size ≤ e
  obj : ∃ oe vs, h'.get? e = some oe ∧ oe.cls = .ref C ∧ oe.dict = some d ∧ oe.data = .fields vs ∧ vs[1]? = some .none
  dbig : h.objs.size ≤ d
  dne : d ≠ e
  ns : h'.Ns1 d (fun y => if y = "position" then some v else none)
theorem e_made {s : Shared} (T : ETxt K mg C fI file) (PF : PrgOk prog file) {v : Value} (X : K.In s.heap) (G : s.heap.Ns mainGlobals mg) (B : ∃ mb, s.heap.Ns builtinsNs mb ∧ ∀ y : Str, y ≠ "__name__" → mb y = bootBuiltins y) (hlim : s.heap.NoLimit) (hroom : A.depth + 1 < recursionLimit)
    (hq : ∀ h' tk e d, EMade s.heap h' e C d v → R (.ok (.ret (.ref e))) { s with heap := h', toks := tk }) : codeAny (model prog w) A (.call (.ref C) ⟨[v], []⟩) R s := by
  obtain ⟨nm, q, N, bs, bm, sn, sub, ab, col, dd, k0, k1, k2, k3, k5, hC, hbm⟩ := T.cls
  obtain ⟨hp, g, dr, tk, os⟩ := s
  obtain ⟨mb, hB, hb⟩ := B
  have up : ∀ b o, hp.get? b = some o → ((hp.push (kdv_tup [v])).push (HandSPX.excO C hp.objs.size)).get? b = some o := fun b o e => Heap.get?_push_of_some _ (Heap.get?_push_of_some _ e)
  have at_ : ((hp.push (kdv_tup [v])).push (HandSPX.excO C hp.objs.size)).get? (hp.objs.size + 1) = some (HandSPX.excO C hp.objs.size) := by heap_get
  have un : K.lookup (hp.objs.size + 1) = none := by
    cases e : K.lookup (hp.objs.size + 1) with
    | none => rfl
    | some o =>
      have z := Heap.lt_size (X _ _ e)
      exact absurd (Nat.lt_of_succ_lt z) (Nat.lt_irrefl _)
  refine HandSPX.call_own F.excBase_ValueError (fun Y => HandSPX.refsVE_contains Y bm hbm) (X _ _ hC) (looks_findIn X T.ini) (fun self => bind_fn X self T.tI) (by rw [sizeLine_eq]; exact (by decide : 1 ≤ 16777216)) ?_
  refine e_init (s := ⟨(hp.push (kdv_tup [v])).push (HandSPX.excO C hp.objs.size), g, dr, tk, os⟩) T PF (X.keeps up) (G.keeps up) ⟨mb, hB.keeps up, hb⟩ (hlim.keeps up) at_ hroom un fun h' tk' dx t1 M => ?_
  have old : ∀ b o, hp.get? b = some o → h'.get? b = some o := fun b o e => M.keep b o (Nat.ne_of_lt (Nat.lt_succ_of_lt (Heap.lt_size e))) (up b o e)
  have sz : ((hp.push (kdv_tup [v])).push (HandSPX.excO C hp.objs.size)).objs.size = hp.objs.size + 1 + 1 := by simp [Heap.push]
  have db := M.dbig
  rw [sz] at db
  exact ⟨rfl, hq h' tk' (hp.objs.size + 1) dx ⟨old, Nat.le_succ _, ⟨_, _, M.obj, rfl, rfl, rfl, rfl⟩, Nat.le_trans (Nat.le_succ _) (Nat.le_trans (Nat.le_succ _) db), M.dne, M.ns⟩⟩
end
end HqTe
namespace HqTe
open PySem PySem.Spec PyProof.Rows L2
theorem relO_pos {v : V} {v' : Value} (r : RelV v v') (f : Str) : RelO (List.lookup f [(("position" : Str), v)]) (if f = "position" then some v' else none) := by
  by_cases hw : f = "position"
  · subst hw
    rw [if_pos rfl, show List.lookup ("position" : Str) [(("position" : Str), v)] = some v by simp [List.lookup]]
    exact r
  · have qw : (f == ("position" : Str)) = false := by simpa using hw
    rw [if_neg hw, show List.lookup f [(("position" : Str), v)] = none by simp [List.lookup, qw]]
    trivial
section
variable {X : Cx} {C fI : Addr} {file : Str}
/-- C(e): its dict, at d, is new -/
def tMkE (C : Addr) (ta : TA) : L2.St → Hp → XK → Prop := fun σ H Q => ta σ H fun vs H1 => ∃ v, vs = [v] ∧ ∀ d, H1 d = none → Q (.ref C) (some d) (upd H1 d (.xd [(("position" : Str), v)]))
theorem pmk_e {x : Str} {a : PySem.Expr} {ta : TA} {p pos : Pos} {k : Nat} (T : ETxt X.K X.mg C fI file) (PF : PrgOk X.prog file) (hr : Room k X.A) (hm : X.mg x = some (.ref C)) (ha : PA X [a] ta) (hg : Gl X x)
    (hdb : (x == ("__debug__" : Str)) = false := by decide) (he : starEach (a :: []) X.env = (false, eval a X.env) :: starEach [] X.env := by rfl) (hpl : (backTo pos (starEach [] X.env)).any (·.1) = false := by rfl) :
    PMk X (.Call (.Name x p) [a] [] pos) (tMkE C ta) := fun pins s σ H Q I h => by
  refine wpAny_Call_Name_kw (ld_glob I hg hm ?_ hdb)
  refine PySem.W.callWith_K (h₀ := X.base) I.ok.mod.kin T.kC (thn (ha.run pos pins s σ H _ I h) fun us s1 hh => ?_) he hpl
  obtain ⟨vs, H1, I1, r1, v, ev, q1⟩ := hh
  subst ev
  refine ⟨I1.kIn, ?_⟩
  cases r1 with
  | @cons _ v' _ us' rv rn =>
    cases rn
    show wpAny _ _ (call (.ref C) [v']) _ _ _
    have lim := I1.nolimit
    obtain ⟨mb, m1, m2⟩ := I1.mod.blt
    have G1 : s1.heap.Ns mainGlobals X.mg := I1.mod.glob.keeps I1.bk
    have B1 : ∃ mb, s1.heap.Ns builtinsNs mb ∧ ∀ y : Str, y ≠ "__name__" → mb y = bootBuiltins y := ⟨mb, m1.keeps I1.bk, m2⟩
    obtain ⟨hp, g, dr, tk, os⟩ := s1
    refine wpAny_call (e_made T PF I1.kIn G1 B1 lim (by have := hr.dp; omega) fun h' tk' e d M => ?_)
    show MkP X pins σ Q (.ref e) ⟨h', g, dr, tk', os⟩
    obtain ⟨oe, fv, hoe, hc, hd, hdat, h1⟩ := M.obj
    obtain ⟨G', g1, g2⟩ := restrict h' fun b => decide (b ≠ e)
    have gk : ∀ b, b ≠ e → G'.get? b = h'.get? b := fun b hb => g1 b (decide_eq_true hb)
    have ge : G'.get? e = none := g2 e (by simp)
    have old : ∀ b o, hp.get? b = some o → G'.get? b = some o := fun b o q => (gk b (Nat.ne_of_lt (Nat.lt_of_lt_of_le (Heap.lt_size q) M.new))).trans (M.keep b o q)
    have ob : ObjOk X.prog X.w (upd H1 d (.xd [(("position" : Str), v)])) G' d (.xd [(("position" : Str), v)]) := ⟨_, M.ns.at (fun o q => (gk d M.dne).trans q), fun f => relO_pos rv f⟩
    have J : Inv X pins σ (upd H1 d (.xd [(("position" : Str), v)])) ⟨G', g, dr, tk', os⟩ := I1.laid (t' := tk') old M.dbig ob
    refine ⟨e, oe, fv, ⟨G', g, dr, tk', os⟩, _, .ref C, some d, rfl, J, fun b o q => ?_, ge, hoe, ⟨hc, hd⟩, hdat, h1, ?_, rfl, I1.bare, raises_own T.exC T.tyC, q1 d (I1.hok.fresh M.dbig)⟩
    · by_cases hb : b = e
      · rw [hb] at q
        exact absurd q (by show G'.get? e ≠ _; rw [ge]; exact fun z => by cases z)
      · exact (gk b hb).symm.trans q
    · rw [upd_ne (Ne.symm M.dne)]
      exact I1.hok.fresh M.new
end
end HqTe
/-! HqTf: an own error with its place, on its way. -/
namespace Hq
open PySem L2 HqTe
/-- what is wanted if an error of the class at C leaves that tells the place p -/
def RtF (E : Ent) (M : Ms) (C : Addr) (p : Int) (X : XK) : Prop := ∀ F H d, Pt E F M H → H d = none → X (.ref C) (some d) (upd H d (.xd [(("position" : Str), .int p)]))
/-- te ends with an error -/
def Fl (E : Ent) (Γ : Gm) (M : Ms) (te : TE) : Prop := ∀ F σ H, Pt E F M H → EnvOk F σ Γ → ∀ Q : VK, te σ H Q
section
variable {K : PySem.W.Frag} {E E0 : Ent} {F H : Hp} {M M1 M2 M' : Ms} {Γ : Gm} {P P1 P2 : MP} {O O' : MO} {q : Addr} {te ta tb tl tk t1 t2 t3 : TE} {tr : TA} {D1 : Ends} {tu tz : TS} {g : TG} {ps : List MP} {i j : Nat} {C Cx : Addr} {X : XK} {sp : Sp} {p : Int} {fps : List (Str × MP)} {m : Str}
theorem RtF.drop (s : List.Sublist M M') (h : RtF E M C p X) : RtF E M' C p X := fun F H d a hd => h F H d (a.drop s) hd
theorem RtF.le (l : Le E E0) (h : RtF E0 M C p X) : RtF E M C p X := fun F H d a hd => h F H d (l.to _ _ _ a) hd
theorem RtF.any (h : RtF E [(q, MAny)] C p X) (e : M[j]? = some (q, O)) : RtF E M C p X := fun F H d a hd => by
  have s : List.Sublist [(q, O)] M := List.singleton_sublist.mpr (List.mem_of_getElem? e)
  exact h F H d ((a.drop s).to (j := 0) (O' := MAny) (fun _ _ h => O.nt h) rfl) hd
theorem go_raiseF (h : EvA tr Γ M [D K (.int p)] M1) (k : RtF E M1 C p X) : Nx E Γ M (fun σ H => tMkE C tr σ H fun cls d H' => X cls d H') := fun σ H ⟨F, a, b⟩ => h E F σ H a b _ fun vs F1 H1 e1 a1 p1 => by
  obtain ⟨v, rfl, hv⟩ := ps1 p1
  cases dp_int hv
  exact ⟨_, rfl, fun d hd => k F1 H1 d a1 hd⟩
theorem fl_methO (ho : Ev ta Γ M (Own q) M) (e0 : M[j]? = some (q, MOb C fps)) (hn : ∀ g ∈ fps, g.1 ≠ m) (hs : ∀ vs H Q X, (∃ F, Wd F [(q, MOb C fps)] H ∧ Ps F vs [Own q] ∧ RtF ⟨F, H, keys [(q, MOb C fps)]⟩ [(q, MAny)] Cx p X) → sp vs H Q X)
    (k : RtF E (M.set j (q, MAny)) Cx p X) : Fl E Γ M (tMeth C m sp [] X ta tNil) := fun F σ H a b Q => ho E F σ H a b _ fun v F1 H1 e1 g1 p1 => by
  have p1 : v = .ref q := p1
  subst p1
  obtain ⟨_, o, ho1, dx, fs, rfl, h3⟩ := g1.at e0
  refine ⟨q, dx, fs, rfl, ho1, fo_none h3 hn, ?_⟩
  have hm := List.mem_of_getElem? e0
  refine hs _ _ _ X ⟨F1, ⟨g1.ex, by simp [keys], fun r hr => ?_⟩, .cons rfl .nil, fun F' H' d g hd => k F' H' d (g1.frame g (fun z hz => ?_) (keys_set e0) fun r hr => ?_) hd⟩
  · rw [List.mem_singleton.mp hr]; exact g1.wd.own _ hm
  · rw [List.mem_singleton.mp hz]; exact List.mem_map_of_mem (f := (·.1)) hm
  · rcases mem_set_ne g1.wd.nd e0 r hr with z | ⟨z, n⟩
    · rw [z]; exact .inr List.mem_cons_self
    · exact .inl ⟨fun w => n (List.mem_singleton.mp w), z⟩
theorem fl_call0 (h : EvA tr Γ M ps M1) (hs : ∀ vs H Q X, (∃ F, Wd F [] H ∧ Ps F vs ps ∧ RtF ⟨F, H, keys []⟩ [] Cx p X) → sp vs H Q X) (k : RtF E M1 Cx p X) : Fl E Γ M (tCall sp [] X tr) := fun F σ H a b Q => h E F σ H a b _ fun vs F1 H1 e1 a1 p1 => by
  show sp (vs ++ []) H1 Q X
  rw [List.append_nil]
  exact hs vs H1 Q X ⟨F1, ⟨a1.wd.ex, List.nodup_nil, fun r hr => by cases hr⟩, p1, fun F' H' d g hd => k F' H' d (a1.frame g (fun z hz => by cases hz) rfl fun r hr => .inl ⟨fun z => (by cases z), hr⟩) hd⟩
theorem fl_asg (h : Fl E Γ M te) : Nx E Γ M (tSeq (tAsg te g) tz D1) := fun σ H ⟨F, a, b⟩ => h F σ H a b _
theorem fl_asgL (h : Fl E Γ M te) : Nx E Γ M (tAsg te g D1) := fun σ H ⟨F, a, b⟩ => h F σ H a b _
theorem fl_ret (h : Fl E Γ M te) : Nx E Γ M (tRet te D1) := fun σ H ⟨F, a, b⟩ => h F σ H a b _
theorem fl_tup2 (h1 : Ev t1 Γ M P1 M1) (h2 : Fl E Γ M1 t2) : Fl E Γ M (tTup (tCons t1 (tCons t2 tNil))) := fun F σ H a b Q => h1 E F σ H a b _ fun v F1 H1 e1 a1 p1 => h2 F1 σ H1 a1 (b.mono e1) _
theorem fl_tup3 (h1 : Ev t1 Γ M P1 M1) (h2 : Ev t2 Γ M1 P2 M2) (h3 : Fl E Γ M2 t3) : Fl E Γ M (tTup (tCons t1 (tCons t2 (tCons t3 tNil)))) := fun F σ H a b Q => h1 E F σ H a b _ fun v F1 H1 e1 a1 p1 => h2 E F1 σ H1 a1 (b.mono e1) _ fun w F2 H2 e2 a2 p2 => h3 F2 σ H2 a2 ((b.mono e1).mono e2) _
/-- except X as e: return (text, e.position) -/
theorem try_fld {c : Value} {n : Nat} {x : Str} {wl : List Nat} (he : PySem.W.exmOne K (.ref Cx) c = some true) (hi : i < n) (l : Le E E0) (hx : x = ⟨wl.toArray⟩) (k : Rt E0 M (PTu K [D K (dS wl), D K (.int p)]) D1.rt) {D2 : Ends} (hD : D2.rt = D1.rt) :
    RtF E M Cx p (fun cls d H => ∀ σ, σ.length = n → wAs K c i (fun a cls d => tRet (tTup (tCons (tC (.str x)) (tCons (tXf a cls d Cx "position" (tVar i)) tNil)))) (fun _ _ _ _ => False) D2 cls d σ H) := fun F H d g hd σ hσ =>
  ⟨true, he, fun _ a ha => by
    have get : (σ.set i (some (V.ref a)))[i]? = some (some (.ref a)) := by rw [List.getElem?_set_self (by omega)]
    refine ⟨.ref a, get, rfl, rfl, d, [(("position" : Str), .int p)], .int p, rfl, upd_same, by simp [List.lookup], line24 (by simp), fun r hr => ?_⟩
    have g2 := g.junk (o := .xd [(("position" : Str), .int p)]) hd
    rw [hD]
    refine k _ _ _ (l.to _ _ _ (g2.laid hr)) ⟨r, _, rfl, SqT.of upd_same, .cons ?_ (.cons ?_ .nil)⟩
    · rw [hx]; exact .str _
    · exact .int _, fun z => by cases z⟩
end
end Hq
namespace My
open PySem L2 Hq
/-! ### the text by places -/
def top (i : Nat) : Stmt := PySem.Challenge.pw_placewords_k19_expression_text_refused.main.body.getD i (.Pass ⟨0, 0, 0, 0⟩)
abbrev s_format_expression : Stmt := top 9
abbrev s__text_of : Stmt := top 10
abbrev s_parse_expression : Stmt := top 11
abbrev s_Reader_init : Stmt := inClass (top 12) 0
abbrev s_Reader_advance : Stmt := inClass (top 12) 1
abbrev s_Reader_read_either : Stmt := inClass (top 12) 2
abbrev s_Reader_read_join : Stmt := inClass (top 12) 3
abbrev s_Reader_read_star : Stmt := inClass (top 12) 4
abbrev s_Reader_read_simple : Stmt := inClass (top 12) 5
abbrev s__token_at : Stmt := top 13
abbrev s__law_draws : Stmt := top 15
abbrev s__law_take : Stmt := top 16
abbrev s__law_expression : Stmt := top 17
abbrev s__law_outcome : Stmt := top 18
abbrev s__law_token : Stmt := top 19
abbrev s__law_fault : Stmt := top 20
abbrev s_law : Stmt := top 21
set_option maxHeartbeats 0 in
structure Txt (K : PySem.W.Frag) (mg : Str → Option Value) where
  f_format_expression : Addr
  d_format_expression : FuncData
  F_format_expression : Fun K "format_expression" "format_expression" s_format_expression f_format_expression d_format_expression
  m_format_expression : mg "format_expression" = some (.ref f_format_expression)
  b_format_expression : Binds K d_format_expression ["expression"] []
  f__text_of : Addr
  d__text_of : FuncData
  F__text_of : Fun K "_text_of" "_text_of" s__text_of f__text_of d__text_of
  m__text_of : mg "_text_of" = some (.ref f__text_of)
  b__text_of : Binds K d__text_of ["expression", "strength"] []
  f_parse_expression : Addr
  d_parse_expression : FuncData
  F_parse_expression : Fun K "parse_expression" "parse_expression" s_parse_expression f_parse_expression d_parse_expression
  m_parse_expression : mg "parse_expression" = some (.ref f_parse_expression)
  b_parse_expression : Binds K d_parse_expression ["text"] []
  f_Reader_init : Addr
  d_Reader_init : FuncData
  F_Reader_init : Fun K "__init__" "Reader.__init__" s_Reader_init f_Reader_init d_Reader_init
  b_Reader_init : Binds K d_Reader_init ["self", "text"] []
  f_Reader_advance : Addr
  d_Reader_advance : FuncData
  F_Reader_advance : Fun K "advance" "Reader.advance" s_Reader_advance f_Reader_advance d_Reader_advance
  b_Reader_advance : Binds K d_Reader_advance ["self"] []
  f_Reader_read_either : Addr
  d_Reader_read_either : FuncData
  F_Reader_read_either : Fun K "read_either" "Reader.read_either" s_Reader_read_either f_Reader_read_either d_Reader_read_either
  b_Reader_read_either : Binds K d_Reader_read_either ["self"] []
  f_Reader_read_join : Addr
  d_Reader_read_join : FuncData
  F_Reader_read_join : Fun K "read_join" "Reader.read_join" s_Reader_read_join f_Reader_read_join d_Reader_read_join
  b_Reader_read_join : Binds K d_Reader_read_join ["self"] []
  f_Reader_read_star : Addr
  d_Reader_read_star : FuncData
  F_Reader_read_star : Fun K "read_star" "Reader.read_star" s_Reader_read_star f_Reader_read_star d_Reader_read_star
  b_Reader_read_star : Binds K d_Reader_read_star ["self"] []
  f_Reader_read_simple : Addr
  d_Reader_read_simple : FuncData
  F_Reader_read_simple : Fun K "read_simple" "Reader.read_simple" s_Reader_read_simple f_Reader_read_simple d_Reader_read_simple
  b_Reader_read_simple : Binds K d_Reader_read_simple ["self"] []
  f__token_at : Addr
  d__token_at : FuncData
  F__token_at : Fun K "_token_at" "_token_at" s__token_at f__token_at d__token_at
  m__token_at : mg "_token_at" = some (.ref f__token_at)
  b__token_at : Binds K d__token_at ["text", "at"] []
  f__law_draws : Addr
  d__law_draws : FuncData
  F__law_draws : Fun K "_law_draws" "_law_draws" s__law_draws f__law_draws d__law_draws
  m__law_draws : mg "_law_draws" = some (.ref f__law_draws)
  b__law_draws : Binds K d__law_draws ["script", "count"] []
  f__law_take : Addr
  d__law_take : FuncData
  F__law_take : Fun K "_law_take" "_law_take" s__law_take f__law_take d__law_take
  m__law_take : mg "_law_take" = some (.ref f__law_take)
  b__law_take : Binds K d__law_take ["draws", "limit"] []
  f__law_expression : Addr
  d__law_expression : FuncData
  F__law_expression : Fun K "_law_expression" "_law_expression" s__law_expression f__law_expression d__law_expression
  m__law_expression : mg "_law_expression" = some (.ref f__law_expression)
  b__law_expression : Binds K d__law_expression ["draws", "letters", "depth"] []
  f__law_outcome : Addr
  d__law_outcome : FuncData
  F__law_outcome : Fun K "_law_outcome" "_law_outcome" s__law_outcome f__law_outcome d__law_outcome
  m__law_outcome : mg "_law_outcome" = some (.ref f__law_outcome)
  b__law_outcome : Binds K d__law_outcome ["text"] []
  f__law_token : Addr
  d__law_token : FuncData
  F__law_token : Fun K "_law_token" "_law_token" s__law_token f__law_token d__law_token
  m__law_token : mg "_law_token" = some (.ref f__law_token)
  b__law_token : Binds K d__law_token ["text", "at"] []
  f__law_fault : Addr
  d__law_fault : FuncData
  F__law_fault : Fun K "_law_fault" "_law_fault" s__law_fault f__law_fault d__law_fault
  m__law_fault : mg "_law_fault" = some (.ref f__law_fault)
  b__law_fault : Binds K d__law_fault ["text"] []
  f_law : Addr
  d_law : FuncData
  F_law : Fun K "law" "law" s_law f_law d_law
  m_law : mg "law" = some (.ref f_law)
  b_law : Binds K d_law ["script"] []
  c_Reader : Addr
  mc_Reader : mg "Reader" = some (.ref c_Reader)
  mk_Reader : PySem.W.makesIn K c_Reader = true
  in_Reader : PySem.W.findIn K (.ref c_Reader) "__init__" = some (some (.ref f_Reader_init))
  if_Reader : PySem.W.isFn K (.ref f_Reader_init) = true
  kc_Reader : PySem.W.keepIn K (.ref c_Reader) = true
  cl_Reader : Cls K c_Reader
  na_Reader_text : NoAttr K c_Reader "text"
  na_Reader_token : NoAttr K c_Reader "token"
  na_Reader_position : NoAttr K c_Reader "position"
  na_Reader_behind : NoAttr K c_Reader "behind"
  c_ExpressionSyntaxError : Addr
  fi_ExpressionSyntaxError : Addr
  fl_ExpressionSyntaxError : Str
  mc_ExpressionSyntaxError : mg "ExpressionSyntaxError" = some (.ref c_ExpressionSyntaxError)
  et_ExpressionSyntaxError : HqTe.ETxt K mg c_ExpressionSyntaxError fi_ExpressionSyntaxError fl_ExpressionSyntaxError
  me_Reader_advance : Meth K c_Reader "advance" f_Reader_advance
  me_Reader_read_either : Meth K c_Reader "read_either" f_Reader_read_either
  me_Reader_read_join : Meth K c_Reader "read_join" f_Reader_read_join
  me_Reader_read_star : Meth K c_Reader "read_star" f_Reader_read_star
  me_Reader_read_simple : Meth K c_Reader "read_simple" f_Reader_read_simple
  z_int : mg "int" = none
  z_len : mg "len" = none
  z_list : mg "list" = none
  z_range : mg "range" = none
  z_str : mg "str" = none
  t_DIGITS : Tok
  v_DIGITS : mg "DIGITS" = some (.str "0123456789" t_DIGITS)
  t_EITHER : Tok
  v_EITHER : mg "EITHER" = some (.int 0 t_EITHER)
  t_END : Tok
  v_END : mg "END" = some (.str "" t_END)
  t_JOIN : Tok
  v_JOIN : mg "JOIN" = some (.int 1 t_JOIN)
  t_STAR : Tok
  v_STAR : mg "STAR" = some (.int 2 t_STAR)
local macro_rules | `(tactic| trivial) => `(tactic| omega)
theorem pin_le {K : PySem.W.Frag} {lo hi x : Int} (h : lo ≤ x ∧ x < hi) : (D K (.int x)).le (PIn K lo hi) := MP.le_trans (PAn.in h) (PEx.in (R := fun x : Int => PAn (lo ≤ x ∧ x < hi) (D K (.int x))) x)
end My
namespace My
open PySem L2 Hq
local macro_rules | `(tactic| trivial) => `(tactic| omega)
section
variable {P : Program} {wo : World} {K : PySem.W.Frag} {mg : Str → Option Value} {base : Heap}
/-! ### _law_take -/
theorem sc__law_take : FnScope ["draws", "limit"] ["draws", "limit"] (defScope s__law_take) := ⟨rfl, rfl, rfl, by decide +kernel, rfl, by decide +kernel, by decide +kernel⟩
def sp__law_take (T : Txt K mg) : Sp := fun vs H Q _ => ∃ (d : Addr) (n : Int), 0 < n ∧ Prom [Own d, D K (.int n)] [(d, MDr K)] (PIn K 0 n) [(d, MDr K)] vs H Q
theorem sp__law_take_len {T : Txt K mg} {vs H Q E} (h : sp__law_take T vs H Q E) : vs.length = 2 := by obtain ⟨d, n, _, h⟩ := h; exact h.len
set_option maxHeartbeats 4000000 in
theorem ok__law_take (T : Txt K mg) : FnOk P wo K mg base CX0 1 T.f__law_take T.d__law_take ["draws", "limit"] (sp__law_take T) := by
  have nd := (sc__law_take).nd
  refine T.F__law_take.ok sc__law_take (fun vs H Q E h => (sp__law_take_len h)) (fun cdv A outer s H vs Q E hr h => ?_)
  obtain ⟨d, n, hn, F, w, p, k⟩ := h
  refine ⟨_, (pss_cons (ps_if (pt_cmpR op_eq (pe_callB (c_len (K := K) rfl) (by rfl) T.z_len PySem.boot_len (pa_cons (pv 0) pa_nil)) pe_int (nomark _)) (pss_one (ps_ret pe_int)) pss_nil)
    (pss_one (ps_ret (pe_op op_mod (pe_callTy call_int1 (by rfl) T.z_int (by decide +kernel) (pa_cons (pe_bm0 PySem.F.plainAttrs_list PySem.F.slot_list_pop PySem.F.type_list_pop mt_pop (pv 0)) pa_nil)) (pv 1))))), ?_⟩
  refine go_start w p (Γ := [some (Own d), some (D K (.int n))]) rfl ?_
  refine nx_exM (j := 0) rfl fun ns => nx_anM (j := 0) rfl fun hl => ?_
  show Nx _ _ [(d, MInts K ns)] _
  have k2 : ∀ ns' : List Int, ns'.length ≤ 1000 → Rt ⟨F, H, keys [(d, MDr K)]⟩ [(d, MInts K ns')] (PIn K 0 n) Q := fun ns' h => Rt.to (j := 0) (O' := MDr K) k rfl (fun F o q => ⟨ns', h, q⟩) rfl
  refine (q_if (et_test (ev_op (ev_cb (ea_cons (ev_var rfl) ea_nil) (rc_lenO (j := 0) rfl)) (ev_int (K := K)) rv_eqI)) (fun _ => go_ret Le.refl (ev_int (K := K)) (Rt.weak (pin_le (by omega)) (k2 ns hl))) fun hz => go_next ?_)
  have hz : ns ≠ [] := by intro e; subst e; simp at hz
  have hlast : (ns.map fun n => D K (.int n))[(ns.map fun n => D K (.int n)).length - 1]? = some (D K (.int (ns.getLast hz))) := by rw [List.length_map, List.getElem?_map, ← List.getLast?_eq_getElem?, List.getLast?_eq_some_getLast hz]; rfl
  have hd : (ns.map fun n => D K (.int n)).dropLast = ns.dropLast.map fun n => D K (.int n) := by rw [List.map_dropLast]
  refine go_ret Le.refl (ev_op (ev_cb (ea_cons (ev_pop (j := 0) (ev_var rfl) rfl hlast) ea_nil) rc_int) (ev_var rfl) (rv_ic (by trivial))) (Rt.weak (pin_le ⟨Int.emod_nonneg _ (by omega), Int.emod_lt_of_pos _ hn⟩) ?_)
  rw [hd]
  exact k2 _ (by rw [List.length_dropLast]; omega)
theorem use__law_take {T : Txt K mg} {tr : TA} {Γ : Gm} {M M1 : Ms} {d : Addr} {n : Int} {j : Nat} {X : XK} (h : EvA tr Γ M [Own d, D K (.int n)] M1) (hn : 0 < n) (e : M1[j]? = some (d, MDr K)) : Ev (tCall (sp__law_take T) [] X tr) Γ M (PIn K 0 n) M1 :=
  call1 h e fun vs H Q z => ⟨d, n, hn, z⟩
end
end My
namespace My
open PySem L2 Hq
local macro_rules | `(tactic| trivial) => `(tactic| omega)
section
variable {P : Program} {wo : World} {K : PySem.W.Frag} {mg : Str → Option Value} {base : Heap}
/-! ### _law_draws -/
theorem sc__law_draws : FnScope ["script", "count", "cells", "found", "mixed", "k", "j", "cell", "again"] ["script", "count"] (defScope s__law_draws) := ⟨rfl, rfl, rfl, by decide +kernel, rfl, by decide +kernel, by decide +kernel⟩
def sp__law_draws (T : Txt K mg) : Sp := fun vs H Q _ => ∃ (ns : List Int) (c : Int), 0 ≤ c ∧ c ≤ 1000 ∧ ns.length ≤ 1000 ∧ PromN [PLi K (ns.map fun n => D K (.int n)), D K (.int c)] [] (MDr K) [] vs H Q
theorem sp__law_draws_len {T : Txt K mg} {vs H Q E} (h : sp__law_draws T vs H Q E) : vs.length = 2 := by obtain ⟨_, _, _, _, _, h⟩ := h; exact h.len
set_option maxHeartbeats 4000000 in
theorem ok__law_draws (T : Txt K mg) : FnOk P wo K mg base CX0 1 T.f__law_draws T.d__law_draws ["script", "count"] (sp__law_draws T) := by
  have nd := (sc__law_draws).nd
  refine T.F__law_draws.ok sc__law_draws (fun vs H Q E h => (sp__law_draws_len h)) (fun cdv A outer s H vs Q E hr h => ?_)
  obtain ⟨ns, cnt, c0, c1, nl, F, w, p, k⟩ := h
  refine ⟨_, (pss_cons (ps_set (i := 2) nd rfl (Or.inl rfl) (pe_callTy (c_list (K := K) rfl) (by rfl) T.z_list (by decide +kernel) (pa_cons (pv 0) pa_nil)))
    (Evl.pss_cut (ps_if (pt_cmpR op_eq (pe_callB (c_len (K := K) rfl) (by rfl) T.z_len PySem.boot_len (pa_cons (pv 2) pa_nil)) pe_int (nomark _)) (pss_one (ps_set (i := 2) nd rfl (Or.inl rfl) (pe_lst (pa_cons pe_int pa_nil)))) pss_nil)
    (pss_cons (ps_set (i := 3) nd rfl (Or.inl rfl) (pe_lst pa_nil))
    (pss_cons (ps_set (i := 4) nd rfl (Or.inl rfl) pe_int)
    (pss_cons (ps_for PassesOwn.never rfl (pi_range1 (by rfl) T.z_range (pa_cons (pv 1) pa_nil)) (pg_name (i := 5) nd rfl (by first | exact Or.inl rfl | exact Or.inr rfl))
     (pss_cons (ps_set (i := 6) nd rfl (Or.inl rfl) (pe_op op_mod (pv 5) (pe_callB (c_len (K := K) rfl) (by rfl) T.z_len PySem.boot_len (pa_cons (pv 2) pa_nil))))
     (pss_cons (ps_set (i := 7) nd rfl (Or.inl rfl) (pe_ix (c_ix (K := K) rfl) (pv 2) (pv 6) (fun _ _ => rfl)))
     (pss_cons (ps_set (i := 4) nd rfl (Or.inl rfl) (pe_op op_mod (pe_callTy call_int1 (by rfl) T.z_int (by decide +kernel) (pa_cons (pe_op op_add (pe_op op_add (pe_op op_add (pe_op op_mul (pv 4) pe_int) (pe_op op_mul (pe_op op_mod (pe_callTy call_int1 (by rfl) T.z_int (by decide +kernel) (pa_cons (pv 7) pa_nil)) pe_int) pe_int)) (pe_op op_mul (pv 5) pe_int)) pe_int) pa_nil)) pe_int))
     (pss_cons (ps_set (i := 8) nd rfl (Or.inl rfl) (pe_op op_mod (pe_callTy call_int1 (by rfl) T.z_int (by decide +kernel) (pa_cons (pe_op op_add (pe_op op_add (pe_op op_mul (pv 4) (pv 4)) (pe_op op_mul pe_int (pv 4))) (pv 5)) pa_nil)) pe_int))
     (pss_one (ps_if (pt_cmpR op_ge (pv 7) (pe_op op_pow pe_int pe_int) (nomark _)) (pss_cons (ps_expr (pe_bm PySem.F.plainAttrs_list PySem.F.slot_list_append PySem.F.type_list_append mt_append (pv 3) (pa_cons (pe_op op_mod (pe_callTy call_int1 (by rfl) T.z_int (by decide +kernel) (pa_cons (pv 7) pa_nil)) pe_int) pa_nil)))
      (pss_one (ps_asg (pe_op op_fdiv (pv 7) pe_int) (pg_sub (pv 2) (pv 6) set_list)))) (pss_one (ps_expr (pe_bm PySem.F.plainAttrs_list PySem.F.slot_list_append PySem.F.type_list_append mt_append (pv 3) (pa_cons (pe_op op_mod (pe_callTy call_int1 (by rfl) T.z_int (by decide +kernel) (pa_cons (pv 8) pa_nil)) pe_int) pa_nil)))))))))))
    (pss_cons (ps_expr (pe_bm0 PySem.F.plainAttrs_list PySem.F.slot_list_reverse PySem.F.type_list_reverse mt_reverse (pv 3)))
    (pss_one (ps_ret (pv 3))))))))), ?_⟩
  refine go_start w p (Γ := [some (PLi K (ns.map fun n => D K (.int n))), some (D K (.int cnt)), none, none, none, none, none, none, none]) rfl ?_
  refine (q_asgN (evn_cb (ea_cons (ev_var rfl) ea_nil) rcn_listL) fun c hc => ?_)
  show Nx _ _ [(c, MInts K ns)] _
  refine go_cut (fun Γ M => ∃ (c : Addr) (cs : List Int), Γ = [some (PLi K (ns.map fun n => D K (.int n))), some (D K (.int cnt)), some (Own c), none, none, none, none, none, none] ∧ M = [(c, MInts K cs)] ∧ cs ≠ [] ∧ cs.length ≤ 1000) ?_ ?rest
  · refine go_if (et_test (ev_op (ev_cb (ea_cons (ev_var rfl) ea_nil) (rc_lenO (j := 0) rfl)) (ev_int (K := K)) rv_eqI)) (fun _ => ?_) fun hz => go_next (JA.of ⟨c, ns, rfl, rfl, by intro e; subst e; simp at hz, nl⟩)
    refine go_asgN (evn_lst (ea_cons (ev_int (K := K)) ea_nil) (by simp)) fun c2 h2 => ?_
    exact nx_drop (List.Sublist.cons₂ _ (List.nil_sublist _)) (JA.of ⟨c2, [7], rfl, rfl, by decide, by decide⟩)
  case rest =>
    rintro _ _ ⟨c, cs, rfl, rfl, hne, hlen⟩
    have lpos : 0 < cs.length := List.length_pos_iff.mpr hne
    refine (q_asgN (evn_lst ea_nil (by decide)) fun f hf => ?_)
    show Nx _ _ [(f, MInts K []), (c, MInts K cs)] _
    refine (q_asg (ev_int (K := K)) ?_)
    refine (q_forR (ea_cons (ev_var rfl) ea_nil) (by omega) (by omega) (fun n Γ M => ∃ (zs fs : List Int) (m : Int) (g5 g6 g7 g8 : Option MP), Γ = [some (PLi K (ns.map fun n => D K (.int n))), some (D K (.int cnt)), some (Own c), some (Own f), some (D K (.int m)), g5, g6, g7, g8] ∧
      M = [(f, MInts K fs), (c, MInts K zs)] ∧ zs.length = cs.length ∧ fs.length = n ∧ 0 ≤ m ∧ m < 2147483647) ⟨cs, [], 12345, none, none, none, none, rfl, rfl, rfl, rfl, by decide, by decide⟩ ?_ ?_)
    · rintro n hn _ _ ⟨zs, fs, m, g5, g6, g7, g8, rfl, rfl, hz, hfl, m0, m1⟩
      show Nx _ [some (PLi K (ns.map fun n => D K (.int n))), some (D K (.int cnt)), some (Own c), some (Own f), some (D K (.int m)), some (D K (.int n)), g6, g7, g8] _ _
      have hL : ((zs.map fun n => D K (.int n)).length : Int) = (cs.length : Int) := by rw [List.length_map, hz]
      have hj0 : 0 ≤ (n : Int) % ((zs.map fun n => D K (.int n)).length : Int) := Int.emod_nonneg _ (by omega)
      have hj1 : (n : Int) % ((zs.map fun n => D K (.int n)).length : Int) < zs.length := by rw [hL, ← hz]; exact Int.emod_lt_of_pos _ (by omega)
      refine (q_asg (ev_op (ev_var rfl) (ev_cb (ea_cons (ev_var rfl) ea_nil) (rc_lenO (j := 1) rfl)) (rv_ic (show (0 : Int) < _ by omega))) ?_)
      generalize (n : Int) % ((zs.map fun n => D K (.int n)).length : Int) = jj at hj0 hj1
      obtain ⟨jn, rfl⟩ := Int.eq_ofNat_of_zero_le hj0
      have hjn : jn < zs.length := by omega
      refine (q_asg (ev_op (ev_var rfl) (ev_var rfl) (rv_ixO (j := 1) rfl (by omega) (show (zs.map fun n => D K (.int n))[((jn : Int)).toNat]? = some (D K (.int zs[jn])) by rw [Int.toNat_natCast, List.getElem?_map, List.getElem?_eq_getElem hjn]; rfl))) ?_)
      refine (q_asg (ev_op (ev_cb (ea_cons (ev_op (ev_op (ev_op (ev_op (ev_var rfl) (ev_int (K := K)) (rv_ic (.inr ⟨by decide, by decide⟩))) (ev_op (ev_op (ev_cb (ea_cons (ev_var rfl) ea_nil) rc_int) (ev_int (K := K)) (rv_ic (by trivial))) (ev_int (K := K)) (rv_ic (.inr ⟨by decide, by decide⟩))) rv_i0) (ev_op (ev_var rfl) (ev_int (K := K)) (rv_ic (.inr ⟨by decide, by decide⟩))) rv_i0) (ev_int (K := K)) rv_i0) ea_nil) rc_int) (ev_int (K := K)) (rv_ic (by trivial))) ?_)
      refine (q_asg (ev_op (ev_cb (ea_cons (ev_op (ev_op (ev_op (ev_var rfl) (ev_var rfl) (rv_ic (.inl ⟨?_, ?_⟩))) (ev_op (ev_int (K := K)) (ev_var rfl) (rv_ic (.inl ⟨by decide, by decide⟩))) rv_i0) (ev_var rfl) rv_i0) ea_nil) rc_int) (ev_int (K := K)) (rv_ic (by trivial))) ?_)
      · have := Int.emod_nonneg (m * 48271 + zs[jn] % 1000003 * 69621 + (n : Int) * 7919 + 11) (by decide : (2147483647 : Int) ≠ 0)
        exact Int.lt_of_lt_of_le (by decide) this
      · have := Int.emod_lt_of_pos (m * 48271 + zs[jn] % 1000003 * 69621 + (n : Int) * 7919 + 11) (by decide : (0 : Int) < 2147483647)
        exact Int.lt_trans this (by decide)
      have fin : ∀ (zs' fs' : List Int) (m' : Int) (g5 g6 g7 g8 : Option MP) (Γ : Gm) (M : Ms), Γ = [some (PLi K (ns.map fun n => D K (.int n))), some (D K (.int cnt)), some (Own c), some (Own f), some (D K (.int m')), g5, g6, g7, g8] → M = [(f, MInts K fs'), (c, MInts K zs')] → zs'.length = cs.length → fs'.length = n + 1 → 0 ≤ m' → m' < 2147483647 → Nx ⟨F, H, keys []⟩ Γ M (JA ⟨F, H, keys []⟩ fun Γ M => ∃ (zs fs : List Int) (m : Int) (g5 g6 g7 g8 : Option MP), Γ = [some (PLi K (ns.map fun n => D K (.int n))), some (D K (.int cnt)), some (Own c), some (Own f), some (D K (.int m)), g5, g6, g7, g8] ∧
        M = [(f, MInts K fs), (c, MInts K zs)] ∧ zs.length = cs.length ∧ fs.length = n + 1 ∧ 0 ≤ m ∧ m < 2147483647) := fun zs' fs' m' g5 g6 g7 g8 Γ M e1 e2 e3 e4 e5 e6 => JA.of ⟨zs', fs', m', g5, g6, g7, g8, e1, e2, e3, e4, e5, e6⟩
      have mm0 := Int.emod_nonneg (m * 48271 + zs[jn] % 1000003 * 69621 + (n : Int) * 7919 + 11) (by decide : (2147483647 : Int) ≠ 0)
      have mm1 := Int.emod_lt_of_pos (m * 48271 + zs[jn] % 1000003 * 69621 + (n : Int) * 7919 + 11) (by decide : (0 : Int) < 2147483647)
      refine go_if (et_test (ev_op (ev_var rfl) (ev_op (ev_int (K := K)) (ev_int (K := K)) (rv_ic ⟨by decide, by decide, by decide⟩)) rv_b0)) (fun _ => ?_) fun _ => ?_
      · refine (q_app (j := 0) (ev_var rfl) (ev_op (ev_cb (ea_cons (ev_var rfl) ea_nil) rc_int) (ev_int (K := K)) (rv_ic (by trivial))) rfl rfl (by rw [List.length_map]; omega) ?_)
        refine go_setL (j := 1) (ev_op (ev_var rfl) (ev_int (K := K)) (rv_ic ⟨by decide, by decide⟩)) (ev_var rfl) (ev_var rfl) rfl (by omega) (by rw [List.length_map]; omega) ?_
        exact fin (zs.set jn (zs[jn] / 1000)) (fs ++ [zs[jn] % 1000]) _ _ _ _ _ _ _ rfl (by simp [MInts, List.map_set]) (by rw [List.length_set]; exact hz) (by rw [List.length_append, hfl]; rfl) mm0 mm1
      · refine go_app (j := 0) (ev_var rfl) (ev_op (ev_cb (ea_cons (ev_var rfl) ea_nil) rc_int) (ev_int (K := K)) (rv_ic (by trivial))) rfl rfl (by rw [List.length_map]; omega) ?_
        exact fin zs (fs ++ [_]) _ _ _ _ _ _ _ rfl (by simp [MInts]; rfl) hz (by rw [List.length_append, hfl]; rfl) mm0 mm1
    · rintro _ _ ⟨zs, fs, m, g5, g6, g7, g8, rfl, rfl, hz, hfl, m0, m1⟩
      refine (q_rev (j := 0) (ev_var rfl) rfl ?_)
      refine nx_drop (List.Sublist.cons₂ _ (List.nil_sublist _)) ?_
      refine go_retO Le.refl (ev_var rfl) hf rfl (RtN.to k fun F o h => ⟨fs.reverse, by rw [List.length_reverse]; omega, ?_⟩)
      rw [← List.map_reverse] at h
      exact h
theorem use__law_draws {T : Txt K mg} {tr : TA} {Γ : Gm} {M M1 : Ms} {ns : List Int} {c : Int} {X : XK} (h : EvA tr Γ M [PLi K (ns.map fun n => D K (.int n)), D K (.int c)] M1) (h0 : 0 ≤ c) (h1 : c ≤ 1000) (h2 : ns.length ≤ 1000) : EvN (tCall (sp__law_draws T) [] X tr) Γ M (MDr K) M1 :=
  calln0 h fun vs H Q z => ⟨ns, c, h0, h1, h2, z⟩
end
end My
namespace My
open PySem L2 Hq
local macro_rules | `(tactic| trivial) => `(tactic| omega)
section
variable {P : Program} {wo : World} {K : PySem.W.Frag} {mg : Str → Option Value} {base : Heap}
/-! ### _text_of -/
theorem sc__text_of : FnScope ["expression", "strength", "kind", "own", "sign", "text"] ["expression", "strength"] (defScope s__text_of) := ⟨rfl, rfl, rfl, by decide +kernel, rfl, by decide +kernel, by decide +kernel⟩
def spr__text_of (d : Nat) (T : Txt K mg) : Sp := fun vs H Q _ => ∃ (e : Xp) (k : Nat), (e.ok ∧ e.sz < d ∧ e.sz ≤ 100000) ∧ Prom [D K (dX e), D K (.int (k : Int))] [] (D K (dS (txt e k))) [] vs H Q
theorem spr__text_of_len {d : Nat} {T : Txt K mg} {vs H Q E} (h : spr__text_of d T vs H Q E) : vs.length = 2 := by obtain ⟨_, _, _, h⟩ := h; exact h.len
theorem spr__text_of_zero {T : Txt K mg} {vs H Q E} : ¬ spr__text_of 0 T vs H Q E := fun ⟨_, _, h, _⟩ => absurd h.2.1 (Nat.not_lt_zero _)
def sp__text_of (T : Txt K mg) : Sp := spr__text_of 130 T
theorem rec__text_of {d : Nat} {T : Txt K mg} {tr : TA} {Γ : Gm} {M M1 : Ms} {e : Xp} {k : Nat} {X : XK} (h : EvA tr Γ M [D K (dX e), D K (.int (k : Int))] M1) (hn : e.ok ∧ e.sz < d ∧ e.sz ≤ 100000) : Ev (tCall (spr__text_of d T) [] X tr) Γ M (D K (dS (txt e k))) M1 :=
  call0 h fun vs H Q z => ⟨e, k, hn, z⟩
set_option maxHeartbeats 4000000 in
theorem ok__text_of_r (T : Txt K mg) : ∀ d : Nat, FnOk P wo K mg base CX0 (1 + d) T.f__text_of T.d__text_of ["expression", "strength"] (spr__text_of d T)
| 0 => T.F__text_of.ok sc__text_of (fun vs H Q E h => (spr__text_of_len h)) (fun cdv A outer s H vs Q E hr h => absurd h spr__text_of_zero)
| d + 1 => by
  have ih := ok__text_of_r T d
  have nd := (sc__text_of).nd
  refine T.F__text_of.ok sc__text_of (fun vs H Q E h => (spr__text_of_len h)) (fun cdv A outer s H vs Q E hr h => ?_)
  obtain ⟨e, st, ⟨ok, hd, hz⟩, F, w, pp, k⟩ := h
  refine ⟨_, (pss_cons (ps_set (i := 2) nd rfl (Or.inl rfl) (pe_ix (c_ix (K := K) rfl) (pv 0) pe_int (fun _ _ => rfl)))
    (pss_cons (ps_if (PW.pt (pw_or (pt_cmpR op_eq (pv 2) pe_str (nomark _)) (pw_or1 (pt_cmpR op_eq (pv 2) pe_str (nomark _))))) (pss_one (ps_ret (pv 2))) pss_nil)
    (pss_cons (ps_if (pt_cmpR op_eq (pv 2) pe_str (nomark _)) (pss_one (ps_ret (pe_callTy call_str_int (by rfl) T.z_str (by decide +kernel) (pa_cons (pe_ix (c_ix (K := K) rfl) (pv 0) pe_int (fun _ _ => rfl)) pa_nil)))) pss_nil)
    (pss_cons (ps_if (pt_cmpR op_eq (pv 2) pe_str (nomark _)) (pss_one (ps_ret (pe_op op_add_str (pe_call ih (hr.mono (by first | exact Nat.le_refl _ | exact Nat.le_add_right_of_le (by decide))) rfl T.m__text_of T.F__text_of.kp T.b__text_of .nil pass0 (pa_cons (pe_ix (c_ix (K := K) rfl) (pv 0) pe_int (fun _ _ => rfl)) (pa_cons (pe_glob (v := .int 2) rfl T.v_STAR ⟨_, rfl⟩) pa_nil))) pe_str))) pss_nil)
    (pss_cons (ps_asg (pe_ifExp (pt_cmpR op_eq (pv 2) pe_str (nomark _)) (pe_tup (pa_cons (pe_glob (v := .int 0) rfl T.v_EITHER ⟨_, rfl⟩) (pa_cons pe_str pa_nil))) (pe_tup (pa_cons (pe_glob (v := .int 1) rfl T.v_JOIN ⟨_, rfl⟩) (pa_cons pe_str pa_nil)))) (pg_tupK (K := K) (n := 2) rfl (by rfl) (pgs_cons (pg_name (i := 3) nd rfl (by first | exact Or.inl rfl | exact Or.inr rfl)) (pgs_cons (pg_name (i := 4) nd rfl (by first | exact Or.inl rfl | exact Or.inr rfl)) pgs_nil))))
    (pss_cons (ps_set (i := 5) nd rfl (Or.inl rfl) (pe_op op_add_str (pe_op op_add_str (pe_call ih (hr.mono (by first | exact Nat.le_refl _ | exact Nat.le_add_right_of_le (by decide))) rfl T.m__text_of T.F__text_of.kp T.b__text_of .nil pass0 (pa_cons (pe_ix (c_ix (K := K) rfl) (pv 0) pe_int (fun _ _ => rfl)) (pa_cons (pv 3) pa_nil))) (pv 4)) (pe_call ih (hr.mono (by first | exact Nat.le_refl _ | exact Nat.le_add_right_of_le (by decide))) rfl T.m__text_of T.F__text_of.kp T.b__text_of .nil pass0 (pa_cons (pe_ix (c_ix (K := K) rfl) (pv 0) pe_int (fun _ _ => rfl)) (pa_cons (pe_op op_add (pv 3) pe_int) pa_nil)))))
    (pss_one (ps_ret (pe_ifExp (pt_cmpR op_lt (pv 3) (pv 1) (nomark _)) (pe_op op_add_str (pe_op op_add_str pe_str (pv 5)) pe_str) (pv 5)))))))))), ?_⟩
  refine go_start w pp (Γ := [some (D K (dX e)), some (D K (.int (st : Int))), none, none, none, none]) rfl ?_
  obtain ⟨as, ea⟩ := dX_kd e
  refine (q_asg (P := D K (dS (kdX e))) (ev_op ((ev_var (i := 0) rfl).is (congrArg (D K) ea)) (ev_int (K := K) (i := 0)) (rv_ixDT (by decide) rfl)) ?_)
  clear ea
  dsimp only [List.set]
  refine (q_if (et_or (et_test (ev_eqS (ev_var (i := 2) rfl) (ev_strL (l := wN) rfl))) fun _ => et_test (ev_eqS (ev_var (i := 2) rfl) (ev_strL (l := wE) rfl))) (fun hb => ?_) fun hb1 => go_next ?_)
  · have hb := hb.symm
    rw [Bool.or_eq_true, decide_eq_true_iff, decide_eq_true_iff] at hb
    refine go_ret Le.refl ((ev_var (i := 2) rfl).is ?_) k
    rcases kd_W hb with rfl | rfl <;> rfl
  dsimp only
  have hb1 := hb1.symm
  rw [Bool.or_eq_false_iff, decide_eq_false_iff_not, decide_eq_false_iff_not] at hb1
  refine (q_if (et_test (ev_eqS (ev_var (i := 2) rfl) (ev_strL (l := wL) rfl))) (fun hb => ?_) fun hb2 => go_next ?_)
  · obtain ⟨n, rfl⟩ := kd_L (of_decide_eq_true hb.symm)
    exact go_ret Le.refl (ev_cb (ea_cons (ev_op (ev_var (i := 0) rfl) (ev_int (K := K) (i := 1)) (rv_ixDT (by decide) rfl)) ea_nil) (rc_strI ok)) k
  dsimp only
  refine (q_if (et_test (ev_eqS (ev_var (i := 2) rfl) (ev_strL (l := wS) rfl))) (fun hb => ?_) fun hb3 => go_next ?_)
  · obtain ⟨e, rfl⟩ := kd_S (of_decide_eq_true hb.symm)
    have z : e.sz + 1 < d + 1 := hd
    have z2 : e.sz + 1 ≤ 100000 := hz
    have tl := txt_len e 2
    exact go_ret Le.refl (ev_op (rec__text_of (T := T) (X := E0) (e := e) (k := 2) (ea_cons (ev_op (ev_var (i := 0) rfl) (ev_int (K := K) (i := 1)) (rv_ixDT (by decide) rfl)) (ea_cons (ev_int (K := K) (i := 2)) ea_nil)) ⟨ok, by omega, by omega⟩) (ev_strL (l := [42]) rfl) (rv_addS (by rw [List.length_singleton]; omega))) k
  dsimp only
  rcases kd_R (fun c => c.elim hb1.1 hb1.2) (of_decide_eq_false hb2.symm) (of_decide_eq_false hb3.symm) with ⟨a, b, rfl⟩ | ⟨a, b, rfl⟩
  · have z : a.sz + b.sz + 1 < d + 1 := hd
    have z2 : a.sz + b.sz + 1 ≤ 100000 := hz
    have t1 := txt_len a 0
    have t2 := txt_len b 1
    refine (q_unp2 (i := 3) (j := 4) (φ := fun _ : Unit => True) (R1 := fun _ => D K (.int 0)) (R2 := fun _ => D K (dS [32, 43, 32])) ((ev_if (b := true) ((et_test (ev_eqS (ev_var (i := 2) rfl) (ev_strL (l := wA) rfl))).is rfl) (fun _ => ev_tup (ps := [D K (.int 0), D K (dS [32, 43, 32])]) (ea_cons (ev_int (K := K) (i := 0)) (ea_cons (ev_strL rfl) ea_nil)) (by simp)) fun c => absurd c (by decide)).weak (MP.le_trans (PAn.in trivial) (PEx.in (R := fun _ : Unit => PAn True (PTu K [D K (.int 0), D K (dS [32, 43, 32])])) ()))) fun _ _ => ?_)
    dsimp only [List.set]
    refine (q_asg (P := D K (dS (txt a 0 ++ [32, 43, 32] ++ txt b 1))) (ev_op (ev_op (rec__text_of (T := T) (X := E0) (e := a) (k := 0) (ea_cons (ev_op (ev_var (i := 0) rfl) (ev_int (K := K) (i := 1)) (rv_ixDT (by decide) rfl)) (ea_cons (ev_var (i := 3) rfl) ea_nil)) ⟨ok.1, by omega, by omega⟩) (ev_var (i := 4) rfl) (rv_addS (by simp only [List.length_cons, List.length_nil]; omega))) (rec__text_of (T := T) (X := E0) (e := b) (k := 1) (ea_cons (ev_op (ev_var (i := 0) rfl) (ev_int (K := K) (i := 2)) (rv_ixDT (by decide) rfl)) (ea_cons (ev_op (ev_var (i := 3) rfl) (ev_int (K := K) (i := 1)) (rv_i0 (g := fun i j => i + j))) ea_nil)) ⟨ok.2, by omega, by omega⟩) (rv_addS (by simp only [List.length_append, List.length_cons, List.length_nil]; omega))) ?_)
    dsimp only [List.set]
    refine go_ret Le.refl (ev_if (b := decide ((0 : Int) < (st : Int))) (et_test (ev_op (ev_var (i := 3) rfl) (ev_var (i := 1) rfl) (rv_b0 (g := fun i j => decide (i < j))))) (fun hb => ((ev_op (ev_op (ev_strL (l := [40]) rfl) (ev_var (i := 5) rfl) (rv_addS (by simp only [List.length_append, List.length_cons, List.length_nil]; omega))) (ev_strL (l := [41]) rfl) (rv_addS (by simp only [List.length_append, List.length_cons, List.length_nil]; omega))).is ?_)) fun hb => (ev_var (i := 5) rfl).is ?_) k
    · have hb := of_decide_eq_true hb
      show _ = D K (dS (par (decide (0 < st)) _))
      rw [decide_eq_true (by omega)]
      rfl
    · have hb := of_decide_eq_false hb
      show _ = D K (dS (par (decide (0 < st)) _))
      rw [decide_eq_false (by omega)]
      rfl
  · have z : a.sz + b.sz + 1 < d + 1 := hd
    have z2 : a.sz + b.sz + 1 ≤ 100000 := hz
    have t1 := txt_len a 1
    have t2 := txt_len b 2
    refine (q_unp2 (i := 3) (j := 4) (φ := fun _ : Unit => True) (R1 := fun _ => D K (.int 1)) (R2 := fun _ => D K (dS [32, 46, 32])) ((ev_if (b := false) ((et_test (ev_eqS (ev_var (i := 2) rfl) (ev_strL (l := wA) rfl))).is rfl) (fun c => absurd c (by decide)) (fun _ => ev_tup (ps := [D K (.int 1), D K (dS [32, 46, 32])]) (ea_cons (ev_int (K := K) (i := 1)) (ea_cons (ev_strL rfl) ea_nil)) (by simp))).weak (MP.le_trans (PAn.in trivial) (PEx.in (R := fun _ : Unit => PAn True (PTu K [D K (.int 1), D K (dS [32, 46, 32])])) ()))) fun _ _ => ?_)
    dsimp only [List.set]
    refine (q_asg (P := D K (dS (txt a 1 ++ [32, 46, 32] ++ txt b 2))) (ev_op (ev_op (rec__text_of (T := T) (X := E0) (e := a) (k := 1) (ea_cons (ev_op (ev_var (i := 0) rfl) (ev_int (K := K) (i := 1)) (rv_ixDT (by decide) rfl)) (ea_cons (ev_var (i := 3) rfl) ea_nil)) ⟨ok.1, by omega, by omega⟩) (ev_var (i := 4) rfl) (rv_addS (by simp only [List.length_cons, List.length_nil]; omega))) (rec__text_of (T := T) (X := E0) (e := b) (k := 2) (ea_cons (ev_op (ev_var (i := 0) rfl) (ev_int (K := K) (i := 2)) (rv_ixDT (by decide) rfl)) (ea_cons (ev_op (ev_var (i := 3) rfl) (ev_int (K := K) (i := 1)) (rv_i0 (g := fun i j => i + j))) ea_nil)) ⟨ok.2, by omega, by omega⟩) (rv_addS (by simp only [List.length_append, List.length_cons, List.length_nil]; omega))) ?_)
    dsimp only [List.set]
    refine go_ret Le.refl (ev_if (b := decide ((1 : Int) < (st : Int))) (et_test (ev_op (ev_var (i := 3) rfl) (ev_var (i := 1) rfl) (rv_b0 (g := fun i j => decide (i < j))))) (fun hb => ((ev_op (ev_op (ev_strL (l := [40]) rfl) (ev_var (i := 5) rfl) (rv_addS (by simp only [List.length_append, List.length_cons, List.length_nil]; omega))) (ev_strL (l := [41]) rfl) (rv_addS (by simp only [List.length_append, List.length_cons, List.length_nil]; omega))).is ?_)) fun hb => (ev_var (i := 5) rfl).is ?_) k
    · have hb := of_decide_eq_true hb
      show _ = D K (dS (par (decide (1 < st)) _))
      rw [decide_eq_true (by omega)]
      rfl
    · have hb := of_decide_eq_false hb
      show _ = D K (dS (par (decide (1 < st)) _))
      rw [decide_eq_false (by omega)]
      rfl
theorem ok__text_of (T : Txt K mg) : FnOk P wo K mg base CX0 131 T.f__text_of T.d__text_of ["expression", "strength"] (sp__text_of T) := ok__text_of_r T 130
theorem use__text_of {T : Txt K mg} {tr : TA} {Γ : Gm} {M M1 : Ms} {e : Xp} {k : Nat} {X : XK} (h : EvA tr Γ M [D K (dX e), D K (.int (k : Int))] M1) (hn : e.ok ∧ e.sz < 130) : Ev (tCall (sp__text_of T) [] X tr) Γ M (D K (dS (txt e k))) M1 :=
  call0 h fun vs H Q z => ⟨e, k, ⟨hn.1, hn.2, by omega⟩, z⟩
end
end My
namespace My
open PySem L2 Hq
local macro_rules | `(tactic| trivial) => `(tactic| omega)
section
variable {P : Program} {wo : World} {K : PySem.W.Frag} {mg : Str → Option Value} {base : Heap}
/-! ### format_expression -/
theorem sc_format_expression : FnScope ["expression"] ["expression"] (defScope s_format_expression) := ⟨rfl, rfl, rfl, by decide +kernel, rfl, by decide +kernel, by decide +kernel⟩
def sp_format_expression (T : Txt K mg) : Sp := fun vs H Q _ => ∃ e : Xp, (e.ok ∧ e.sz < 130) ∧ Prom [D K (dX e)] [] (D K (dS (txt e 0))) [] vs H Q
theorem sp_format_expression_len {T : Txt K mg} {vs H Q E} (h : sp_format_expression T vs H Q E) : vs.length = 1 := by obtain ⟨_, _, h⟩ := h; exact h.len
set_option maxHeartbeats 4000000 in
theorem ok_format_expression (T : Txt K mg) : FnOk P wo K mg base CX0 132 T.f_format_expression T.d_format_expression ["expression"] (sp_format_expression T) := by
  have nd := (sc_format_expression).nd
  refine T.F_format_expression.ok sc_format_expression (fun vs H Q E h => (sp_format_expression_len h)) (fun cdv A outer s H vs Q E hr h => ?_)
  obtain ⟨e, hn, F, w, pp, k⟩ := h
  refine ⟨_, (pss_one (ps_ret (pe_call (ok__text_of T) (hr.mono (by decide)) rfl T.m__text_of T.F__text_of.kp T.b__text_of .nil pass0 (pa_cons (pv 0) (pa_cons (pe_glob (v := .int 0) rfl T.v_EITHER ⟨_, rfl⟩) pa_nil))))), ?_⟩
  refine go_start w pp (Γ := [some (D K (dX e))]) rfl ?_
  exact go_ret Le.refl (use__text_of (T := T) (X := E0) (e := e) (k := 0) (ea_cons (ev_var (i := 0) rfl) (ea_cons (ev_int (K := K) (i := 0)) ea_nil)) hn) k
theorem use_format_expression {T : Txt K mg} {tr : TA} {Γ : Gm} {M M1 : Ms} {e : Xp} {X : XK} (h : EvA tr Γ M [D K (dX e)] M1) (hn : e.ok ∧ e.sz < 130) : Ev (tCall (sp_format_expression T) [] X tr) Γ M (D K (dS (txt e 0))) M1 :=
  call0 h fun vs H Q z => ⟨e, hn, z⟩
end
end My
namespace My
open PySem L2 Hq
local macro_rules | `(tactic| trivial) => `(tactic| omega)
section
variable {P : Program} {wo : World} {K : PySem.W.Frag} {mg : Str → Option Value} {base : Heap}
/-! ### _token_at -/
theorem sc__token_at : FnScope ["text", "at", "word"] ["text", "at"] (defScope s__token_at) := ⟨rfl, rfl, rfl, by decide +kernel, rfl, by decide +kernel, by decide +kernel⟩
def sp__token_at (T : Txt K mg) : Sp := fun vs H Q _ => ∃ (w : List Nat) (n : Nat), (n ≤ w.length ∧ w.length ≤ 100000) ∧ Prom [D K (dS w), D K (.int (n : Int))] [] (D K (dS (tokL (w.drop n)))) [] vs H Q
theorem sp__token_at_len {T : Txt K mg} {vs H Q E} (h : sp__token_at T vs H Q E) : vs.length = 2 := by obtain ⟨_, _, _, h⟩ := h; exact h.len
set_option maxHeartbeats 4000000 in
theorem ok__token_at (T : Txt K mg) : FnOk P wo K mg base CX0 1 T.f__token_at T.d__token_at ["text", "at"] (sp__token_at T) := by
  have nd := (sc__token_at).nd
  refine T.F__token_at.ok sc__token_at (fun vs H Q E h => (sp__token_at_len h)) (fun cdv A outer s H vs Q E hr h => ?_)
  obtain ⟨w, n, ⟨hn, hl⟩, F, wd, pp, k⟩ := h
  refine ⟨_, (pss_cons (ps_if (pt_cmpR op_eq (pv 1) (pe_callB call_len_str (by rfl) T.z_len PySem.boot_len (pa_cons (pv 0) pa_nil)) (nomark _)) (pss_one (ps_ret (pe_glob (v := .str "") rfl T.v_END ⟨_, rfl⟩))) pss_nil)
    (pss_cons (ps_for PassesOwn.never rfl (pi_tupK (K := K) rfl (pe_tup (pa_cons pe_str (pa_cons pe_str pa_nil)))) (pg_name (i := 2) nd rfl (by first | exact Or.inl rfl | exact Or.inr rfl))
     (pss_one (ps_if (pt_val (pe_bm PySem.F.plainAttrs_str PySem.F.slot_str_startswith PySem.F.type_str_startswith mt_startswith3 (pv 0) (pa_cons (pv 2) (pa_cons (pv 1) pa_nil)))) (pss_one (ps_ret (pv 2))) pss_nil)))
    (pss_one (ps_ret (pe_ix (c_ix (K := K) rfl) (pv 0) (pv 1) (fun _ _ => rfl)))))), ?_⟩
  refine go_start wd pp (Γ := [some (D K (dS w)), some (D K (.int (n : Int))), none]) rfl ?_
  refine (q_if (et_test (ev_op (ev_var (i := 1) rfl) (ev_cb (ea_cons (ev_var (i := 0) rfl) ea_nil) (rc_lenS (by omega))) rv_eqI)) (fun hb => ?_) fun hb => go_next ?_)
  · have hb := of_decide_eq_true hb.symm
    refine go_ret Le.refl ((ev_strL (K := K) (l := []) rfl).is (P' := D K (dS (tokL (w.drop n)))) ?_) k
    rw [show n = w.length by omega, List.drop_length]
    rfl
  have hb := of_decide_eq_false hb.symm
  have hlt : n < w.length := by omega
  have hd : w.drop n = w[n] :: w.drop (n + 1) := List.drop_eq_getElem_cons hlt
  dsimp only
  refine (q_forT (ps := [D K (dS wN), D K (dS wE)]) (ev_tup (ps := [D K (dS wN), D K (dS wE)]) (ea_cons (ev_strL (l := wN) rfl) (ea_cons (ev_strL (l := wE) rfl) ea_nil)) (by simp)) (fun i Γ M => (∃ g : Option MP, Γ = [some (D K (dS w)), some (D K (.int (n : Int))), g] ∧ M = []) ∧ (1 ≤ i → (w.drop n).take 4 ≠ wN) ∧ (2 ≤ i → (w.drop n).take 5 ≠ wE)) ⟨⟨none, rfl, rfl⟩, fun c => absurd c (by decide), fun c => absurd c (by decide)⟩ ?_ ?_)
  · rintro E' hE i P hP _ _ ⟨⟨g, rfl, rfl⟩, J1, J2⟩
    match i, hP with
    | 0, hP =>
      cases hP
      refine (go_if (et_val (ev_starts (l := w) (b := wN) (n := n) (ev_var (i := 0) rfl) (ea_cons (ev_var (i := 2) rfl) (ea_cons (ev_var (i := 1) rfl) ea_nil)) hn)) (fun hb => ?_) fun hb => go_next ?_)
      · have hb : (w.drop n).take 4 = wN := of_decide_eq_true hb.symm
        refine go_ret hE ((ev_var (i := 2) rfl).is ?_) k
        rw [hd] at hb ⊢
        rw [tokL_cons, if_pos hb]
      · have hb := of_decide_eq_false hb.symm
        exact JA.of ⟨⟨_, rfl, rfl⟩, fun _ => hb, fun c => absurd c (by decide)⟩
    | 1, hP =>
      cases hP
      refine (go_if (et_val (ev_starts (l := w) (b := wE) (n := n) (ev_var (i := 0) rfl) (ea_cons (ev_var (i := 2) rfl) (ea_cons (ev_var (i := 1) rfl) ea_nil)) hn)) (fun hb => ?_) fun hb => go_next ?_)
      · have hb : (w.drop n).take 5 = wE := of_decide_eq_true hb.symm
        have J1 := J1 (by decide)
        refine go_ret hE ((ev_var (i := 2) rfl).is ?_) k
        rw [hd] at hb J1 ⊢
        rw [tokL_cons, if_neg J1, if_pos hb]
      · have hb := of_decide_eq_false hb.symm
        exact JA.of ⟨⟨_, rfl, rfl⟩, fun _ => J1 (by decide), fun _ => hb⟩
    | i + 2, hP => cases hP
  · rintro _ _ ⟨⟨g, rfl, rfl⟩, J1, J2⟩
    refine go_ret Le.refl ((ev_op (ev_var (i := 0) rfl) (ev_var (i := 1) rfl) (rv_ixS (c := w[n]) (by omega) (by omega) (by rw [Int.toNat_natCast]; exact List.getElem?_eq_getElem hlt))).is ?_) k
    have J1 := J1 (by simp)
    have J2 := J2 (by simp)
    rw [hd] at J1 J2 ⊢
    rw [tokL_cons, if_neg J1, if_neg J2]
theorem use__token_at {T : Txt K mg} {tr : TA} {Γ : Gm} {M M1 : Ms} {w : List Nat} {n : Nat} {X : XK} (h : EvA tr Γ M [D K (dS w), D K (.int (n : Int))] M1) (hn : n ≤ w.length ∧ w.length ≤ 100000) : Ev (tCall (sp__token_at T) [] X tr) Γ M (D K (dS (tokL (w.drop n)))) M1 :=
  call0 h fun vs H Q z => ⟨w, n, hn, z⟩
end
end My
namespace My
open PySem L2 Hq
local macro_rules | `(tactic| trivial) => `(tactic| omega)
section
variable {P : Program} {wo : World} {K : PySem.W.Frag} {mg : Str → Option Value} {base : Heap}
/-! ### Reader.advance -/
theorem sc_Reader_advance : FnScope ["self", "at"] ["self"] (defScope s_Reader_advance) := ⟨rfl, rfl, rfl, by decide +kernel, rfl, by decide +kernel, by decide +kernel⟩
abbrev rdN : List Str := ["text", "token", "position", "behind"]
/-- a reader: what is left begins with its token -/
abbrev rdI (K : PySem.W.Frag) (w t : List Nat) (p b : Nat) : List (Str × MP) := [("text", D K (dS w)), ("token", D K (dS t)), ("position", D K (.int (p : Int))), ("behind", D K (.int (b : Int)))]
abbrev MRi (T : Txt K mg) (w t : List Nat) (p b : Nat) : MO := MOb T.c_Reader (rdI K w t p b)
abbrev MRd (T : Txt K mg) (w r : List Nat) : MO := MRi T w (tokL r) (w.length - r.length) (w.length - r.length + (tokL r).length)
theorem rd_ne {w t : List Nat} {p b : Nat} {m : Str} (h : ∀ s ∈ rdN, s ≠ m) : ∀ g ∈ rdI K w t p b, g.1 ≠ m := names_ne rdN h
section
variable {T : Txt K mg} {Γ : Gm} {M : Ms} {x : Addr} {w t : List Nat} {p b : Nat} {te : TE} {j : Nat}
theorem ev_rdX (h : Ev te Γ M (Own x) M) (e : M[j]? = some (x, MRi T w t p b)) : Ev (tFld K te "text") Γ M (D K (dS w)) M := ev_fldO h e 0 rfl (fun _ h => by cases h) T.cl_Reader T.na_Reader_text
theorem ev_rdT (h : Ev te Γ M (Own x) M) (e : M[j]? = some (x, MRi T w t p b)) : Ev (tFld K te "token") Γ M (D K (dS t)) M := ev_fldO h e 1 rfl (names_ne ["text"] (by decide +kernel)) T.cl_Reader T.na_Reader_token
theorem ev_rdP (h : Ev te Γ M (Own x) M) (e : M[j]? = some (x, MRi T w t p b)) : Ev (tFld K te "position") Γ M (D K (.int (p : Int))) M := ev_fldO h e 2 rfl (names_ne ["text", "token"] (by decide +kernel)) T.cl_Reader T.na_Reader_position
theorem ev_rdB (h : Ev te Γ M (Own x) M) (e : M[j]? = some (x, MRi T w t p b)) : Ev (tFld K te "behind") Γ M (D K (.int (b : Int))) M := ev_fldO h e 3 rfl (names_ne ["text", "token", "position"] (by decide +kernel)) T.cl_Reader T.na_Reader_behind
end
def sp_Reader_advance (T : Txt K mg) : Sp := fun vs H Q _ => ∃ (x : Addr) (w t : List Nat) (p b : Nat), (w.length ≤ 100000 ∧ b ≤ w.length) ∧ Prom [Own x] [(x, MRi T w t p b)] (D K .none) [(x, MRd T w (dropSp (w.drop b)))] vs H Q
theorem sp_Reader_advance_len {T : Txt K mg} {vs H Q E} (h : sp_Reader_advance T vs H Q E) : vs.length = 1 := by obtain ⟨_, _, _, _, _, _, h⟩ := h; exact h.len
set_option maxHeartbeats 4000000 in
theorem ok_Reader_advance (T : Txt K mg) : FnOk P wo K mg base CX0 2 T.f_Reader_advance T.d_Reader_advance ["self"] (sp_Reader_advance T) := by
  have nd := (sc_Reader_advance).nd
  refine T.F_Reader_advance.ok sc_Reader_advance (fun vs H Q E h => (sp_Reader_advance_len h)) (fun cdv A outer s H vs Q E hr h => ?_)
  obtain ⟨x, w, t, p, b, ⟨wl, bl⟩, F, wd, pp, k⟩ := h
  refine ⟨_, (pss_cons (ps_set (i := 1) nd rfl (Or.inl rfl) (c_fld (K := K) rfl (pv 0) rfl))
    (pss_cons (ps_while PassesOwn.never (PW.pt (pw_and (pt_cmpR op_lt (pv 1) (pe_callB call_len_str (by rfl) T.z_len PySem.boot_len (pa_cons (c_fld (K := K) rfl (pv 0) rfl) pa_nil)) (nomark _)) (pw_and1 (pt_cmpR op_eq (pe_ix (c_ix (K := K) rfl) (c_fld (K := K) rfl (pv 0) rfl) (pv 1) (fun _ _ => rfl)) pe_str (nomark _))))) (pss_one (ps_aug (i := 1) nd rfl (Or.inl rfl) pe_int ip_add)))
    (pss_cons (ps_fld (pv 0) (pv 1) rfl)
    (pss_cons (ps_fld (pv 0) (pe_call (ok__token_at T) (hr.mono (by decide)) rfl T.m__token_at T.F__token_at.kp T.b__token_at .nil pass0 (pa_cons (c_fld (K := K) rfl (pv 0) rfl) (pa_cons (pv 1) pa_nil))) rfl)
    (pss_one (ps_fld (pv 0) (pe_op op_add (pv 1) (pe_callB call_len_str (by rfl) T.z_len PySem.boot_len (pa_cons (c_fld (K := K) rfl (pv 0) rfl) pa_nil))) rfl)))))), ?_⟩
  refine go_start wd pp (Γ := [some (Own x), none]) rfl ?_
  show Nx _ _ [(x, MRi T w t p b)] _
  refine (q_asg (ev_rdB (j := 0) (ev_var (i := 0) rfl) rfl) ?_)
  dsimp only [List.set]
  refine (q_while (fun m Γ M => ∃ a : Nat, Γ = [some (Own x), some (D K (.int (a : Int)))] ∧ M = [(x, MRi T w t p b)] ∧ m = w.length - a ∧ a ≤ w.length ∧ dropSp (w.drop a) = dropSp (w.drop b)) _ ⟨b, rfl, rfl, rfl, bl, rfl⟩ ?_)
  rintro m _ _ ⟨a, rfl, rfl, rfl, al, ha⟩
  have e1 : Ev (tOp (rI0 fun i j => .bl (decide (i < j))) (tVar 1) (tCB (fun xs H Q => ∃ z : Str, xs = [.str z] ∧ z.length ≤ sizeLine ∧ Q (.int z.length) H) (tCons (tFld K (tVar 0) "text") tNil))) [some (Own x), some (D K (.int (a : Int)))] [(x, MRi T w t p b)] (D K (.bool (decide ((a : Int) < (w.length : Int))))) [(x, MRi T w t p b)] := ev_op (ev_var (i := 1) rfl) (ev_cb (ea_cons (ev_rdX (j := 0) (ev_var (i := 0) rfl) rfl) ea_nil) (rc_lenS (by omega))) rv_b0
  have e2 : decide ((a : Int) < (w.length : Int)) = true → Ev (tOp rEq (tOp (rIx K) (tFld K (tVar 0) "text") (tVar 1)) (tC (.str " "))) [some (Own x), some (D K (.int (a : Int)))] [(x, MRi T w t p b)] (D K (.bool (decide ([w.getD a 0] = [32])))) [(x, MRi T w t p b)] := fun c => by
    have c := of_decide_eq_true c
    exact ev_eqS (ev_op (ev_rdX (j := 0) (ev_var (i := 0) rfl) rfl) (ev_var (i := 1) rfl) (rv_ixS (c := w.getD a 0) (by omega) (by omega) (by rw [Int.toNat_natCast, List.getD_eq_getElem?_getD, List.getElem?_eq_getElem (by omega)]; rfl))) (ev_strL (l := [32]) rfl)
  refine ⟨_, _, et_and (et_test e1) fun c => et_test (e2 c), fun hb => ?_, fun hb => ?_⟩
  · have hb := hb.symm
    rw [Bool.and_eq_true, decide_eq_true_iff, decide_eq_true_iff] at hb
    obtain ⟨h1, h2⟩ := hb
    have lt : a < w.length := by omega
    have ec : w.getD a 0 = 32 := (List.cons.inj h2).1
    have hd : w.drop a = w.getD a 0 :: w.drop (a + 1) := by
      rw [List.drop_eq_getElem_cons lt, List.getD_eq_getElem?_getD, List.getElem?_eq_getElem lt]; rfl
    refine go_aug (x := (a : Int)) (y := 1) (f := fun i j => i + j) rfl (ev_int (K := K) (i := 1)) (JA.of ⟨w.length - (a + 1), by omega, a + 1, by dsimp only [List.set]; congr 4, rfl, rfl, by omega, ?_⟩)
    rw [← ha, hd, ec, dropSp_sp]
  · have hb := hb.symm
    have hr : dropSp (w.drop b) = w.drop a := by
      rw [← ha]
      rcases Nat.lt_or_ge a w.length with lt | ge
      · have hd : w.drop a = w[a] :: w.drop (a + 1) := List.drop_eq_getElem_cons lt
        rw [decide_eq_true (show (a : Int) < (w.length : Int) by omega), Bool.true_and, decide_eq_false_iff_not] at hb
        rw [hd]
        refine dropSp_cons fun c => hb ?_
        rw [List.getD_eq_getElem?_getD, List.getElem?_eq_getElem lt]
        show [w[a]] = [32]
        rw [c]
      · rw [List.drop_eq_nil_of_le ge]; rfl
    rw [hr] at k
    have hl : w.length - (w.drop a).length = a := by rw [List.length_drop]; omega
    refine (q_fldU (j := 0) (P' := D K (.int (a : Int))) (ev_var (i := 1) rfl) (ev_var (i := 0) rfl) rfl (by simp) 2 rfl (names_ne ["text", "token"] (by decide +kernel)) T.cl_Reader T.na_Reader_position ?_)
    show Nx _ _ [(x, MRi T w t a b)] _
    refine (q_fldU (j := 0) (P' := D K (dS (tokL (w.drop a)))) (use__token_at (ea_cons (ev_rdX (j := 0) (ev_var (i := 0) rfl) rfl) (ea_cons (ev_var (i := 1) rfl) ea_nil)) ⟨al, wl⟩) (ev_var (i := 0) rfl) rfl (by simp) 1 rfl (names_ne ["text"] (by decide +kernel)) T.cl_Reader T.na_Reader_token ?_)
    show Nx _ _ [(x, MRi T w (tokL (w.drop a)) a b)] _
    have tl := tokL_le (r := w.drop a)
    rw [List.length_drop] at tl
    refine go_fldU (j := 0) (P' := D K (.int ((a + (tokL (w.drop a)).length : Nat) : Int))) ((ev_op (ev_var (i := 1) rfl) (ev_cb (ea_cons (ev_rdT (j := 0) (ev_var (i := 0) rfl) rfl) ea_nil) (rc_lenS (by omega))) (rv_i0 (g := fun i j => i + j))).is (by congr 2)) (ev_var (i := 0) rfl) rfl (by simp) 3 rfl (names_ne ["text", "token", "position"] (by decide +kernel)) T.cl_Reader T.na_Reader_behind ?_
    show Nx _ _ [(x, MRi T w (tokL (w.drop a)) a (a + (tokL (w.drop a)).length))] _
    have hm : MRd T w (w.drop a) = MRi T w (tokL (w.drop a)) a (a + (tokL (w.drop a)).length) := by show MRi T w _ _ _ = _; rw [hl]
    rw [hm] at k
    exact fun σ H' ⟨F', g, b⟩ => k .non F' H' g .non
theorem use_Reader_advance {T : Txt K mg} {Γ : Gm} {M : Ms} {ta : TE} {x : Addr} {w t : List Nat} {p b j : Nat} {X : XK} (h : Ev ta Γ M (Own x) M) (e : M[j]? = some (x, MRi T w t p b)) (hn : w.length ≤ 100000 ∧ b ≤ w.length) : Ev (tMeth T.c_Reader "advance" (sp_Reader_advance T) [] X ta tNil) Γ M (D K .none) (M.set j (x, MRd T w (dropSp (w.drop b)))) :=
  ev_methO h e (rd_ne (by decide +kernel)) ea_nil fun vs H Q z => ⟨x, w, t, p, b, hn, z⟩
end
end My
namespace My
open PySem L2 Hq
local macro_rules | `(tactic| trivial) => `(tactic| omega)
section
variable {P : Program} {wo : World} {K : PySem.W.Frag} {mg : Str → Option Value} {base : Heap}
/-! ### Reader.__init__ -/
theorem sc_Reader_init : FnScope ["self", "text"] ["self", "text"] (defScope s_Reader_init) := ⟨rfl, rfl, rfl, by decide +kernel, rfl, by decide +kernel, by decide +kernel⟩
def sp_Reader_init (T : Txt K mg) : Sp := fun vs H Q _ => ∃ (x : Addr) (w : List Nat), (w.length ≤ 100000) ∧ Prom [Own x, D K (dS w)] [(x, MOb T.c_Reader [])] (D K .none) [(x, MRd T w (dropSp w))] vs H Q
theorem sp_Reader_init_len {T : Txt K mg} {vs H Q E} (h : sp_Reader_init T vs H Q E) : vs.length = 2 := by obtain ⟨_, _, _, h⟩ := h; exact h.len
set_option maxHeartbeats 4000000 in
theorem ok_Reader_init (T : Txt K mg) : FnOk P wo K mg base CX0 3 T.f_Reader_init T.d_Reader_init ["self", "text"] (sp_Reader_init T) := by
  have nd := (sc_Reader_init).nd
  refine T.F_Reader_init.ok sc_Reader_init (fun vs H Q E h => (sp_Reader_init_len h)) (fun cdv A outer s H vs Q E hr h => ?_)
  obtain ⟨x, w, wl, F, wd, pp, k⟩ := h
  refine ⟨_, (pss_cons (ps_fld (pv 0) (pv 1) rfl)
    (pss_cons (ps_fld (pv 0) (pe_glob (v := .str "") rfl T.v_END ⟨_, rfl⟩) rfl)
    (pss_cons (ps_fld (pv 0) pe_int rfl)
    (pss_cons (ps_fld (pv 0) pe_int rfl)
    (pss_one (ps_expr (pe_meth0 (pv 0) T.cl_Reader T.me_Reader_advance (ok_Reader_advance T) (hr.mono (by decide)) T.b_Reader_advance .nil pass0))))))), ?_⟩
  refine go_start wd pp (Γ := [some (Own x), some (D K (dS w))]) rfl ?_
  show Nx _ _ [(x, MOb T.c_Reader [])] _
  refine (q_fldN (j := 0) (P := D K (dS w)) (ev_var (i := 1) rfl) (ev_var (i := 0) rfl) rfl (by decide) (fun _ h => by cases h) T.cl_Reader T.na_Reader_text ?_)
  refine (q_fldN (j := 0) (P := D K (dS [])) (ev_strL (l := []) rfl) (ev_var (i := 0) rfl) rfl (by simp) (names_ne ["text"] (by decide +kernel)) T.cl_Reader T.na_Reader_token ?_)
  refine (q_fldN (j := 0) (P := D K (.int ((0 : Nat) : Int))) (ev_int (K := K) (i := 0)) (ev_var (i := 0) rfl) rfl (by simp) (names_ne ["text", "token"] (by decide +kernel)) T.cl_Reader T.na_Reader_position ?_)
  refine (q_fldN (j := 0) (P := D K (.int ((0 : Nat) : Int))) (ev_int (K := K) (i := 0)) (ev_var (i := 0) rfl) rfl (by simp) (names_ne ["text", "token", "position"] (by decide +kernel)) T.cl_Reader T.na_Reader_behind ?_)
  show Nx _ _ [(x, MRi T w [] 0 0)] _
  refine go_drop (use_Reader_advance (T := T) (X := E0) (j := 0) (ev_var (i := 0) rfl) rfl ⟨wl, by omega⟩) ?_
  exact fun σ H' ⟨F', g, b⟩ => k .non F' H' g .non
theorem use_Reader {T : Txt K mg} {tr : TA} {Γ : Gm} {M M1 : Ms} {w : List Nat} {X : XK} (h : EvA tr Γ M [D K (dS w)] M1) (hn : w.length ≤ 100000) : EvN (tMake T.c_Reader (sp_Reader_init T) [] X tr) Γ M (MRd T w (dropSp w)) M1 :=
  make0' h fun x vs H Q z => ⟨x, w, hn, z⟩
end
end My
namespace My
open PySem L2 Hq
local macro_rules | `(tactic| trivial) => `(tactic| omega)
section
variable {P : Program} {wo : World} {K : PySem.W.Frag} {mg : Str → Option Value} {base : Heap}
/-! ### Reader.read_simple -/
theorem sc_Reader_read_simple : FnScope ["self", "token", "found"] ["self"] (defScope s_Reader_read_simple) := ⟨rfl, rfl, rfl, by decide +kernel, rfl, by decide +kernel, by decide +kernel⟩
structure RdOk (w r : List Nat) : Prop where
  suf : r <:+ w
  len : w.length ≤ 100000
theorem RdOk.step {w r r' : List Nat} (h : RdOk w r) (s : r' <:+ r) : RdOk w r' := ⟨s.trans h.suf, h.len⟩
theorem RdOk.nx {w r : List Nat} (h : RdOk w r) : dropSp (w.drop (w.length - r.length + (tokL r).length)) = nxS r := by
  rw [← List.drop_drop, suf_drop h.suf]; rfl
theorem RdOk.at_le {w r : List Nat} (h : RdOk w r) : w.length - r.length + (tokL r).length ≤ w.length := by
  have h1 := h.suf.length_le
  have h2 := tokL_le (r := r)
  omega
def spr_Reader_read_simple (d : Nat) (T : Txt K mg) : Sp := fun vs H Q E => ∃ (x : Addr) (w r : List Nat) (F : Hp), (RdOk w r ∧ cP r < d) ∧ Wd F [(x, MRd T w r)] H ∧ Ps F vs [Own x] ∧ (∀ z, gS d r = .ok z → Rt ⟨F, H, keys [(x, MRd T w r)]⟩ [(x, MRd T w z.2)] (D K (dX z.1)) Q) ∧ (∀ n, gS d r = .error n → RtF ⟨F, H, keys [(x, MRd T w r)]⟩ [(x, MAny)] T.c_ExpressionSyntaxError ((w.length - n : Nat) : Int) E)
theorem spr_Reader_read_simple_len {d : Nat} {T : Txt K mg} {vs H Q E} (h : spr_Reader_read_simple d T vs H Q E) : vs.length = 1 := by obtain ⟨_, _, _, _, _, _, p, _⟩ := h; exact paired_len p
def spr_Reader_read_star (d : Nat) (T : Txt K mg) : Sp := fun vs H Q E => ∃ (x : Addr) (w r : List Nat) (F : Hp), (RdOk w r ∧ cP r < d) ∧ Wd F [(x, MRd T w r)] H ∧ Ps F vs [Own x] ∧ (∀ z, gT d r = .ok z → Rt ⟨F, H, keys [(x, MRd T w r)]⟩ [(x, MRd T w z.2)] (D K (dX z.1)) Q) ∧ (∀ n, gT d r = .error n → RtF ⟨F, H, keys [(x, MRd T w r)]⟩ [(x, MAny)] T.c_ExpressionSyntaxError ((w.length - n : Nat) : Int) E)
theorem spr_Reader_read_star_len {d : Nat} {T : Txt K mg} {vs H Q E} (h : spr_Reader_read_star d T vs H Q E) : vs.length = 1 := by obtain ⟨_, _, _, _, _, _, p, _⟩ := h; exact paired_len p
def spr_Reader_read_join (d : Nat) (T : Txt K mg) : Sp := fun vs H Q E => ∃ (x : Addr) (w r : List Nat) (F : Hp), (RdOk w r ∧ cP r < d) ∧ Wd F [(x, MRd T w r)] H ∧ Ps F vs [Own x] ∧ (∀ z, gJ d r = .ok z → Rt ⟨F, H, keys [(x, MRd T w r)]⟩ [(x, MRd T w z.2)] (D K (dX z.1)) Q) ∧ (∀ n, gJ d r = .error n → RtF ⟨F, H, keys [(x, MRd T w r)]⟩ [(x, MAny)] T.c_ExpressionSyntaxError ((w.length - n : Nat) : Int) E)
theorem spr_Reader_read_join_len {d : Nat} {T : Txt K mg} {vs H Q E} (h : spr_Reader_read_join d T vs H Q E) : vs.length = 1 := by obtain ⟨_, _, _, _, _, _, p, _⟩ := h; exact paired_len p
def spr_Reader_read_either (d : Nat) (T : Txt K mg) : Sp := fun vs H Q E => ∃ (x : Addr) (w r : List Nat) (F : Hp), (RdOk w r ∧ cP r < d) ∧ Wd F [(x, MRd T w r)] H ∧ Ps F vs [Own x] ∧ (∀ z, gE d r = .ok z → Rt ⟨F, H, keys [(x, MRd T w r)]⟩ [(x, MRd T w z.2)] (D K (dX z.1)) Q) ∧ (∀ n, gE d r = .error n → RtF ⟨F, H, keys [(x, MRd T w r)]⟩ [(x, MAny)] T.c_ExpressionSyntaxError ((w.length - n : Nat) : Int) E)
theorem spr_Reader_read_either_len {d : Nat} {T : Txt K mg} {vs H Q E} (h : spr_Reader_read_either d T vs H Q E) : vs.length = 1 := by obtain ⟨_, _, _, _, _, _, p, _⟩ := h; exact paired_len p
theorem spr_Reader_read_simple_zero {T : Txt K mg} {vs H Q E} : ¬ spr_Reader_read_simple 0 T vs H Q E := fun ⟨_, _, _, _, h, _⟩ => absurd h.2 (Nat.not_lt_zero _)
section
variable {T : Txt K mg} {E : Ent} {Γ : Gm} {M : Ms} {ta : TE} {x : Addr} {w r : List Nat} {z : Xp × List Nat} {d j n : Nat} {X : XK}
theorem rec_simple (h : Ev ta Γ M (Own x) M) (e : M[j]? = some (x, MRd T w r)) (O : RdOk w r) (hd : cP r < d) (hz : gS d r = .ok z) : Ev (tMeth T.c_Reader "read_simple" (spr_Reader_read_simple d T) [] X ta tNil) Γ M (D K (dX z.1)) (M.set j (x, MRd T w z.2)) :=
  ev_methO h e (rd_ne (by decide +kernel)) ea_nil fun vs H Q ⟨F, wd, pp, k⟩ => ⟨x, w, r, F, ⟨O, hd⟩, wd, pp, fun y hy => by cases hz.symm.trans hy; exact k, fun m hm => by cases hz.symm.trans hm⟩
theorem flr_simple (h : Ev ta Γ M (Own x) M) (e : M[j]? = some (x, MRd T w r)) (O : RdOk w r) (hd : cP r < d) (hz : gS d r = .error n) (k : RtF E (M.set j (x, MAny)) T.c_ExpressionSyntaxError ((w.length - n : Nat) : Int) X) : Fl E Γ M (tMeth T.c_Reader "read_simple" (spr_Reader_read_simple d T) [] X ta tNil) :=
  fl_methO h e (rd_ne (by decide +kernel)) (fun vs H Q X ⟨F, wd, pp, k⟩ => ⟨x, w, r, F, ⟨O, hd⟩, wd, pp, fun y hy => (by cases hz.symm.trans hy), fun m hm => by cases hz.symm.trans hm; exact k⟩) k
theorem rec_star (h : Ev ta Γ M (Own x) M) (e : M[j]? = some (x, MRd T w r)) (O : RdOk w r) (hd : cP r < d) (hz : gT d r = .ok z) : Ev (tMeth T.c_Reader "read_star" (spr_Reader_read_star d T) [] X ta tNil) Γ M (D K (dX z.1)) (M.set j (x, MRd T w z.2)) :=
  ev_methO h e (rd_ne (by decide +kernel)) ea_nil fun vs H Q ⟨F, wd, pp, k⟩ => ⟨x, w, r, F, ⟨O, hd⟩, wd, pp, fun y hy => by cases hz.symm.trans hy; exact k, fun m hm => by cases hz.symm.trans hm⟩
theorem flr_star (h : Ev ta Γ M (Own x) M) (e : M[j]? = some (x, MRd T w r)) (O : RdOk w r) (hd : cP r < d) (hz : gT d r = .error n) (k : RtF E (M.set j (x, MAny)) T.c_ExpressionSyntaxError ((w.length - n : Nat) : Int) X) : Fl E Γ M (tMeth T.c_Reader "read_star" (spr_Reader_read_star d T) [] X ta tNil) :=
  fl_methO h e (rd_ne (by decide +kernel)) (fun vs H Q X ⟨F, wd, pp, k⟩ => ⟨x, w, r, F, ⟨O, hd⟩, wd, pp, fun y hy => (by cases hz.symm.trans hy), fun m hm => by cases hz.symm.trans hm; exact k⟩) k
theorem rec_join (h : Ev ta Γ M (Own x) M) (e : M[j]? = some (x, MRd T w r)) (O : RdOk w r) (hd : cP r < d) (hz : gJ d r = .ok z) : Ev (tMeth T.c_Reader "read_join" (spr_Reader_read_join d T) [] X ta tNil) Γ M (D K (dX z.1)) (M.set j (x, MRd T w z.2)) :=
  ev_methO h e (rd_ne (by decide +kernel)) ea_nil fun vs H Q ⟨F, wd, pp, k⟩ => ⟨x, w, r, F, ⟨O, hd⟩, wd, pp, fun y hy => by cases hz.symm.trans hy; exact k, fun m hm => by cases hz.symm.trans hm⟩
theorem flr_join (h : Ev ta Γ M (Own x) M) (e : M[j]? = some (x, MRd T w r)) (O : RdOk w r) (hd : cP r < d) (hz : gJ d r = .error n) (k : RtF E (M.set j (x, MAny)) T.c_ExpressionSyntaxError ((w.length - n : Nat) : Int) X) : Fl E Γ M (tMeth T.c_Reader "read_join" (spr_Reader_read_join d T) [] X ta tNil) :=
  fl_methO h e (rd_ne (by decide +kernel)) (fun vs H Q X ⟨F, wd, pp, k⟩ => ⟨x, w, r, F, ⟨O, hd⟩, wd, pp, fun y hy => (by cases hz.symm.trans hy), fun m hm => by cases hz.symm.trans hm; exact k⟩) k
theorem rec_either (h : Ev ta Γ M (Own x) M) (e : M[j]? = some (x, MRd T w r)) (O : RdOk w r) (hd : cP r < d) (hz : gE d r = .ok z) : Ev (tMeth T.c_Reader "read_either" (spr_Reader_read_either d T) [] X ta tNil) Γ M (D K (dX z.1)) (M.set j (x, MRd T w z.2)) :=
  ev_methO h e (rd_ne (by decide +kernel)) ea_nil fun vs H Q ⟨F, wd, pp, k⟩ => ⟨x, w, r, F, ⟨O, hd⟩, wd, pp, fun y hy => by cases hz.symm.trans hy; exact k, fun m hm => by cases hz.symm.trans hm⟩
theorem flr_either (h : Ev ta Γ M (Own x) M) (e : M[j]? = some (x, MRd T w r)) (O : RdOk w r) (hd : cP r < d) (hz : gE d r = .error n) (k : RtF E (M.set j (x, MAny)) T.c_ExpressionSyntaxError ((w.length - n : Nat) : Int) X) : Fl E Γ M (tMeth T.c_Reader "read_either" (spr_Reader_read_either d T) [] X ta tNil) :=
  fl_methO h e (rd_ne (by decide +kernel)) (fun vs H Q X ⟨F, wd, pp, k⟩ => ⟨x, w, r, F, ⟨O, hd⟩, wd, pp, fun y hy => (by cases hz.symm.trans hy), fun m hm => by cases hz.symm.trans hm; exact k⟩) k
theorem rd_adv (h : Ev ta Γ M (Own x) M) (e : M[j]? = some (x, MRd T w r)) (O : RdOk w r) : Ev (tMeth T.c_Reader "advance" (sp_Reader_advance T) [] X ta tNil) Γ M (D K .none) (M.set j (x, MRd T w (nxS r))) := by
  have := use_Reader_advance (X := X) h e ⟨O.len, O.at_le⟩
  rwa [O.nx] at this
end
set_option maxHeartbeats 4000000 in
theorem ok_Reader_read_simple_s (T : Txt K mg) (PF : HqTe.PrgOk P T.fl_ExpressionSyntaxError) (d : Nat) (ih : FnOk P wo K mg base (L2.CX P wo) (3 + 4 * d + 3) T.f_Reader_read_either T.d_Reader_read_either ["self"] (spr_Reader_read_either d T)) : FnOk P wo K mg base (L2.CX P wo) (3 + 4 * d + 4) T.f_Reader_read_simple T.d_Reader_read_simple ["self"] (spr_Reader_read_simple (d + 1) T) := by
  have nd := (sc_Reader_read_simple).nd
  refine T.F_Reader_read_simple.okX sc_Reader_read_simple (fun vs H Q E h => (spr_Reader_read_simple_len h)) (fun cdv A outer s H vs Q E hr h => ?_)
  obtain ⟨x, w, r, F, ⟨O, hd⟩, wd, pp, kz, ke⟩ := h
  refine ⟨_, (pss_cons (ps_set (i := 1) nd rfl (Or.inl rfl) (c_fld (K := K) rfl (pv 0) rfl))
    (Evl.pss_cut (ps_if (pt_cmpR op_eq (pv 1) pe_str (nomark _)) (pss_cons (ps_expr (pe_meth0 (pv 0) T.cl_Reader T.me_Reader_advance (ok_Reader_advance T) (hr.mono (by omega)) T.b_Reader_advance .nil pass0))
     (pss_cons (ps_set (i := 2) nd rfl (Or.inl rfl) (pe_meth0 (pv 0) T.cl_Reader T.me_Reader_read_either ih (hr.mono (by omega)) T.b_Reader_read_either .nil (passes_call (E := E) (takes_of rfl rfl rfl rfl) fun _ _ _ _ h => h)))
     (pss_one (ps_if (pt_cmpR op_ne (c_fld (K := K) rfl (pv 0) rfl) pe_str (nomark _)) (pss_one (ps_raise rfl (takes_of rfl rfl rfl rfl) (HqTe.pmk_e T.et_ExpressionSyntaxError PF hr T.mc_ExpressionSyntaxError (pa_cons (c_fld (K := K) rfl (pv 0) rfl) pa_nil) (by exact rfl)))) pss_nil)))) (pss_one (ps_if (PW.pt (pw_or (pt_cmpR op_eq (pv 1) pe_str (nomark _)) (pw_or1 (pt_cmpR op_eq (pv 1) pe_str (nomark _))))) (pss_one (ps_set (i := 2) nd rfl (Or.inl rfl) (pe_tup (pa_cons (pv 1) pa_nil)))) (pss_one (ps_if (PW.pt (pw_and (pt_cmpR op_ne (pv 1) (pe_glob (v := .str "") rfl T.v_END ⟨_, rfl⟩) (nomark _)) (pw_and1 (pt_cmpR op_in_sign (pv 1) (pe_glob (v := .str "0123456789") rfl T.v_DIGITS ⟨_, rfl⟩) (by rfl))))) (pss_one (ps_set (i := 2) nd rfl (Or.inl rfl) (pe_tup (pa_cons pe_str (pa_cons (pe_callTy call_int_str (by rfl) T.z_int (by decide +kernel) (pa_cons (pv 1) pa_nil)) pa_nil))))) (pss_one (ps_raise rfl (takes_of rfl rfl rfl rfl) (HqTe.pmk_e T.et_ExpressionSyntaxError PF hr T.mc_ExpressionSyntaxError (pa_cons (c_fld (K := K) rfl (pv 0) rfl) pa_nil) (by exact rfl)))))))))
    (pss_cons (ps_expr (pe_meth0 (pv 0) T.cl_Reader T.me_Reader_advance (ok_Reader_advance T) (hr.mono (by omega)) T.b_Reader_advance .nil pass0))
    (pss_one (ps_ret (pv 2)))))), ?_⟩
  refine go_start wd pp (Γ := [some (Own x), none, none]) rfl ?_
  show Nx _ _ [(x, MRd T w r)] _
  refine (q_asg (ev_rdT (j := 0) (ev_var (i := 0) rfl) rfl) ?_)
  dsimp only [List.set]
  have hz : gS (d + 1) r = pSimple (gE d) r := rfl
  refine go_cut (fun Γ M => ∃ (e : Xp) (r2 : List Nat), Γ = [some (Own x), some (D K (dS (tokL r))), some (D K (dX e))] ∧ M = [(x, MRd T w r2)] ∧ RdOk w r2 ∧ gS (d + 1) r = .ok (e, nxS r2)) ?_ ?rest
  · refine go_if (et_test (ev_eqS (ev_var (i := 1) rfl) (ev_strL (l := [40]) rfl))) (fun hb => ?_) fun hb => ?_
    · have hb := of_decide_eq_true hb.symm
      have lt := cP_lt hb
      unfold pSimple at hz
      rw [if_pos hb] at hz
      refine (q_drop (rd_adv (T := T) (X := E0) (j := 0) (ev_var (i := 0) rfl) rfl O) ?_)
      dsimp only [List.set]
      have O1 := O.step (nxS_suf r)
      cases q : gE d (nxS r) with
      | error n =>
        rw [q] at hz
        exact fl_asg (flr_either (j := 0) (ev_var (i := 0) rfl) rfl O1 (by omega) q (ke n hz))
      | ok y =>
        rw [q] at hz
        dsimp only at hz
        refine (q_asg (rec_either (T := T) (j := 0) (ev_var (i := 0) rfl) rfl O1 (by omega) q) ?_)
        dsimp only [List.set]
        have O2 := O1.step (gE_sf d _ _ q)
        refine go_if (et_test (ev_neS (ev_rdT (j := 0) (ev_var (i := 0) rfl) rfl) (ev_strL (l := [41]) rfl))) (fun hc => ?_) fun hc => go_next ?_
        · have hc := hc.symm
          rw [Bool.not_eq_true', decide_eq_false_iff_not] at hc
          rw [if_neg hc] at hz
          exact go_raiseF (ea_cons (ev_rdP (j := 0) (ev_var (i := 0) rfl) rfl) ea_nil) ((ke _ hz).any (j := 0) rfl)
        · have hc := hc.symm
          rw [Bool.not_eq_false', decide_eq_true_iff] at hc
          rw [if_pos hc] at hz
          exact JA.of ⟨y.1, y.2, rfl, rfl, O2, hz⟩
    · have hb := of_decide_eq_false hb.symm
      unfold pSimple at hz
      rw [if_neg hb] at hz
      refine go_if (et_or (et_test (ev_eqS (ev_var (i := 1) rfl) (ev_strL (l := wN) rfl))) fun _ => et_test (ev_eqS (ev_var (i := 1) rfl) (ev_strL (l := wE) rfl))) (fun hc => ?_) fun hc => ?_
      · have hc := hc.symm
        rw [Bool.or_eq_true, decide_eq_true_iff, decide_eq_true_iff] at hc
        have key : ∃ e : Xp, dX e = .tuple [dS (tokL r)] ∧ gS (d + 1) r = .ok (e, nxS r) := by
          by_cases c : tokL r = wN
          · rw [if_pos c] at hz
            exact ⟨.none, by rw [c]; rfl, hz⟩
          · rw [if_neg c, if_pos (hc.resolve_left c)] at hz
            exact ⟨.empty, by rw [hc.resolve_left c]; rfl, hz⟩
        obtain ⟨e, he, hz⟩ := key
        refine go_asg (P := D K (dX e)) ((ev_tup (K := K) (ps := [D K (dS (tokL r))]) (ea_cons (ev_var (i := 1) rfl) ea_nil) (by simp)).weak (by rw [he]; exact PTu_D (ds := [dS (tokL r)]))) (JA.of ⟨e, r, rfl, rfl, O, hz⟩)
      · have hc := hc.symm
        rw [Bool.or_eq_false_iff, decide_eq_false_iff_not, decide_eq_false_iff_not] at hc
        rw [if_neg hc.1, if_neg hc.2] at hz
        have kc : tokL r ≠ [] → ∃ c, tokL r = [c] := fun h => by
          cases r with
          | nil => exact absurd rfl h
          | cons c r =>
            rw [tokL_cons] at hc ⊢
            split at hc
            · exact absurd rfl hc.1
            · split at hc
              · exact absurd rfl hc.2
              · rename_i h1 h2
                exact ⟨c, by rw [if_neg h1, if_neg h2]⟩
        refine go_if (et_and (a := !decide (tokL r = [])) (b := decide ((tokL r).headD 0 ∈ [48, 49, 50, 51, 52, 53, 54, 55, 56, 57])) (et_test (ev_neS (ev_var (i := 1) rfl) (ev_strL (l := []) rfl))) fun hn => et_test (by
          rw [Bool.not_eq_true', decide_eq_false_iff_not] at hn
          obtain ⟨c, ec⟩ := kc hn
          rw [ec]
          exact ev_op (P1 := D K (dS [c])) (P2 := D K (dS [48, 49, 50, 51, 52, 53, 54, 55, 56, 57])) (ev_var (i := 1) rfl) (ev_strL (l := [48, 49, 50, 51, 52, 53, 54, 55, 56, 57]) rfl) rv_inSg)) (fun hn => ?_) fun hn => ?_
        · have hn := hn.symm
          rw [Bool.and_eq_true, Bool.not_eq_true', decide_eq_false_iff_not, decide_eq_true_iff] at hn
          obtain ⟨c, ec⟩ := kc hn.1
          have hc2 := hn.2
          rw [ec] at hc2
          have hr : 48 ≤ c ∧ c ≤ 57 := by
            have : c ∈ [48, 49, 50, 51, 52, 53, 54, 55, 56, 57] := hc2
            simp only [List.mem_cons, List.not_mem_nil, or_false] at this
            omega
          obtain ⟨n, rfl⟩ : ∃ n, c = 48 + n := ⟨c - 48, by omega⟩
          rw [if_pos ⟨hn.1, by rw [ec]; exact hr.1, by rw [ec]; exact hr.2⟩, ec] at hz
          have hz : gS (d + 1) r = .ok (.letter n, nxS r) := by
            rw [hz]
            show Except.ok (Xp.letter (48 + n - 48), _) = _
            rw [show 48 + n - 48 = n by omega]
          refine go_asg (P := D K (dX (.letter n))) ((ev_tup (K := K) (ps := [D K (dS wL), D K (.int (n : Int))]) (ea_cons (ev_strL (l := wL) rfl) (ea_cons (ev_cb (ea_cons ((ev_var (i := 1) rfl).is (P' := D K (dS [48 + n])) (by rw [ec])) ea_nil) (rc_intS (by omega))) ea_nil)) (by simp)).weak (PTu_D (ds := [dS wL, .int (n : Int)]))) (JA.of ⟨.letter n, r, rfl, rfl, O, hz⟩)
        · have hn := hn.symm
          rw [if_neg ?_] at hz
          · exact go_raiseF (ea_cons (ev_rdP (j := 0) (ev_var (i := 0) rfl) rfl) ea_nil) ((ke _ hz).any (j := 0) rfl)
          · rintro ⟨h1, h2, h3⟩
            rw [Bool.and_eq_false_iff, Bool.not_eq_false', decide_eq_true_iff, decide_eq_false_iff_not] at hn
            rcases hn with hn | hn
            · exact h1 hn
            · apply hn
              simp only [List.mem_cons, List.not_mem_nil, or_false]
              omega
  case rest =>
    rintro _ _ ⟨e, r2, rfl, rfl, O2, hz2⟩
    refine (q_drop (rd_adv (T := T) (X := E0) (j := 0) (ev_var (i := 0) rfl) rfl O2) ?_)
    dsimp only [List.set]
    exact go_ret Le.refl (ev_var (i := 2) rfl) (kz _ hz2)
end
end My
namespace My
open PySem L2 Hq
local macro_rules | `(tactic| trivial) => `(tactic| omega)
section
variable {P : Program} {wo : World} {K : PySem.W.Frag} {mg : Str → Option Value} {base : Heap}
/-! ### Reader.read_star -/
theorem sc_Reader_read_star : FnScope ["self", "found"] ["self"] (defScope s_Reader_read_star) := ⟨rfl, rfl, rfl, by decide +kernel, rfl, by decide +kernel, by decide +kernel⟩
set_option maxHeartbeats 4000000 in
theorem ok_Reader_read_star_s (T : Txt K mg) (PF : HqTe.PrgOk P T.fl_ExpressionSyntaxError) (d : Nat) (ih : FnOk P wo K mg base (L2.CX P wo) (3 + 4 * d + 0) T.f_Reader_read_simple T.d_Reader_read_simple ["self"] (spr_Reader_read_simple d T)) : FnOk P wo K mg base (L2.CX P wo) (3 + 4 * d + 1) T.f_Reader_read_star T.d_Reader_read_star ["self"] (spr_Reader_read_star d T) := by
  have nd := (sc_Reader_read_star).nd
  refine T.F_Reader_read_star.okX sc_Reader_read_star (fun vs H Q E h => (spr_Reader_read_star_len h)) (fun cdv A outer s H vs Q E hr h => ?_)
  obtain ⟨x, w, r, F, ⟨O, hd⟩, wd, pp, kz, ke⟩ := h
  refine ⟨_, (pss_cons (ps_set (i := 1) nd rfl (Or.inl rfl) (pe_meth0 (pv 0) T.cl_Reader T.me_Reader_read_simple ih (hr.mono (by omega)) T.b_Reader_read_simple .nil (passes_call (E := E) (takes_of rfl rfl rfl rfl) fun _ _ _ _ h => h)))
    (pss_cons (ps_while (passes_of rfl) (pt_cmpR op_eq (c_fld (K := K) rfl (pv 0) rfl) pe_str (nomark _)) (pss_cons (ps_expr (pe_meth0 (pv 0) T.cl_Reader T.me_Reader_advance (ok_Reader_advance T) (hr.mono (by omega)) T.b_Reader_advance .nil pass0))
     (pss_one (ps_set (i := 1) nd rfl (Or.inl rfl) (pe_tup (pa_cons pe_str (pa_cons (pv 1) pa_nil)))))))
    (pss_one (ps_ret (pv 1))))), ?_⟩
  refine go_start wd pp (Γ := [some (Own x), none]) rfl ?_
  show Nx _ _ [(x, MRd T w r)] _
  obtain ⟨d, rfl⟩ : ∃ d', d = d' + 1 := ⟨d - 1, by omega⟩
  have hz : gT (d + 1) r = pStar (gE d) r := rfl
  unfold pStar at hz
  cases q : pSimple (gE d) r with
  | error n =>
    rw [q] at hz
    exact fl_asg (flr_simple (d := d + 1) (j := 0) (ev_var (i := 0) rfl) rfl O hd q (ke n hz))
  | ok y =>
    rw [q] at hz
    dsimp only at hz
    refine (q_asg (rec_simple (d := d + 1) (T := T) (j := 0) (ev_var (i := 0) rfl) rfl O hd q) ?_)
    dsimp only [List.set]
    have sf0 := gS_sf (d + 1) r y q
    have O1 := O.step sf0
    refine (q_while (fun m Γ M => ∃ (e : Xp) (r2 : List Nat), Γ = [some (Own x), some (D K (dX e))] ∧ M = [(x, MRd T w r2)] ∧ RdOk w r2 ∧ m = r2.length ∧ gT (d + 1) r = .ok (lStar r2.length e r2)) _ ⟨y.1, y.2, rfl, rfl, O1, rfl, hz⟩ ?_)
    rintro m _ _ ⟨e, r2, rfl, rfl, O2, rfl, hl⟩
    refine ⟨_, _, et_test (ev_eqS (ev_rdT (j := 0) (ev_var (i := 0) rfl) rfl) (ev_strL (l := [42]) rfl)), fun hb => ?_, fun hb => ?_⟩
    · have hb := of_decide_eq_true hb.symm
      refine (q_drop (rd_adv (T := T) (X := E0) (j := 0) (ev_var (i := 0) rfl) rfl O2) ?_)
      dsimp only [List.set]
      rw [lStar_yes hb] at hl
      refine go_asg (P := D K (dX (.star e))) ((ev_tup (K := K) (ps := [D K (dS wS), D K (dX e)]) (ea_cons (ev_strL (l := wS) rfl) (ea_cons (ev_var (i := 1) rfl) ea_nil)) (by simp)).weak (PTu_D (ds := [dS wS, dX e]))) (JA.of ⟨_, nxS_lt (fun c => by rw [c] at hb; cases hb), .star e, nxS r2, rfl, rfl, O2.step (nxS_suf r2), rfl, hl⟩)
    · have hb := of_decide_eq_false hb.symm
      rw [lStar_no hb] at hl
      exact go_ret Le.refl (ev_var (i := 1) rfl) (kz _ hl)
end
end My
namespace My
open PySem L2 Hq
local macro_rules | `(tactic| trivial) => `(tactic| omega)
section
variable {P : Program} {wo : World} {K : PySem.W.Frag} {mg : Str → Option Value} {base : Heap}
/-! ### Reader.read_join -/
theorem sc_Reader_read_join : FnScope ["self", "found"] ["self"] (defScope s_Reader_read_join) := ⟨rfl, rfl, rfl, by decide +kernel, rfl, by decide +kernel, by decide +kernel⟩
set_option maxHeartbeats 4000000 in
theorem ok_Reader_read_join_s (T : Txt K mg) (PF : HqTe.PrgOk P T.fl_ExpressionSyntaxError) (d : Nat) (ih : FnOk P wo K mg base (L2.CX P wo) (3 + 4 * d + 1) T.f_Reader_read_star T.d_Reader_read_star ["self"] (spr_Reader_read_star d T)) : FnOk P wo K mg base (L2.CX P wo) (3 + 4 * d + 2) T.f_Reader_read_join T.d_Reader_read_join ["self"] (spr_Reader_read_join d T) := by
  have nd := (sc_Reader_read_join).nd
  refine T.F_Reader_read_join.okX sc_Reader_read_join (fun vs H Q E h => (spr_Reader_read_join_len h)) (fun cdv A outer s H vs Q E hr h => ?_)
  obtain ⟨x, w, r, F, ⟨O, hd⟩, wd, pp, kz, ke⟩ := h
  refine ⟨_, (pss_cons (ps_set (i := 1) nd rfl (Or.inl rfl) (pe_meth0 (pv 0) T.cl_Reader T.me_Reader_read_star ih (hr.mono (by omega)) T.b_Reader_read_star .nil (passes_call (E := E) (takes_of rfl rfl rfl rfl) fun _ _ _ _ h => h)))
    (pss_cons (ps_while (passes_of rfl) (pt_cmpR op_eq (c_fld (K := K) rfl (pv 0) rfl) pe_str (nomark _)) (pss_cons (ps_expr (pe_meth0 (pv 0) T.cl_Reader T.me_Reader_advance (ok_Reader_advance T) (hr.mono (by omega)) T.b_Reader_advance .nil pass0))
     (pss_one (ps_set (i := 1) nd rfl (Or.inl rfl) (pe_tup (pa_cons pe_str (pa_cons (pv 1) (pa_cons (pe_meth0 (pv 0) T.cl_Reader T.me_Reader_read_star ih (hr.mono (by omega)) T.b_Reader_read_star .nil (passes_call (E := E) (takes_of rfl rfl rfl rfl) fun _ _ _ _ h => h)) pa_nil))))))))
    (pss_one (ps_ret (pv 1))))), ?_⟩
  refine go_start wd pp (Γ := [some (Own x), none]) rfl ?_
  show Nx _ _ [(x, MRd T w r)] _
  obtain ⟨d, rfl⟩ : ∃ d', d = d' + 1 := ⟨d - 1, by omega⟩
  have hz : gJ (d + 1) r = pJoin (gE d) r := rfl
  unfold pJoin at hz
  cases q : pStar (gE d) r with
  | error n =>
    rw [q] at hz
    exact fl_asg (flr_star (d := d + 1) (j := 0) (ev_var (i := 0) rfl) rfl O hd q (ke n hz))
  | ok y =>
    rw [q] at hz
    dsimp only at hz
    refine (q_asg (rec_star (d := d + 1) (T := T) (j := 0) (ev_var (i := 0) rfl) rfl O hd q) ?_)
    dsimp only [List.set]
    have sf0 := gT_sf (d + 1) r y q
    have O1 := O.step sf0
    refine (q_while (fun m Γ M => ∃ (e : Xp) (r2 : List Nat), Γ = [some (Own x), some (D K (dX e))] ∧ M = [(x, MRd T w r2)] ∧ RdOk w r2 ∧ r2 <:+ r ∧ m = r2.length ∧ gJ (d + 1) r = lJoin (gE d) r2.length e r2) _ ⟨y.1, y.2, rfl, rfl, O1, sf0, rfl, hz⟩ ?_)
    rintro m _ _ ⟨e, r2, rfl, rfl, O2, s2, rfl, hl⟩
    refine ⟨_, _, et_test (ev_eqS (ev_rdT (j := 0) (ev_var (i := 0) rfl) rfl) (ev_strL (l := [46]) rfl)), fun hb => ?_, fun hb => ?_⟩
    · have hb := of_decide_eq_true hb.symm
      refine (q_drop (rd_adv (T := T) (X := E0) (j := 0) (ev_var (i := 0) rfl) rfl O2) ?_)
      dsimp only [List.set]
      have lt := nxS_lt (r := r2) (fun c => by rw [c] at hb; cases hb)
      have O3 := O2.step (nxS_suf r2)
      have c3 := cP_suf ((nxS_suf r2).trans s2)
      cases q2 : pStar (gE d) (nxS r2) with
      | error n =>
        obtain ⟨n2, hn2⟩ : ∃ n, r2.length = n + 1 := ⟨r2.length - 1, by omega⟩
        rw [hn2, lJoin_s, if_pos hb, q2] at hl
        exact fl_asgL (fl_tup3 (ev_strL (K := K) (l := wJ) rfl) (ev_var (i := 1) rfl) (flr_star (d := d + 1) (j := 0) (ev_var (i := 0) rfl) rfl O3 (by omega) q2 (ke n hl)))
      | ok y2 =>
        rw [lJoin_yes hb q2] at hl
        have sf := gT_sf (d + 1) _ _ q2
        refine go_asg (P := D K (dX (.join e y2.1))) ((ev_tup (K := K) (ps := [D K (dS wJ), D K (dX e), D K (dX y2.1)]) (ea_cons (ev_strL (l := wJ) rfl) (ea_cons (ev_var (i := 1) rfl) (ea_cons (rec_star (d := d + 1) (T := T) (j := 0) (ev_var (i := 0) rfl) rfl O3 (by omega) q2) ea_nil))) (by simp)).weak (PTu_D (ds := [dS wJ, dX e, dX y2.1]))) (JA.of ⟨_, Nat.lt_of_le_of_lt sf.length_le lt, .join e y2.1, y2.2, rfl, rfl, O3.step sf, sf.trans ((nxS_suf r2).trans s2), rfl, hl⟩)
    · have hb := of_decide_eq_false hb.symm
      rw [lJoin_no hb] at hl
      exact go_ret Le.refl (ev_var (i := 1) rfl) (kz _ hl)
end
end My
namespace My
open PySem L2 Hq
local macro_rules | `(tactic| trivial) => `(tactic| omega)
section
variable {P : Program} {wo : World} {K : PySem.W.Frag} {mg : Str → Option Value} {base : Heap}
/-! ### Reader.read_either -/
theorem sc_Reader_read_either : FnScope ["self", "found"] ["self"] (defScope s_Reader_read_either) := ⟨rfl, rfl, rfl, by decide +kernel, rfl, by decide +kernel, by decide +kernel⟩
set_option maxHeartbeats 4000000 in
theorem ok_Reader_read_either_s (T : Txt K mg) (PF : HqTe.PrgOk P T.fl_ExpressionSyntaxError) (d : Nat) (ih : FnOk P wo K mg base (L2.CX P wo) (3 + 4 * d + 2) T.f_Reader_read_join T.d_Reader_read_join ["self"] (spr_Reader_read_join d T)) : FnOk P wo K mg base (L2.CX P wo) (3 + 4 * d + 3) T.f_Reader_read_either T.d_Reader_read_either ["self"] (spr_Reader_read_either d T) := by
  have nd := (sc_Reader_read_either).nd
  refine T.F_Reader_read_either.okX sc_Reader_read_either (fun vs H Q E h => (spr_Reader_read_either_len h)) (fun cdv A outer s H vs Q E hr h => ?_)
  obtain ⟨x, w, r, F, ⟨O, hd⟩, wd, pp, kz, ke⟩ := h
  refine ⟨_, (pss_cons (ps_set (i := 1) nd rfl (Or.inl rfl) (pe_meth0 (pv 0) T.cl_Reader T.me_Reader_read_join ih (hr.mono (by omega)) T.b_Reader_read_join .nil (passes_call (E := E) (takes_of rfl rfl rfl rfl) fun _ _ _ _ h => h)))
    (pss_cons (ps_while (passes_of rfl) (pt_cmpR op_eq (c_fld (K := K) rfl (pv 0) rfl) pe_str (nomark _)) (pss_cons (ps_expr (pe_meth0 (pv 0) T.cl_Reader T.me_Reader_advance (ok_Reader_advance T) (hr.mono (by omega)) T.b_Reader_advance .nil pass0))
     (pss_one (ps_set (i := 1) nd rfl (Or.inl rfl) (pe_tup (pa_cons pe_str (pa_cons (pv 1) (pa_cons (pe_meth0 (pv 0) T.cl_Reader T.me_Reader_read_join ih (hr.mono (by omega)) T.b_Reader_read_join .nil (passes_call (E := E) (takes_of rfl rfl rfl rfl) fun _ _ _ _ h => h)) pa_nil))))))))
    (pss_one (ps_ret (pv 1))))), ?_⟩
  refine go_start wd pp (Γ := [some (Own x), none]) rfl ?_
  show Nx _ _ [(x, MRd T w r)] _
  obtain ⟨d, rfl⟩ : ∃ d', d = d' + 1 := ⟨d - 1, by omega⟩
  have hz : gE (d + 1) r = pEither (gE d) r := rfl
  unfold pEither at hz
  cases q : pJoin (gE d) r with
  | error n =>
    rw [q] at hz
    exact fl_asg (flr_join (d := d + 1) (j := 0) (ev_var (i := 0) rfl) rfl O hd q (ke n hz))
  | ok y =>
    rw [q] at hz
    dsimp only at hz
    refine (q_asg (rec_join (d := d + 1) (T := T) (j := 0) (ev_var (i := 0) rfl) rfl O hd q) ?_)
    dsimp only [List.set]
    have sf0 := gJ_sf (d + 1) r y q
    have O1 := O.step sf0
    refine (q_while (fun m Γ M => ∃ (e : Xp) (r2 : List Nat), Γ = [some (Own x), some (D K (dX e))] ∧ M = [(x, MRd T w r2)] ∧ RdOk w r2 ∧ r2 <:+ r ∧ m = r2.length ∧ gE (d + 1) r = lEither (gE d) r2.length e r2) _ ⟨y.1, y.2, rfl, rfl, O1, sf0, rfl, hz⟩ ?_)
    rintro m _ _ ⟨e, r2, rfl, rfl, O2, s2, rfl, hl⟩
    refine ⟨_, _, et_test (ev_eqS (ev_rdT (j := 0) (ev_var (i := 0) rfl) rfl) (ev_strL (l := [43]) rfl)), fun hb => ?_, fun hb => ?_⟩
    · have hb := of_decide_eq_true hb.symm
      refine (q_drop (rd_adv (T := T) (X := E0) (j := 0) (ev_var (i := 0) rfl) rfl O2) ?_)
      dsimp only [List.set]
      have lt := nxS_lt (r := r2) (fun c => by rw [c] at hb; cases hb)
      have O3 := O2.step (nxS_suf r2)
      have c3 := cP_suf ((nxS_suf r2).trans s2)
      cases q2 : pJoin (gE d) (nxS r2) with
      | error n =>
        obtain ⟨n2, hn2⟩ : ∃ n, r2.length = n + 1 := ⟨r2.length - 1, by omega⟩
        rw [hn2, lEither_s, if_pos hb, q2] at hl
        exact fl_asgL (fl_tup3 (ev_strL (K := K) (l := wA) rfl) (ev_var (i := 1) rfl) (flr_join (d := d + 1) (j := 0) (ev_var (i := 0) rfl) rfl O3 (by omega) q2 (ke n hl)))
      | ok y2 =>
        rw [lEither_yes hb q2] at hl
        have sf := gJ_sf (d + 1) _ _ q2
        refine go_asg (P := D K (dX (.either e y2.1))) ((ev_tup (K := K) (ps := [D K (dS wA), D K (dX e), D K (dX y2.1)]) (ea_cons (ev_strL (l := wA) rfl) (ea_cons (ev_var (i := 1) rfl) (ea_cons (rec_join (d := d + 1) (T := T) (j := 0) (ev_var (i := 0) rfl) rfl O3 (by omega) q2) ea_nil))) (by simp)).weak (PTu_D (ds := [dS wA, dX e, dX y2.1]))) (JA.of ⟨_, Nat.lt_of_le_of_lt sf.length_le lt, .either e y2.1, y2.2, rfl, rfl, O3.step sf, sf.trans ((nxS_suf r2).trans s2), rfl, hl⟩)
    · have hb := of_decide_eq_false hb.symm
      rw [lEither_no hb] at hl
      exact go_ret Le.refl (ev_var (i := 1) rfl) (kz _ hl)
theorem ok_grp (T : Txt K mg) (PF : HqTe.PrgOk P T.fl_ExpressionSyntaxError) : ∀ d : Nat, (FnOk P wo K mg base (L2.CX P wo) (3 + 4 * d + 0) T.f_Reader_read_simple T.d_Reader_read_simple ["self"] (spr_Reader_read_simple d T)) ∧ (FnOk P wo K mg base (L2.CX P wo) (3 + 4 * d + 1) T.f_Reader_read_star T.d_Reader_read_star ["self"] (spr_Reader_read_star d T)) ∧ (FnOk P wo K mg base (L2.CX P wo) (3 + 4 * d + 2) T.f_Reader_read_join T.d_Reader_read_join ["self"] (spr_Reader_read_join d T)) ∧ (FnOk P wo K mg base (L2.CX P wo) (3 + 4 * d + 3) T.f_Reader_read_either T.d_Reader_read_either ["self"] (spr_Reader_read_either d T))
| 0 => by
  have h0 : FnOk P wo K mg base (L2.CX P wo) (3 + 4 * 0 + 0) T.f_Reader_read_simple T.d_Reader_read_simple ["self"] (spr_Reader_read_simple 0 T) := T.F_Reader_read_simple.okX sc_Reader_read_simple (fun vs H Q E h => (spr_Reader_read_simple_len h)) (fun cdv A outer s H vs Q E hr h => absurd h spr_Reader_read_simple_zero)
  have h1 := ok_Reader_read_star_s T PF 0 h0
  have h2 := ok_Reader_read_join_s T PF 0 h1
  have h3 := ok_Reader_read_either_s T PF 0 h2
  exact ⟨h0, h1, h2, h3⟩
| d + 1 => by
  have h0 : FnOk P wo K mg base (L2.CX P wo) (3 + 4 * (d + 1) + 0) T.f_Reader_read_simple T.d_Reader_read_simple ["self"] (spr_Reader_read_simple (d + 1) T) := ok_Reader_read_simple_s T PF d (ok_grp T PF d).2.2.2
  have h1 := ok_Reader_read_star_s T PF (d + 1) h0
  have h2 := ok_Reader_read_join_s T PF (d + 1) h1
  have h3 := ok_Reader_read_either_s T PF (d + 1) h2
  exact ⟨h0, h1, h2, h3⟩
theorem ok_Reader_read_either (T : Txt K mg) (PF : HqTe.PrgOk P T.fl_ExpressionSyntaxError) : FnOk P wo K mg base (L2.CX P wo) 102 T.f_Reader_read_either T.d_Reader_read_either ["self"] (spr_Reader_read_either 24 T) := (ok_grp T PF 24).2.2.2
end
end My
namespace My
open PySem L2 Hq
local macro_rules | `(tactic| trivial) => `(tactic| omega)
section
variable {P : Program} {wo : World} {K : PySem.W.Frag} {mg : Str → Option Value} {base : Heap}
/-! ### parse_expression -/
theorem sc_parse_expression : FnScope ["text", "reader", "expression"] ["text"] (defScope s_parse_expression) := ⟨rfl, rfl, rfl, by decide +kernel, rfl, by decide +kernel, by decide +kernel⟩
def sp_parse_expression (T : Txt K mg) : Sp := fun vs H Q E => ∃ (w : List Nat) (F : Hp), (w.length ≤ 100000 ∧ cP w < 24) ∧ Wd F [] H ∧ Ps F vs [D K (dS w)] ∧ (∀ e, out 24 w = .ok e → Rt ⟨F, H, keys []⟩ [] (D K (dX e)) Q) ∧ (∀ p, out 24 w = .error p → RtF ⟨F, H, keys []⟩ [] T.c_ExpressionSyntaxError (p : Int) E)
theorem sp_parse_expression_len {T : Txt K mg} {vs H Q E} (h : sp_parse_expression T vs H Q E) : vs.length = 1 := by obtain ⟨_, _, _, _, p, _⟩ := h; exact paired_len p
set_option maxHeartbeats 4000000 in
theorem ok_parse_expression (T : Txt K mg) (PF : HqTe.PrgOk P T.fl_ExpressionSyntaxError) : FnOk P wo K mg base (L2.CX P wo) 103 T.f_parse_expression T.d_parse_expression ["text"] (sp_parse_expression T) := by
  have nd := (sc_parse_expression).nd
  refine T.F_parse_expression.okX sc_parse_expression (fun vs H Q E h => (sp_parse_expression_len h)) (fun cdv A outer s H vs Q E hr h => ?_)
  obtain ⟨w, F, ⟨wl, hc⟩, wd, pp, kz, ke⟩ := h
  refine ⟨_, (pss_cons (ps_set (i := 1) nd rfl (Or.inl rfl) (pe_make ⟨T.mk_Reader, T.in_Reader, T.if_Reader, T.kc_Reader⟩ (ok_Reader_init T) (hr.mono (by decide)) rfl T.mc_Reader T.b_Reader_init .nil pass0 (pa_cons (pv 0) pa_nil)))
    (pss_cons (ps_set (i := 2) nd rfl (Or.inl rfl) (pe_meth0 (pv 1) T.cl_Reader T.me_Reader_read_either (ok_Reader_read_either T PF) (hr.mono (by decide)) T.b_Reader_read_either .nil (passes_call (E := E) (takes_of rfl rfl rfl rfl) fun _ _ _ _ h => h)))
    (pss_cons (ps_if (pt_cmpR op_ne (c_fld (K := K) rfl (pv 1) rfl) (pe_glob (v := .str "") rfl T.v_END ⟨_, rfl⟩) (nomark _)) (pss_one (ps_raise rfl (takes_of rfl rfl rfl rfl) (HqTe.pmk_e T.et_ExpressionSyntaxError PF hr T.mc_ExpressionSyntaxError (pa_cons (c_fld (K := K) rfl (pv 1) rfl) pa_nil) (by exact rfl)))) pss_nil)
    (pss_one (ps_ret (pv 2)))))), ?_⟩
  refine go_start wd pp (Γ := [some (D K (dS w)), none, none]) rfl ?_
  refine (q_asgN (use_Reader (T := T) (X := E0) (w := w) (ea_cons (ev_var (i := 0) rfl) ea_nil) wl) fun x hx => ?_)
  show Nx _ _ [(x, MRd T w (dropSp w))] _
  dsimp only [List.set]
  have sf : dropSp w <:+ w := List.dropWhile_suffix _
  have O : RdOk w (dropSp w) := ⟨sf, wl⟩
  have hc2 : cP (dropSp w) < 24 := Nat.lt_of_le_of_lt (cP_suf sf) hc
  have ho : out 24 w = match gE 24 (dropSp w) with | .ok z => if z.2 = [] then .ok z.1 else .error (w.length - z.2.length) | .error n => .error (w.length - n) := rfl
  cases q : gE 24 (dropSp w) with
  | error n =>
    rw [q] at ho
    exact fl_asg (flr_either (j := 0) (ev_var (i := 1) rfl) rfl O hc2 q ((ke _ ho).drop (List.nil_sublist _)))
  | ok z =>
    rw [q] at ho
    dsimp only at ho
    refine (q_asg (rec_either (T := T) (j := 0) (ev_var (i := 1) rfl) rfl O hc2 q) ?_)
    dsimp only [List.set]
    refine (q_if (et_test (ev_neS (ev_rdT (j := 0) (ev_var (i := 1) rfl) rfl) (ev_strL (l := []) rfl))) (fun hb => ?_) fun hb => go_next ?_)
    · have hb := hb.symm
      rw [Bool.not_eq_true', decide_eq_false_iff_not, tokL_nil] at hb
      rw [if_neg hb] at ho
      exact go_raiseF (ea_cons (ev_rdP (j := 0) (ev_var (i := 1) rfl) rfl) ea_nil) ((ke _ ho).drop (List.nil_sublist _))
    · have hb := hb.symm
      rw [Bool.not_eq_false', decide_eq_true_iff, tokL_nil] at hb
      rw [if_pos hb] at ho
      refine nx_drop (List.nil_sublist _) ?_
      exact go_ret Le.refl (ev_var (i := 2) rfl) (kz _ ho)
theorem use_parse_expression {T : Txt K mg} {tr : TA} {Γ : Gm} {M M1 : Ms} {w : List Nat} {e : Xp} {X : XK} (h : EvA tr Γ M [D K (dS w)] M1) (hn : w.length ≤ 100000 ∧ cP w < 24) (ho : out 24 w = .ok e) : Ev (tCall (sp_parse_expression T) [] X tr) Γ M (D K (dX e)) M1 :=
  call0 h fun vs H Q ⟨F, wd, pp, k⟩ => ⟨w, F, hn, wd, pp, fun y hy => by cases ho.symm.trans hy; exact k, fun m hm => by cases ho.symm.trans hm⟩
theorem fl_parse {T : Txt K mg} {E : Ent} {tr : TA} {Γ : Gm} {M M1 : Ms} {w : List Nat} {p : Nat} {X : XK} (h : EvA tr Γ M [D K (dS w)] M1) (hn : w.length ≤ 100000 ∧ cP w < 24) (ho : out 24 w = .error p) (k : RtF E M1 T.c_ExpressionSyntaxError (p : Int) X) : Fl E Γ M (tCall (sp_parse_expression T) [] X tr) :=
  fl_call0 h (fun vs H Q X ⟨F, wd, pp, k⟩ => ⟨w, F, hn, wd, pp, fun y hy => (by cases ho.symm.trans hy), fun m hm => by cases ho.symm.trans hm; exact k⟩) k
end
end My
namespace My
open PySem L2 Hq
local macro_rules | `(tactic| trivial) => `(tactic| omega)
section
variable {P : Program} {wo : World} {K : PySem.W.Frag} {mg : Str → Option Value} {base : Heap}
/-! ### _law_outcome -/
theorem sc__law_outcome : FnScope ["text", "e"] ["text"] (defScope s__law_outcome) := ⟨rfl, rfl, rfl, by decide +kernel, rfl, by decide +kernel, by decide +kernel⟩
abbrev wRight : List Nat := [114, 105, 103, 104, 116]
abbrev wWrong : List Nat := [119, 114, 111, 110, 103]
def dOut : Except Nat Xp → PyData
  | .ok e => .tuple [dS wRight, dX e]
  | .error p => .tuple [dS wWrong, .int (p : Int)]
def sp__law_outcome (T : Txt K mg) : Sp := fun vs H Q _ => ∃ (w : List Nat), (w.length ≤ 100000 ∧ cP w < 24) ∧ Prom [D K (dS w)] [] (D K (dOut (out 24 w))) [] vs H Q
theorem sp__law_outcome_len {T : Txt K mg} {vs H Q E} (h : sp__law_outcome T vs H Q E) : vs.length = 1 := by obtain ⟨_, _, h⟩ := h; exact h.len
set_option maxHeartbeats 4000000 in
theorem ok__law_outcome (T : Txt K mg) (PF : HqTe.PrgOk P T.fl_ExpressionSyntaxError) : FnOk P wo K mg base CX0 104 T.f__law_outcome T.d__law_outcome ["text"] (sp__law_outcome T) := by
  have nd := (sc__law_outcome).nd
  refine T.F__law_outcome.ok sc__law_outcome (fun vs H Q E h => (sp__law_outcome_len h)) (fun cdv A outer s H vs Q E hr h => ?_)
  obtain ⟨w, hn, F, wd, pp, k⟩ := h
  refine ⟨_, (pss_one (ps_try_as (i := 1) rfl rfl nd rfl rfl ⟨rfl, by decide, Or.inl T.mc_ExpressionSyntaxError⟩ takes0 (fun W pn xe tk _ => (pss_one (ps_ret (pe_tup (pa_cons pe_str (pa_cons (pe_call (ok_parse_expression T PF) (hr.mono (by decide)) rfl T.m_parse_expression T.F_parse_expression.kp T.b_parse_expression .nil (passes_callL (n := 2) rfl tk (E := fun cls d H => ∀ σ : L2.St, List.length σ = 2 → W cls d σ H) fun _ _ σ _ hl h => h σ hl) (pa_cons (pv 0) pa_nil)) pa_nil)))))) (fun a oe cls d pn hz hf => (pss_one (ps_ret (pe_tup (pa_cons pe_str (pa_cons (pe_xf ⟨T.et_ExpressionSyntaxError.ga, T.et_ExpressionSyntaxError.gg, T.et_ExpressionSyntaxError.exC, T.et_ExpressionSyntaxError.hdC⟩ T.et_ExpressionSyntaxError.noF hz hf (pv 1)) pa_nil)))))))), ?_⟩
  refine go_start wd pp (Γ := [some (D K (dS w)), none]) rfl ?_
  cases ho : out 24 w with
  | ok e =>
    rw [ho] at k
    exact go_ret Le.refl ((ev_tup (K := K) (ps := [D K (dS wRight), D K (dX e)]) (ea_cons (ev_strL (l := wRight) rfl) (ea_cons (use_parse_expression (T := T) (e := e) (ea_cons (ev_var (i := 0) rfl) ea_nil) hn ho) ea_nil)) (by simp)).weak (PTu_D (ds := [dS wRight, dX e]))) k
  | error p =>
    rw [ho] at k
    have k2 : Rt ⟨F, H, keys []⟩ [] (PTu K [D K (dS wWrong), D K (.int (p : Int))]) Q := fun v F' H' g h => k v F' H' g (PTu_D (ds := [dS wWrong, .int (p : Int)]) F' v h)
    exact fl_ret (fl_tup2 (ev_strL (K := K) (l := wRight) rfl) (fl_parse (T := T) (ea_cons (ev_var (i := 0) rfl) ea_nil) hn ho (try_fld (i := 1) (n := 2) (wl := wWrong) T.et_ExpressionSyntaxError.te (by decide) Le.refl rfl k2 rfl)))
theorem use__law_outcome {T : Txt K mg} {tr : TA} {Γ : Gm} {M M1 : Ms} {w : List Nat} {X : XK} (h : EvA tr Γ M [D K (dS w)] M1) (hn : w.length ≤ 100000 ∧ cP w < 24) : Ev (tCall (sp__law_outcome T) [] X tr) Γ M (D K (dOut (out 24 w))) M1 :=
  call0 h fun vs H Q z => ⟨w, hn, z⟩
end
end My
namespace My
open PySem L2 Hq
local macro_rules | `(tactic| trivial) => `(tactic| omega)
section
variable {P : Program} {wo : World} {K : PySem.W.Frag} {mg : Str → Option Value} {base : Heap}
/-! ### _law_expression -/
theorem sc__law_expression : FnScope ["draws", "letters", "depth", "kind", "first", "second"] ["draws", "letters", "depth"] (defScope s__law_expression) := ⟨rfl, rfl, rfl, by decide +kernel, rfl, by decide +kernel, by decide +kernel⟩
def XpOk (m : Nat) (e : Xp) : Prop := e.ok ∧ e.dep ≤ m + 1 ∧ e.sz < 2 ^ (m + 1)
abbrev PXp (K : PySem.W.Frag) (m : Nat) : MP := PEx fun e : Xp => PAn (XpOk m e) (D K (dX e))
theorem xp_in {K : PySem.W.Frag} {m : Nat} {e : Xp} (h : XpOk m e) : (D K (dX e)).le (PXp K m) := MP.le_trans (PAn.in h) (PEx.in (R := fun e : Xp => PAn (XpOk m e) (D K (dX e))) e)
theorem XpOk.up {m : Nat} {e : Xp} (h : XpOk 0 e) : XpOk m e := by
  have : 2 ^ 1 ≤ 2 ^ (m + 1) := Nat.pow_le_pow_right (by decide) (by omega)
  have h3 := h.2.2
  exact ⟨h.1, by have := h.2.1; omega, by omega⟩
def spr__law_expression (d : Nat) (T : Txt K mg) : Sp := fun vs H Q _ => ∃ (dr : Addr) (m : Nat), (m < d) ∧ Prom [Own dr, D K (.int 6), D K (.int (m : Int))] [(dr, MDr K)] (PXp K m) [(dr, MDr K)] vs H Q
theorem spr__law_expression_len {d : Nat} {T : Txt K mg} {vs H Q E} (h : spr__law_expression d T vs H Q E) : vs.length = 3 := by obtain ⟨_, _, _, h⟩ := h; exact h.len
theorem spr__law_expression_zero {T : Txt K mg} {vs H Q E} : ¬ spr__law_expression 0 T vs H Q E := fun ⟨_, _, h, _⟩ => absurd h (Nat.not_lt_zero _)
def sp__law_expression (T : Txt K mg) : Sp := spr__law_expression 5 T
theorem rec__law_expression {d : Nat} {T : Txt K mg} {tr : TA} {Γ : Gm} {M M1 : Ms} {dr : Addr} {m : Nat} {j : Nat} {X : XK} (h : EvA tr Γ M [Own dr, D K (.int 6), D K (.int (m : Int))] M1) (hn : m < d) (e : M1[j]? = some (dr, MDr K)) : Ev (tCall (spr__law_expression d T) [] X tr) Γ M (PXp K m) M1 :=
  call1 h e fun vs H Q z => ⟨dr, m, hn, z⟩
set_option maxHeartbeats 4000000 in
theorem ok__law_expression_r (T : Txt K mg) : ∀ d : Nat, FnOk P wo K mg base CX0 (2 + d) T.f__law_expression T.d__law_expression ["draws", "letters", "depth"] (spr__law_expression d T)
| 0 => T.F__law_expression.ok sc__law_expression (fun vs H Q E h => (spr__law_expression_len h)) (fun cdv A outer s H vs Q E hr h => absurd h spr__law_expression_zero)
| d + 1 => by
  have ih := ok__law_expression_r T d
  have nd := (sc__law_expression).nd
  refine T.F__law_expression.ok sc__law_expression (fun vs H Q E h => (spr__law_expression_len h)) (fun cdv A outer s H vs Q E hr h => ?_)
  obtain ⟨dr, m, hm, F, w, pp, k⟩ := h
  refine ⟨_, (pss_cons (ps_set (i := 3) nd rfl (Or.inl rfl) (pe_call (ok__law_take T) (hr.mono (by first | exact Nat.le_refl _ | exact Nat.le_add_right_of_le (by decide))) rfl T.m__law_take T.F__law_take.kp T.b__law_take .nil pass0 (pa_cons (pv 0) (pa_cons pe_int pa_nil))))
    (pss_cons (ps_if (PW.pt (pw_or (pt_cmpR op_eq (pv 2) pe_int (nomark _)) (pw_or1 (pt_cmpR op_lt (pv 3) pe_int (nomark _))))) (pss_one (ps_ret (pe_ix (c_ix (K := K) rfl) (pe_lst (pa_cons (pe_tup (pa_cons pe_str (pa_cons (pe_call (ok__law_take T) (hr.mono (by first | exact Nat.le_refl _ | exact Nat.le_add_right_of_le (by decide))) rfl T.m__law_take T.F__law_take.kp T.b__law_take .nil pass0 (pa_cons (pv 0) (pa_cons (pv 1) pa_nil))) pa_nil))) (pa_cons (pe_tup (pa_cons pe_str (pa_cons (pe_call (ok__law_take T) (hr.mono (by first | exact Nat.le_refl _ | exact Nat.le_add_right_of_le (by decide))) rfl T.m__law_take T.F__law_take.kp T.b__law_take .nil pass0 (pa_cons (pv 0) (pa_cons (pv 1) pa_nil))) pa_nil))) (pa_cons (pe_tup (pa_cons pe_str pa_nil)) (pa_cons (pe_tup (pa_cons pe_str pa_nil)) pa_nil))))) (pe_ix (c_ix (K := K) rfl) (pe_lst (pa_cons pe_int (pa_cons pe_int (pa_cons pe_int (pa_cons pe_int (pa_cons pe_int (pa_cons pe_int (pa_cons pe_int (pa_cons pe_int pa_nil))))))))) (pe_call (ok__law_take T) (hr.mono (by first | exact Nat.le_refl _ | exact Nat.le_add_right_of_le (by decide))) rfl T.m__law_take T.F__law_take.kp T.b__law_take .nil pass0 (pa_cons (pv 0) (pa_cons pe_int pa_nil))) (fun _ _ => rfl)) (fun _ _ => rfl)))) pss_nil)
    (pss_cons (ps_if (pt_cmpR op_lt (pv 3) pe_int (nomark _)) (pss_one (ps_ret (pe_tup (pa_cons pe_str (pa_cons (pe_call ih (hr.mono (by first | exact Nat.le_refl _ | exact Nat.le_add_right_of_le (by decide))) rfl T.m__law_expression T.F__law_expression.kp T.b__law_expression .nil pass0 (pa_cons (pv 0) (pa_cons (pv 1) (pa_cons (pe_op op_sub (pv 2) pe_int) pa_nil)))) pa_nil))))) pss_nil)
    (pss_cons (ps_set (i := 4) nd rfl (Or.inl rfl) (pe_call ih (hr.mono (by first | exact Nat.le_refl _ | exact Nat.le_add_right_of_le (by decide))) rfl T.m__law_expression T.F__law_expression.kp T.b__law_expression .nil pass0 (pa_cons (pv 0) (pa_cons (pv 1) (pa_cons (pe_op op_sub (pv 2) pe_int) pa_nil)))))
    (pss_cons (ps_set (i := 5) nd rfl (Or.inl rfl) (pe_call ih (hr.mono (by first | exact Nat.le_refl _ | exact Nat.le_add_right_of_le (by decide))) rfl T.m__law_expression T.F__law_expression.kp T.b__law_expression .nil pass0 (pa_cons (pv 0) (pa_cons (pv 1) (pa_cons (pe_op op_sub (pv 2) pe_int) pa_nil)))))
    (pss_one (ps_ret (pe_tup (pa_cons (pe_ix (c_ix (K := K) rfl) (pe_lst (pa_cons pe_str (pa_cons pe_str pa_nil))) (pe_callTy call_int1 (by rfl) T.z_int (by decide +kernel) (pa_cons (pe_cmpR op_gt (pv 3) pe_int (nomark _)) pa_nil)) (fun _ _ => rfl)) (pa_cons (pv 4) (pa_cons (pv 5) pa_nil))))))))))), ?_⟩
  refine go_start w pp (Γ := [some (Own dr), some (D K (.int 6)), some (D K (.int (m : Int))), none, none, none]) rfl ?_
  show Nx _ _ [(dr, MDr K)] _
  refine (q_asg (use__law_take (n := 8) (ea_cons (ev_var (i := 0) rfl) (ea_cons (ev_int (K := K) (i := 8)) ea_nil)) (by decide) (j := 0) rfl) (nx_ex (i := 3) rfl fun z => nx_an (i := 3) rfl fun hz => ?_))
  dsimp only [List.set]
  refine (q_if (et_or (a := decide ((m : Int) = 0)) (b := decide (z < 2)) (et_test (ev_op (ev_var (i := 2) rfl) (ev_int (K := K) (i := 0)) rv_eqI)) fun _ => et_test (ev_op (ev_var (i := 3) rfl) (ev_int (K := K) (i := 2)) (rv_b0 (g := fun i j => decide (i < j))))) (fun _ => ?_) fun hz0 => go_next ?_)
  · have lt : ∀ {Γ : Gm} {M : Ms}, Γ[0]? = some (some (Own dr)) → Γ[1]? = some (some (D K (.int 6))) → M[0]? = some (dr, MDr K) → Ev (tTup (tCons (tC (.str "letter")) (tCons (tCall (sp__law_take T) [] E0 (tCons (tVar 0) (tCons (tVar 1) tNil))) tNil))) Γ M (PXp K m) M := fun h0 h1 hM => (ev_tup (K := K) (ps := [D K (dS wL), PIn K 0 6]) (ea_cons (ev_strL (l := wL) rfl) (ea_cons (use__law_take (n := 6) (ea_cons (ev_var (i := 0) h0) (ea_cons (ev_var (i := 1) h1) ea_nil)) (by decide) (j := 0) hM) ea_nil)) (by simp)).weak fun F v h => by
      obtain ⟨a, vs, e, s, q⟩ := h
      cases q with
      | cons q1 q => cases q with
        | cons q2 q =>
          cases q
          obtain ⟨x, hx, q2⟩ := q2
          obtain ⟨y, rfl⟩ := Int.eq_ofNat_of_zero_le hx.1
          have hx2 : (y : Int) < 6 := hx.2
          exact ⟨.letter y, XpOk.up ⟨by show y ≤ 9; omega, Nat.le_refl _, by show 1 < 2; decide⟩, PTu_D (ds := [dS wL, .int (y : Int)]) F v ⟨a, _, e, s, .cons q1 (.cons q2 .nil)⟩⟩
    have one : ∀ {Γ : Gm} {M : Ms} {e : Xp} {x : Str} {l : List Nat}, dX e = .tuple [dS l] → XpOk 0 e → x = ⟨l.toArray⟩ → Ev (tTup (tCons (tC (.str x)) tNil)) Γ M (PXp K m) M := fun {Γ M e x l} he ho hx => (ev_tup (K := K) (ps := [D K (dS l)]) (ea_cons (ev_strL hx) ea_nil) (by simp)).weak (MP.le_trans (PTu_D (ds := [dS l])) (MP.le_trans (MP.of_eq (by rw [he])) (xp_in ho.up)))
    have ix : ∀ {M : Ms}, RV (rIx K) (PLi K [D K (.int 0), D K (.int 0), D K (.int 1), D K (.int 1), D K (.int 0), D K (.int 1), D K (.int 2), D K (.int 3)]) (PIn K 0 8) M (PIn K 0 4) M := fun {M} => RV.ex2 fun z => RV.an2 fun hz => by
      have : z = 0 ∨ z = 1 ∨ z = 2 ∨ z = 3 ∨ z = 4 ∨ z = 5 ∨ z = 6 ∨ z = 7 := by omega
      rcases this with rfl | rfl | rfl | rfl | rfl | rfl | rfl | rfl
      · exact (rv_ixL (P := D K (.int 0)) (by decide) rfl).weak (pin_le (by decide))
      · exact (rv_ixL (P := D K (.int 0)) (by decide) rfl).weak (pin_le (by decide))
      · exact (rv_ixL (P := D K (.int 1)) (by decide) rfl).weak (pin_le (by decide))
      · exact (rv_ixL (P := D K (.int 1)) (by decide) rfl).weak (pin_le (by decide))
      · exact (rv_ixL (P := D K (.int 0)) (by decide) rfl).weak (pin_le (by decide))
      · exact (rv_ixL (P := D K (.int 1)) (by decide) rfl).weak (pin_le (by decide))
      · exact (rv_ixL (P := D K (.int 2)) (by decide) rfl).weak (pin_le (by decide))
      · exact (rv_ixL (P := D K (.int 3)) (by decide) rfl).weak (pin_le (by decide))
    have ix4 : ∀ {M : Ms}, RV (rIx K) (PLi K [PXp K m, PXp K m, PXp K m, PXp K m]) (PIn K 0 4) M (PXp K m) M := fun {M} => RV.ex2 fun z => RV.an2 fun hz => by
      have : z = 0 ∨ z = 1 ∨ z = 2 ∨ z = 3 := by omega
      rcases this with rfl | rfl | rfl | rfl <;> exact rv_ixL (by decide) rfl
    have i8 : ∀ {i : Int} {Γ : Gm} {M : Ms}, Ev (tC (.int i)) Γ M (D K (.int i)) M := (ev_int (K := K))
    exact go_ret Le.refl (ev_op (ev_newL (evn_lst (ps := [PXp K m, PXp K m, PXp K m, PXp K m]) (ea_cons (lt rfl rfl rfl) (ea_cons (lt rfl rfl rfl) (ea_cons (one (e := .empty) (l := wE) rfl ⟨trivial, Nat.le_refl _, by decide⟩ rfl) (ea_cons (one (e := .none) (l := wN) rfl ⟨trivial, Nat.le_refl _, by decide⟩ rfl) ea_nil)))) (by simp))) (ev_op (ev_newL (evn_lst (ps := [D K (.int 0), D K (.int 0), D K (.int 1), D K (.int 1), D K (.int 0), D K (.int 1), D K (.int 2), D K (.int 3)]) (ea_cons i8 (ea_cons i8 (ea_cons i8 (ea_cons i8 (ea_cons i8 (ea_cons i8 (ea_cons i8 (ea_cons i8 ea_nil)))))))) (by simp))) (use__law_take (n := 8) (ea_cons (ev_var (i := 0) rfl) (ea_cons (ev_int (K := K) (i := 8)) ea_nil)) (by decide) (j := 0) rfl) ix) ix4) k
  have hz0 := hz0.symm
  rw [Bool.or_eq_false_iff, decide_eq_false_iff_not, decide_eq_false_iff_not] at hz0
  obtain ⟨m, rfl⟩ : ∃ m', m = m' + 1 := ⟨m - 1, by omega⟩
  have p2 : 2 ^ (m + 1 + 1) = 2 * 2 ^ (m + 1) := by rw [Nat.pow_succ]; omega
  dsimp only
  refine (q_if (et_test (ev_op (ev_var (i := 3) rfl) (ev_int (K := K) (i := 4)) (rv_b0 (g := fun i j => decide (i < j))))) (fun _ => ?_) fun _ => go_next ?_)
  · refine go_ret Le.refl ((ev_tup (K := K) (ps := [D K (dS wS), PXp K m]) (ea_cons (ev_strL (l := wS) rfl) (ea_cons (rec__law_expression (d := d) (T := T) (X := E0) (m := m) (j := 0) (ea_cons (ev_var (i := 0) rfl) (ea_cons (ev_var (i := 1) rfl) (ea_cons ((ev_op (ev_var (i := 2) rfl) (ev_int (K := K) (i := 1)) (rv_i0 (g := fun i j => i - j))).is (P' := D K (.int (m : Int))) (by congr 2; omega)) ea_nil))) (by omega) rfl) ea_nil)) (by simp)).weak fun F v h => ?_) k
    obtain ⟨a, vs, e, s, q⟩ := h
    cases q with
    | cons q1 q => cases q with
      | cons q2 q =>
        cases q
        obtain ⟨f, ⟨h1, h2, h3⟩, q2⟩ := q2
        exact ⟨.star f, ⟨h1, by show f.dep + 1 ≤ _; omega, by show f.sz + 1 < _; omega⟩, PTu_D (ds := [dS wS, dX f]) F v ⟨a, _, e, s, .cons q1 (.cons q2 .nil)⟩⟩
  dsimp only
  refine (q_asg (rec__law_expression (d := d) (T := T) (X := E0) (m := m) (j := 0) (ea_cons (ev_var (i := 0) rfl) (ea_cons (ev_var (i := 1) rfl) (ea_cons ((ev_op (ev_var (i := 2) rfl) (ev_int (K := K) (i := 1)) (rv_i0 (g := fun i j => i - j))).is (P' := D K (.int (m : Int))) (by congr 2; omega)) ea_nil))) (by omega) rfl) (nx_ex (i := 4) rfl fun f => nx_an (i := 4) rfl fun hf => ?_))
  dsimp only [List.set]
  refine (q_asg (rec__law_expression (d := d) (T := T) (X := E0) (m := m) (j := 0) (ea_cons (ev_var (i := 0) rfl) (ea_cons (ev_var (i := 1) rfl) (ea_cons ((ev_op (ev_var (i := 2) rfl) (ev_int (K := K) (i := 1)) (rv_i0 (g := fun i j => i - j))).is (P' := D K (.int (m : Int))) (by congr 2; omega)) ea_nil))) (by omega) rfl) (nx_ex (i := 5) rfl fun g => nx_an (i := 5) rfl fun hg => ?_))
  dsimp only [List.set]
  obtain ⟨f1, f2, f3⟩ := hf
  obtain ⟨g1, g2, g3⟩ := hg
  refine go_ret Le.refl ((ev_tup (K := K) (ps := [D K (dS (if 5 < z then wJ else wA)), D K (dX f), D K (dX g)]) (ea_cons (ev_op (P1 := PLi K [D K (dS wA), D K (dS wJ)]) (ev_newL (evn_lst (ea_cons (ev_strL (l := wA) rfl) (ea_cons (ev_strL (l := wJ) rfl) ea_nil)) (by simp))) (ev_cb (ea_cons (ev_op (ev_var (i := 3) rfl) (ev_int (K := K) (i := 5)) (rv_b0 (g := fun i j => decide (j < i)))) ea_nil) rc_intB) (rv_ixL ?_ ?_)) (ea_cons (ev_var (i := 4) rfl) (ea_cons (ev_var (i := 5) rfl) ea_nil))) (by simp)).weak ?_) k
  · split <;> omega
  · by_cases c : 5 < z <;> simp [c]
  · by_cases c : 5 < z
    · rw [if_pos c]
      exact MP.le_trans (PTu_D (ds := [dS wJ, dX f, dX g])) (xp_in (e := .join f g) ⟨⟨f1, g1⟩, by show max f.dep g.dep + 1 ≤ _; omega, by show f.sz + g.sz + 1 < _; omega⟩)
    · rw [if_neg c]
      exact MP.le_trans (PTu_D (ds := [dS wA, dX f, dX g])) (xp_in (e := .either f g) ⟨⟨f1, g1⟩, by show max f.dep g.dep + 1 ≤ _; omega, by show f.sz + g.sz + 1 < _; omega⟩)
theorem ok__law_expression (T : Txt K mg) : FnOk P wo K mg base CX0 7 T.f__law_expression T.d__law_expression ["draws", "letters", "depth"] (sp__law_expression T) := ok__law_expression_r T 5
theorem use__law_expression {T : Txt K mg} {tr : TA} {Γ : Gm} {M M1 : Ms} {dr : Addr} {m : Nat} {j : Nat} {X : XK} (h : EvA tr Γ M [Own dr, D K (.int 6), D K (.int (m : Int))] M1) (hn : m < 5) (e : M1[j]? = some (dr, MDr K)) : Ev (tCall (sp__law_expression T) [] X tr) Γ M (PXp K m) M1 :=
  call1 h e fun vs H Q z => ⟨dr, m, hn, z⟩
end
end My
namespace My
open PySem L2 Hq
local macro_rules | `(tactic| trivial) => `(tactic| omega)
section
variable {P : Program} {wo : World} {K : PySem.W.Frag} {mg : Str → Option Value} {base : Heap}
/-! ### _law_token -/
theorem sc__law_token : FnScope ["text", "at", "word"] ["text", "at"] (defScope s__law_token) := ⟨rfl, rfl, rfl, by decide +kernel, rfl, by decide +kernel, by decide +kernel⟩
def sp__law_token (T : Txt K mg) : Sp := fun vs H Q _ => ∃ (w : List Nat) (n : Nat), (n < w.length ∧ w.length ≤ 100000) ∧ Prom [D K (dS w), D K (.int (n : Int))] [] (D K (dS (ltok (w.drop n)))) [] vs H Q
theorem sp__law_token_len {T : Txt K mg} {vs H Q E} (h : sp__law_token T vs H Q E) : vs.length = 2 := by obtain ⟨_, _, _, h⟩ := h; exact h.len
set_option maxHeartbeats 4000000 in
theorem ok__law_token (T : Txt K mg) : FnOk P wo K mg base CX0 1 T.f__law_token T.d__law_token ["text", "at"] (sp__law_token T) := by
  have nd := (sc__law_token).nd
  refine T.F__law_token.ok sc__law_token (fun vs H Q E h => (sp__law_token_len h)) (fun cdv A outer s H vs Q E hr h => ?_)
  obtain ⟨w, n, ⟨hlt, hl⟩, F, wd, pp, k⟩ := h
  refine ⟨_, (pss_cons (ps_for PassesOwn.never rfl (pi_tupK (K := K) rfl (pe_tup (pa_cons pe_str (pa_cons pe_str pa_nil)))) (pg_name (i := 2) nd rfl (by first | exact Or.inl rfl | exact Or.inr rfl))
     (pss_one (ps_if (pt_cmpR op_eq (pe_slice sl_str (pv 0) (po_some (pv 1)) (po_some (pe_op op_add (pv 1) (pe_callB call_len_str (by rfl) T.z_len PySem.boot_len (pa_cons (pv 2) pa_nil))))) (pv 2) (nomark _)) (pss_one (ps_ret (pv 2))) pss_nil)))
    (pss_cons (ps_if (pt_cmpR op_in_sign (pe_ix (c_ix (K := K) rfl) (pv 0) (pv 1) (fun _ _ => rfl)) pe_str (by rfl)) (pss_one (ps_ret (pe_ix (c_ix (K := K) rfl) (pv 0) (pv 1) (fun _ _ => rfl)))) pss_nil)
    (pss_one (ps_ret pe_str)))), ?_⟩
  refine go_start wd pp (Γ := [some (D K (dS w)), some (D K (.int (n : Int))), none]) rfl ?_
  have hd : w.drop n = w[n] :: w.drop (n + 1) := List.drop_eq_getElem_cons hlt
  have tst : ∀ {b : List Nat} {Γ : Gm}, Γ[0]? = some (some (D K (dS w))) → Γ[1]? = some (some (D K (.int (n : Int)))) → Γ[2]? = some (some (D K (dS b))) → b.length ≤ 100 → Ev (tOp rEq (tSl rSlS (tVar 0) (tPart (tVar 1)) (tPart (tOp (rI0 fun i j => .int (i + j)) (tVar 1) (tCB (fun xs H Q => ∃ z : Str, xs = [.str z] ∧ z.length ≤ sizeLine ∧ Q (.int z.length) H) (tCons (tVar 2) tNil))))) (tVar 2)) Γ [] (D K (.bool (decide ((w.drop n).take b.length = b)))) [] := fun {b Γ} h0 h1 h2 hb => by
    have := ev_eqS (ev_slS (ev_var (i := 0) (M := []) h0) (ep_some (ev_var (i := 1) h1)) (ep_some ((ev_op (ev_var (i := 1) h1) (ev_cb (ea_cons (ev_var (i := 2) h2) ea_nil) (rc_lenS (l := b) (by omega))) (rv_i0 (g := fun i j => i + j))).is (P' := D K (.int ((n + b.length : Nat) : Int))) (by congr 2))) (by omega)) (ev_var (i := 2) h2)
    rwa [cutN_mid (by omega)] at this
  refine (q_forT (ps := [D K (dS wN), D K (dS wE)]) (ev_tup (ps := [D K (dS wN), D K (dS wE)]) (ea_cons (ev_strL (l := wN) rfl) (ea_cons (ev_strL (l := wE) rfl) ea_nil)) (by simp)) (fun i Γ M => (∃ g : Option MP, Γ = [some (D K (dS w)), some (D K (.int (n : Int))), g] ∧ M = []) ∧ (1 ≤ i → (w.drop n).take 4 ≠ wN) ∧ (2 ≤ i → (w.drop n).take 5 ≠ wE)) ⟨⟨none, rfl, rfl⟩, fun c => absurd c (by decide), fun c => absurd c (by decide)⟩ ?_ ?_)
  · rintro E' hE i P hP _ _ ⟨⟨g, rfl, rfl⟩, J1, J2⟩
    match i, hP with
    | 0, hP =>
      cases hP
      refine (go_if (et_test (tst (b := wN) rfl rfl rfl (by decide))) (fun hb => ?_) fun hb => go_next ?_)
      · have hb : (w.drop n).take 4 = wN := of_decide_eq_true hb.symm
        refine go_ret hE ((ev_var (i := 2) rfl).is ?_) k
        rw [hd] at hb ⊢
        rw [ltok_cons, if_pos hb]
      · have hb := of_decide_eq_false hb.symm
        exact JA.of ⟨⟨_, rfl, rfl⟩, fun _ => hb, fun c => absurd c (by decide)⟩
    | 1, hP =>
      cases hP
      refine (go_if (et_test (tst (b := wE) rfl rfl rfl (by decide))) (fun hb => ?_) fun hb => go_next ?_)
      · have hb : (w.drop n).take 5 = wE := of_decide_eq_true hb.symm
        have J1 := J1 (by decide)
        refine go_ret hE ((ev_var (i := 2) rfl).is ?_) k
        rw [hd] at hb J1 ⊢
        rw [ltok_cons, if_neg J1, if_pos hb]
      · have hb := of_decide_eq_false hb.symm
        exact JA.of ⟨⟨_, rfl, rfl⟩, fun _ => J1 (by decide), fun _ => hb⟩
    | i + 2, hP => cases hP
  · rintro _ _ ⟨⟨g, rfl, rfl⟩, J1, J2⟩
    have J1 := J1 (by simp)
    have J2 := J2 (by simp)
    have ix : ∀ {g : Option MP}, Ev (tOp (rIx K) (tVar 0) (tVar 1)) [some (D K (dS w)), some (D K (.int (n : Int))), g] [] (D K (dS [w[n]])) [] := ev_op (ev_var (i := 0) rfl) (ev_var (i := 1) rfl) (rv_ixS (c := w[n]) (by omega) (by omega) (by rw [Int.toNat_natCast]; exact List.getElem?_eq_getElem hlt))
    refine (q_if (et_test (ev_op ix (ev_strL (l := sgl) rfl) rv_inSg)) (fun hb => ?_) fun hb => go_next ?_)
    · have hb := of_decide_eq_true hb.symm
      refine go_ret Le.refl (ix.is ?_) k
      rw [hd] at J1 J2 ⊢
      rw [ltok_cons, if_neg J1, if_neg J2, if_pos hb]
    · have hb := of_decide_eq_false hb.symm
      dsimp only
      refine go_ret Le.refl ((ev_strL (K := K) (l := []) rfl).is (P' := D K (dS (ltok (w.drop n)))) ?_) k
      rw [hd] at J1 J2 ⊢
      rw [ltok_cons, if_neg J1, if_neg J2, if_neg hb]
theorem use__law_token {T : Txt K mg} {tr : TA} {Γ : Gm} {M M1 : Ms} {w : List Nat} {n : Nat} {X : XK} (h : EvA tr Γ M [D K (dS w), D K (.int (n : Int))] M1) (hn : n < w.length ∧ w.length ≤ 100000) : Ev (tCall (sp__law_token T) [] X tr) Γ M (D K (dS (ltok (w.drop n)))) M1 :=
  call0 h fun vs H Q z => ⟨w, n, hn, z⟩
end
end My
namespace My
open PySem L2 Hq
local macro_rules | `(tactic| trivial) => `(tactic| omega)
section
variable {P : Program} {wo : World} {K : PySem.W.Frag} {mg : Str → Option Value} {base : Heap}
/-! ### _law_fault -/
theorem sc__law_fault : FnScope ["text", "due", "depth", "skip", "at", "token"] ["text"] (defScope s__law_fault) := ⟨rfl, rfl, rfl, by decide +kernel, rfl, by decide +kernel, by decide +kernel⟩
def sp__law_fault (T : Txt K mg) : Sp := fun vs H Q _ => ∃ (w : List Nat) (o : Option Nat), (Sc true 0 (dropSp w) o ∧ w.length ≤ 100000) ∧ Prom [D K (dS w)] [] (D K (.int (fz w o))) [] vs H Q
theorem sp__law_fault_len {T : Txt K mg} {vs H Q E} (h : sp__law_fault T vs H Q E) : vs.length = 1 := by obtain ⟨_, _, _, h⟩ := h; exact h.len
set_option maxHeartbeats 4000000 in
theorem ok__law_fault (T : Txt K mg) : FnOk P wo K mg base CX0 2 T.f__law_fault T.d__law_fault ["text"] (sp__law_fault T) := by
  have nd := (sc__law_fault).nd
  refine T.F__law_fault.ok sc__law_fault (fun vs H Q E h => (sp__law_fault_len h)) (fun cdv A outer s H vs Q E hr h => ?_)
  obtain ⟨w, o, ⟨S0, wl⟩, F, wd, pp, k⟩ := h
  refine ⟨_, (pss_cons (ps_set (i := 1) nd rfl (Or.inl rfl) pe_bl)
    (pss_cons (ps_set (i := 2) nd rfl (Or.inl rfl) pe_int)
    (pss_cons (ps_set (i := 3) nd rfl (Or.inl rfl) pe_int)
    (pss_cons (ps_for PassesOwn.never rfl (pi_range1 (by rfl) T.z_range (pa_cons (pe_callB call_len_str (by rfl) T.z_len PySem.boot_len (pa_cons (pv 0) pa_nil)) pa_nil)) (pg_name (i := 4) nd rfl (by first | exact Or.inl rfl | exact Or.inr rfl))
     (pss_one (ps_if (pt_cmpR op_gt (pv 3) pe_int (nomark _)) (pss_one (ps_set (i := 3) nd rfl (Or.inl rfl) (pe_op op_sub (pv 3) pe_int))) (pss_one (ps_if (pt_cmpR op_ne (pe_ix (c_ix (K := K) rfl) (pv 0) (pv 4) (fun _ _ => rfl)) pe_str (nomark _)) (pss_cons (ps_set (i := 5) nd rfl (Or.inl rfl) (pe_call (ok__law_token T) (hr.mono (by decide)) rfl T.m__law_token T.F__law_token.kp T.b__law_token .nil pass0 (pa_cons (pv 0) (pa_cons (pv 4) pa_nil))))
       (pss_cons (ps_if (pt_cmpR op_eq (pv 5) pe_str (nomark _)) (pss_one (ps_ret (pv 4))) pss_nil)
       (pss_one (ps_if (pt_cmpR op_eq (pv 5) pe_str (nomark _)) (pss_cons (ps_if (pt_not (pt_val (pv 1))) (pss_one (ps_ret (pv 4))) pss_nil)
        (pss_one (ps_set (i := 2) nd rfl (Or.inl rfl) (pe_op op_add (pv 2) pe_int)))) (pss_one (ps_if (pt_cmpR op_eq (pv 5) pe_str (nomark _)) (pss_cons (ps_if (PW.pt (pw_or (pt_val (pv 1)) (pw_or1 (pt_cmpR op_eq (pv 2) pe_int (nomark _))))) (pss_one (ps_ret (pv 4))) pss_nil)
         (pss_one (ps_set (i := 2) nd rfl (Or.inl rfl) (pe_op op_sub (pv 2) pe_int)))) (pss_one (ps_if (pt_cmpR (c_in (K := K) rfl) (pv 5) (pe_tup (pa_cons pe_str (pa_cons pe_str pa_nil))) (by rfl)) (pss_cons (ps_if (pt_val (pv 1)) (pss_one (ps_ret (pv 4))) pss_nil)
          (pss_one (ps_set (i := 1) nd rfl (Or.inl rfl) pe_bl))) (pss_one (ps_if (pt_cmpR op_eq (pv 5) pe_str (nomark _)) (pss_one (ps_if (pt_val (pv 1)) (pss_one (ps_ret (pv 4))) pss_nil)) (pss_cons (ps_if (pt_not (pt_val (pv 1))) (pss_one (ps_ret (pv 4))) pss_nil)
           (pss_cons (ps_set (i := 1) nd rfl (Or.inl rfl) pe_bl)
           (pss_one (ps_set (i := 3) nd rfl (Or.inl rfl) (pe_op op_sub (pe_callB call_len_str (by rfl) T.z_len PySem.boot_len (pa_cons (pv 5) pa_nil)) pe_int))))))))))))))) pss_nil)))))
    (pss_cons (ps_if (PW.pt (pw_or (pt_val (pv 1)) (pw_or1 (pt_cmpR op_gt (pv 2) pe_int (nomark _))))) (pss_one (ps_ret (pe_callB call_len_str (by rfl) T.z_len PySem.boot_len (pa_cons (pv 0) pa_nil)))) pss_nil)
    (pss_one (ps_ret (pe_un un_neg pe_int)))))))), ?_⟩
  refine go_start wd pp (Γ := [some (D K (dS w)), none, none, none, none, none]) rfl ?_
  refine (q_asg (P := D K (.bool true)) (ev_bl (K := K) (b := true)) ?_)
  refine (q_asg (P := D K (.int ((0 : Nat) : Int))) (ev_int (K := K) (i := 0)) ?_)
  refine (q_asg (P := D K (.int ((0 : Nat) : Int))) (ev_int (K := K) (i := 0)) ?_)
  dsimp only [List.set]
  refine (q_forR (ea_cons (ev_cb (ea_cons (ev_var (i := 0) rfl) ea_nil) (rc_lenS (by omega))) ea_nil) (by omega) (by omega) (fun i Γ M => ∃ (due : Bool) (kk s : Nat) (g4 g5 : Option MP), Γ = [some (D K (dS w)), some (D K (.bool due)), some (D K (.int (kk : Int))), some (D K (.int (s : Int))), g4, g5] ∧ M = [] ∧ i + s ≤ w.length ∧ Sc due kk (dropSp (w.drop (i + s))) o) ⟨true, 0, 0, none, none, rfl, rfl, by omega, S0⟩ ?_ ?_)
  · rintro i hi _ _ ⟨due, kk, s, g4, g5, rfl, rfl, his, S⟩
    have hi : i < w.length := by omega
    dsimp only [List.set]
    have mk : ∀ {due' : Bool} {kk' s' : Nat} {g4' g5' : Option MP} {Γ : Gm}, Γ = [some (D K (dS w)), some (D K (.bool due')), some (D K (.int (kk' : Int))), some (D K (.int (s' : Int))), g4', g5'] → i + 1 + s' ≤ w.length → Sc due' kk' (dropSp (w.drop (i + 1 + s'))) o → ∃ (due : Bool) (kk s : Nat) (g4 g5 : Option MP), Γ = [some (D K (dS w)), some (D K (.bool due)), some (D K (.int (kk : Int))), some (D K (.int (s : Int))), g4, g5] ∧ ([] : Ms) = [] ∧ i + 1 + s ≤ w.length ∧ Sc due kk (dropSp (w.drop (i + 1 + s))) o := fun {due' kk' s' g4' g5' Γ} e h1 h2 => ⟨due', kk', s', g4', g5', e, rfl, h1, h2⟩
    refine go_if (et_test (ev_op (ev_var (i := 3) rfl) (ev_int (K := K) (i := 0)) (rv_b0 (g := fun i j => decide (j < i))))) (fun hb => ?_) fun hb => ?_
    · have hb := of_decide_eq_true hb.symm
      refine go_asg (P := D K (.int ((s - 1 : Nat) : Int))) ((ev_op (ev_var (i := 3) rfl) (ev_int (K := K) (i := 1)) (rv_i0 (g := fun i j => i - j))).is (by congr 2; omega)) (JA.of (mk rfl (by omega) (by rw [show i + 1 + (s - 1) = i + s by omega]; exact S)))
    · have hb := of_decide_eq_false hb.symm
      obtain rfl : s = 0 := by omega
      rw [Nat.add_zero] at S
      have hd : w.drop i = w[i] :: w.drop (i + 1) := List.drop_eq_getElem_cons hi
      refine go_if (et_test (ev_neS (ev_op (ev_var (i := 0) rfl) (ev_var (i := 4) rfl) (rv_ixS (c := w[i]) (by omega) (by omega) (by rw [Int.toNat_natCast]; exact List.getElem?_eq_getElem hi))) (ev_strL (l := [32]) rfl))) (fun hc => ?_) fun hc => ?_
      · have hc := hc.symm
        rw [Bool.not_eq_true', decide_eq_false_iff_not] at hc
        have hr : dropSp (w.drop i) = w.drop i := by rw [hd]; exact dropSp_cons fun c => hc (by rw [c])
        rw [hr] at S
        have hne : w.drop i ≠ [] := fun c => by
          have := congrArg List.length c
          rw [List.length_drop, List.length_nil] at this
          omega
        have len : (w.drop i).length = w.length - i := List.length_drop
        have ret : ∀ {n : Nat} {Γ : Gm} {D1 : Ends}, o = some (w.drop i).length → Γ[4]? = some (some (D K (.int (i : Int)))) → D1.rt = Q → Nx ⟨F, H, keys []⟩ Γ [] (tRet (tVar 4) D1) := fun {n Γ D1} ho hg hD => by
          refine go_ret Le.refl ((ev_var (i := 4) hg).is ?_) (by rw [hD]; exact k)
          rw [ho]
          show D K (.int (i : Int)) = D K (.int ((w.length - (w.drop i).length : Nat) : Int))
          rw [len]
          congr 2
          omega
        refine (q_asg (use__law_token (T := T) (X := E0) (w := w) (n := i) (ea_cons (ev_var (i := 0) rfl) (ea_cons (ev_var (i := 4) rfl) ea_nil)) ⟨hi, wl⟩) ?_)
        dsimp only [List.set]
        refine (q_if (et_test (ev_eqS (ev_var (i := 5) rfl) (ev_strL (l := []) rfl))) (fun ht => ?_) fun ht => go_next ?_)
        · have ht := of_decide_eq_true ht.symm
          exact ret (n := 0) (S.stop hne (ltok_nil hne ht)) rfl rfl
        have ht := of_decide_eq_false ht.symm
        have et := ltok_some ht
        rw [et]
        have nx := nxS_drop (w := w) (i := i) (by omega)
        have tl := tokL_le (r := w.drop i)
        have tp := tokL_pos hne
        dsimp only
        have n1 : ∀ {c : Nat}, tokL (w.drop i) = [c] → nxS (w.drop i) = dropSp (w.drop (i + 1 + 0)) := fun {c} h => by rw [nx, h]; rfl
        refine go_if (et_test (ev_eqS (ev_var (i := 5) rfl) (ev_strL (l := [40]) rfl))) (fun hp => ?_) fun hp => ?_
        · have hp := of_decide_eq_true hp.symm
          refine (q_if (et_not (et_val (ev_var (i := 1) rfl))) (fun hq => ?_) fun hq => go_next ?_)
          · obtain rfl : due = false := by simpa using hq.symm
            exact ret (n := 0) (S.stop hne (by rw [hp]; rfl)) rfl rfl
          · obtain rfl : due = true := by simpa using hq.symm
            have S2 := S.at (due' := true) (k' := kk + 1) hne (by rw [hp]; rfl)
            rw [n1 hp] at S2
            refine go_asg (P := D K (.int ((kk + 1 : Nat) : Int))) ((ev_op (ev_var (i := 2) rfl) (ev_int (K := K) (i := 1)) (rv_i0 (g := fun i j => i + j))).is (by congr 2)) (JA.of (mk rfl (by omega) S2))
        have hp := of_decide_eq_false hp.symm
        refine go_if (et_test (ev_eqS (ev_var (i := 5) rfl) (ev_strL (l := [41]) rfl))) (fun hp2 => ?_) fun hp2 => ?_
        · have hp2 := of_decide_eq_true hp2.symm
          refine (q_if (et_or (et_val (ev_var (i := 1) rfl)) fun _ => et_test (ev_op (ev_var (i := 2) rfl) (ev_int (K := K) (i := 0)) rv_eqI)) (fun hq => ?_) fun hq => go_next ?_)
          · have hq := hq.symm
            have hq2 : (due || decide (kk = 0)) = true := by
              rw [Bool.or_eq_true, decide_eq_true_iff] at hq ⊢
              exact hq.imp id fun h => by omega
            exact ret (n := 0) (S.stop hne (by unfold stp; rw [hp2, if_neg (by decide), if_pos rfl, if_pos hq2])) rfl rfl
          · have hq := hq.symm
            rw [Bool.or_eq_false_iff, decide_eq_false_iff_not] at hq
            obtain ⟨rfl, hk⟩ := hq
            have S2 := S.at (due' := false) (k' := kk - 1) hne (by unfold stp; rw [hp2, if_neg (by decide), if_pos rfl, if_neg (by simp; omega)])
            rw [n1 hp2] at S2
            refine go_asg (P := D K (.int ((kk - 1 : Nat) : Int))) ((ev_op (ev_var (i := 2) rfl) (ev_int (K := K) (i := 1)) (rv_i0 (g := fun i j => i - j))).is (by congr 2; omega)) (JA.of (mk rfl (by omega) S2))
        have hp2 := of_decide_eq_false hp2.symm
        refine go_if (et_test (ev_op (ev_var (i := 5) rfl) (ev_tup (ps := (([43] :: [46] :: []) : List (List Nat)).map fun l => D K (dS l)) (ea_cons (ev_strL (l := [43]) rfl) (ea_cons (ev_strL (l := [46]) rfl) ea_nil)) (by simp)) rv_inTS)) (fun hp3 => ?_) fun hp3 => ?_
        · have hp3 := of_decide_eq_true hp3.symm
          have hp3 : tokL (w.drop i) = [43] ∨ tokL (w.drop i) = [46] := by simpa using hp3
          have h1 : ∃ c, tokL (w.drop i) = [c] := hp3.elim (fun h => ⟨_, h⟩) fun h => ⟨_, h⟩
          obtain ⟨c, hc1⟩ := h1
          refine (q_if (et_val (ev_var (i := 1) rfl)) (fun hq => ?_) fun hq => go_next ?_)
          · obtain rfl : due = true := hq.symm
            exact ret (n := 0) (S.stop hne (by unfold stp; rw [if_neg hp, if_neg hp2, if_pos hp3]; rfl)) rfl rfl
          · obtain rfl : due = false := hq.symm
            have S2 := S.at (due' := true) (k' := kk) hne (by unfold stp; rw [if_neg hp, if_neg hp2, if_pos hp3]; rfl)
            rw [n1 hc1] at S2
            dsimp only
            refine go_asg (P := D K (.bool true)) (ev_bl (K := K) (b := true)) ?_
            exact JA.of (mk rfl (by omega) S2)
        have hp3 := of_decide_eq_false hp3.symm
        have hp3 : ¬(tokL (w.drop i) = [43] ∨ tokL (w.drop i) = [46]) := by simpa using hp3
        refine go_if (et_test (ev_eqS (ev_var (i := 5) rfl) (ev_strL (l := [42]) rfl))) (fun hp4 => ?_) fun hp4 => ?_
        · have hp4 := of_decide_eq_true hp4.symm
          refine (go_if (et_val (ev_var (i := 1) rfl)) (fun hq => ?_) fun hq => go_next ?_)
          · obtain rfl : due = true := hq.symm
            exact ret (n := 0) (S.stop hne (by rw [hp4]; rfl)) rfl rfl
          · obtain rfl : due = false := hq.symm
            have S2 := S.at (due' := false) (k' := kk) hne (by rw [hp4]; rfl)
            rw [n1 hp4] at S2
            exact JA.of (mk rfl (by omega) S2)
        have hp4 := of_decide_eq_false hp4.symm
        have st := stp_opd (due := due) (k := kk) ht hp hp2 hp3 hp4
        refine (q_if (et_not (et_val (ev_var (i := 1) rfl))) (fun hq => ?_) fun hq => go_next ?_)
        · obtain rfl : due = false := by simpa using hq.symm
          exact ret (n := 0) (S.stop hne st) rfl rfl
        · obtain rfl : due = true := by simpa using hq.symm
          have S2 := S.at (due' := false) (k' := kk) hne st
          rw [nx] at S2
          have tl2 : (tokL (w.drop i)).length ≤ w.length - i := by rw [← len]; exact tl
          refine (q_asg (P := D K (.bool false)) (ev_bl (K := K) (b := false)) ?_)
          dsimp only [List.set]
          refine go_asg (P := D K (.int (((tokL (w.drop i)).length - 1 : Nat) : Int))) ((ev_op (ev_cb (ea_cons (ev_var (i := 5) rfl) ea_nil) (rc_lenS (by omega))) (ev_int (K := K) (i := 1)) (rv_i0 (g := fun i j => i - j))).is (by congr 2 <;> omega)) (JA.of (mk rfl (by omega) (by rw [show i + 1 + ((tokL (w.drop i)).length - 1) = i + (tokL (w.drop i)).length by omega]; exact S2)))
      · have hc := hc.symm
        rw [Bool.not_eq_false', decide_eq_true_iff] at hc
        have hc := (List.cons.inj hc).1
        have : dropSp (w.drop i) = dropSp (w.drop (i + 1 + 0)) := by rw [hd, hc, dropSp_sp]
        rw [this] at S
        exact JA.of (mk rfl (by omega) S)
  · rintro _ _ ⟨due, kk, s, g4, g5, rfl, rfl, his, S⟩
    rw [Int.toNat_natCast] at his S
    obtain rfl : s = 0 := by omega
    rw [Nat.add_zero, List.drop_length] at S
    have ho := S.end
    refine (q_if (et_or (et_val (ev_var (i := 1) rfl)) fun _ => et_test (ev_op (ev_var (i := 2) rfl) (ev_int (K := K) (i := 0)) (rv_b0 (g := fun i j => decide (j < i))))) (fun hq => ?_) fun hq => go_next ?_)
    · have hq := hq.symm
      rw [Bool.or_eq_true, decide_eq_true_iff] at hq
      rw [if_pos (hq.imp id fun h => by omega)] at ho
      refine go_ret Le.refl ((ev_cb (ea_cons (ev_var (i := 0) rfl) ea_nil) (rc_lenS (l := w) (by omega))).is ?_) k
      rw [ho]; rfl
    · have hq := hq.symm
      rw [Bool.or_eq_false_iff, decide_eq_false_iff_not] at hq
      rw [if_neg (fun c => c.elim (fun h => by rw [h] at hq; cases hq.1) fun h => hq.2 (by omega))] at ho
      dsimp only
      refine go_ret Le.refl ((ev_neg (ev_int (K := K) (i := 1))).is ?_) k
      rw [ho]; rfl
theorem use__law_fault {T : Txt K mg} {tr : TA} {Γ : Gm} {M M1 : Ms} {w : List Nat} {o : Option Nat} {X : XK} (h : EvA tr Γ M [D K (dS w)] M1) (hn : Sc true 0 (dropSp w) o ∧ w.length ≤ 100000) : Ev (tCall (sp__law_fault T) [] X tr) Γ M (D K (.int (fz w o))) M1 :=
  call0 h fun vs H Q z => ⟨w, o, hn, z⟩
end
end My
namespace My
open PySem L2 Hq
local macro_rules | `(tactic| trivial) => `(tactic| omega)
section
variable {P : Program} {wo : World} {K : PySem.W.Frag} {mg : Str → Option Value} {base : Heap}
/-! ### law -/
theorem sc_law : FnScope ["script", "draws", "text", "k", "at", "sign", "kind", "found", "fault"] ["script"] (defScope s_law) := ⟨rfl, rfl, rfl, by decide +kernel, rfl, by decide +kernel, by decide +kernel⟩
def spLaw (K : PySem.W.Frag) : Sp := fun vs H Q _ => ∃ (a : Addr) (ns : List Int), vs = [.ref a] ∧ SqL K H a (ns.map V.int) ∧ ns.length ≤ 63 ∧ ∀ H', Q (.bl true) H'
def sp_law (T : Txt K mg) : Sp := spLaw K
theorem sp_law_len {T : Txt K mg} {vs H Q E} (h : sp_law T vs H Q E) : vs.length = 1 := by obtain ⟨a, ns, rfl, _⟩ := h; rfl
/-- what stays small of a text -/
structure Sm (w : List Nat) (i : Nat) : Prop where
  l : w.length ≤ 120 + i
  p : cP w ≤ 15 + i
  o : cO w ≤ 15 + i
theorem cP_le {a b : List Nat} (h : List.Sublist a b) : cP a ≤ cP b := h.count_le _
theorem cO_le {a b : List Nat} (h : List.Sublist a b) : cO a ≤ cO b := (h.filter _).length_le
theorem Sm.sub {w v : List Nat} {i : Nat} (h : Sm w i) (s : List.Sublist v w) : Sm v (i + 1) := ⟨by have := s.length_le; have := h.l; omega, by have := cP_le s; have := h.p; omega, by have := cO_le s; have := h.o; omega⟩
theorem Sm.ins {w a b : List Nat} {i c : Nat} (h : Sm w i) (s : List.Sublist (a ++ b) w) : Sm (a ++ [c] ++ b) (i + 1) := by
  have l1 := s.length_le
  have l2 := cP_le s
  have l3 := cO_le s
  have p1 : cP [c] ≤ 1 := List.count_le_length
  have o1 : cO [c] ≤ 1 := by unfold cO; exact List.length_filter_le _ _
  have h1 := h.l; have h2 := h.p; have h3 := h.o
  rw [cP_app] at l2
  rw [cO_app] at l3
  rw [List.length_append] at l1
  refine ⟨by simp only [List.length_append, List.length_cons, List.length_nil]; omega, by rw [cP_app, cP_app]; omega, by rw [cO_app, cO_app]; omega⟩
theorem cut_sub {w : List Nat} {a b : Nat} (h : a ≤ b) : List.Sublist (w.take a ++ w.drop b) w := by
  have : List.Sublist (w.take a ++ w.drop b) (w.take a ++ w.drop a) := List.Sublist.append (List.Sublist.refl _) (by
    have := List.drop_sublist (b - a) (w.drop a)
    rwa [List.drop_drop, show a + (b - a) = b by omega] at this)
  rwa [List.take_append_drop] at this
set_option maxHeartbeats 4000000 in
theorem ok_law (T : Txt K mg) (PF : HqTe.PrgOk P T.fl_ExpressionSyntaxError) : FnOk P wo K mg base CX0 133 T.f_law T.d_law ["script"] (sp_law T) := by
  have nd := (sc_law).nd
  refine T.F_law.ok sc_law (fun vs H Q E h => (sp_law_len h)) (fun cdv A outer s H vs Q E hr h => ?_)
  obtain ⟨a0, ns, rfl, hS, hns, k0⟩ := h
  have w : Wd H [] H := ⟨Evl.Ex.refl _, List.nodup_nil, fun r hr => by cases hr⟩
  have ps : Ps H [.ref a0] [PLi K (ns.map fun n => D K (.int n))] := .cons ⟨a0, _, rfl, hS, map_ints ns⟩ .nil
  have k : ∀ M, Rt ⟨H, H, keys []⟩ M (D K (.bool true)) Q := fun M v F H' _ hv => by cases dp_bl hv; exact k0 H'
  refine ⟨_, (pss_cons (ps_set (i := 1) nd rfl (Or.inl rfl) (pe_call (ok__law_draws T) (hr.mono (by decide)) rfl T.m__law_draws T.F__law_draws.kp T.b__law_draws .nil pass0 (pa_cons (pv 0) (pa_cons pe_int pa_nil))))
    (pss_cons (ps_set (i := 2) nd rfl (Or.inl rfl) (pe_call (ok_format_expression T) (hr.mono (by decide)) rfl T.m_format_expression T.F_format_expression.kp T.b_format_expression .nil pass0 (pa_cons (pe_call (ok__law_expression T) (hr.mono (by decide)) rfl T.m__law_expression T.F__law_expression.kp T.b__law_expression .nil pass0 (pa_cons (pv 1) (pa_cons pe_int (pa_cons pe_int pa_nil)))) pa_nil)))
    (pss_cons (ps_for PassesOwn.never rfl (pi_range1 (by rfl) T.z_range (pa_cons (pe_call (ok__law_take T) (hr.mono (by decide)) rfl T.m__law_take T.F__law_take.kp T.b__law_take .nil pass0 (pa_cons (pv 1) (pa_cons pe_int pa_nil))) pa_nil)) (pg_name (i := 3) nd rfl (by first | exact Or.inl rfl | exact Or.inr rfl))
     (pss_cons (ps_set (i := 4) nd rfl (Or.inl rfl) (pe_call (ok__law_take T) (hr.mono (by decide)) rfl T.m__law_take T.F__law_take.kp T.b__law_take .nil pass0 (pa_cons (pv 1) (pa_cons (pe_op op_add (pe_callB call_len_str (by rfl) T.z_len PySem.boot_len (pa_cons (pv 2) pa_nil)) pe_int) pa_nil))))
     (pss_cons (ps_set (i := 5) nd rfl (Or.inl rfl) (pe_ix (c_ix (K := K) rfl) pe_str (pe_call (ok__law_take T) (hr.mono (by decide)) rfl T.m__law_take T.F__law_take.kp T.b__law_take .nil pass0 (pa_cons (pv 1) (pa_cons pe_int pa_nil))) (fun _ _ => rfl)))
     (pss_cons (ps_set (i := 6) nd rfl (Or.inl rfl) (pe_call (ok__law_take T) (hr.mono (by decide)) rfl T.m__law_take T.F__law_take.kp T.b__law_take .nil pass0 (pa_cons (pv 1) (pa_cons pe_int pa_nil))))
     (pss_one (ps_if (pt_cmpR op_eq (pv 6) pe_int (nomark _)) (pss_one (ps_set (i := 2) nd rfl (Or.inl rfl) (pe_op op_add_str (pe_slice sl_str (pv 2) po_none (po_some (pv 4))) (pe_slice sl_str (pv 2) (po_some (pe_op op_add (pv 4) pe_int)) po_none)))) (pss_one (ps_if (pt_cmpR op_eq (pv 6) pe_int (nomark _)) (pss_one (ps_set (i := 2) nd rfl (Or.inl rfl) (pe_op op_add_str (pe_op op_add_str (pe_slice sl_str (pv 2) po_none (po_some (pv 4))) (pv 5)) (pe_slice sl_str (pv 2) (po_some (pv 4)) po_none)))) (pss_one (ps_if (pt_cmpR op_eq (pv 6) pe_int (nomark _)) (pss_one (ps_set (i := 2) nd rfl (Or.inl rfl) (pe_op op_add_str (pe_op op_add_str (pe_slice sl_str (pv 2) po_none (po_some (pv 4))) (pv 5)) (pe_slice sl_str (pv 2) (po_some (pe_op op_add (pv 4) pe_int)) po_none)))) (pss_one (ps_set (i := 2) nd rfl (Or.inl rfl) (pe_slice sl_str (pv 2) po_none (po_some (pv 4)))))))))))))))
    (pss_cons (ps_set (i := 7) nd rfl (Or.inl rfl) (pe_call (ok__law_outcome T PF) (hr.mono (by decide)) rfl T.m__law_outcome T.F__law_outcome.kp T.b__law_outcome .nil pass0 (pa_cons (pv 2) pa_nil)))
    (pss_cons (ps_set (i := 8) nd rfl (Or.inl rfl) (pe_call (ok__law_fault T) (hr.mono (by decide)) rfl T.m__law_fault T.F__law_fault.kp T.b__law_fault .nil pass0 (pa_cons (pv 2) pa_nil)))
    (pss_cons (ps_if (pt_cmpR op_ge (pv 8) pe_int (nomark _)) (pss_one (ps_ret (pe_cmpR (c_eq (K := K) rfl hr.units) (pv 7) (pe_tup (pa_cons pe_str (pa_cons (pv 8) pa_nil))) (nomark _)))) pss_nil)
    (pss_one (ps_ret (pe_and (pe_cmpR op_eq (pe_ix (c_ix (K := K) rfl) (pv 7) pe_int (fun _ _ => rfl)) pe_str (nomark _)) (pe_one (pe_cmpR (c_eq (K := K) rfl hr.units) (pe_call (ok_parse_expression T PF) (hr.mono (by decide)) rfl T.m_parse_expression T.F_parse_expression.kp T.b_parse_expression .nil passL (pa_cons (pe_call (ok_format_expression T) (hr.mono (by decide)) rfl T.m_format_expression T.F_format_expression.kp T.b_format_expression .nil pass0 (pa_cons (pe_ix (c_ix (K := K) rfl) (pv 7) pe_int (fun _ _ => rfl)) pa_nil)) pa_nil)) (pe_ix (c_ix (K := K) rfl) (pv 7) pe_int (fun _ _ => rfl)) (nomark _)))))))))))), ?_⟩
  refine go_start w ps (Γ := [some (PLi K (ns.map fun n => D K (.int n))), none, none, none, none, none, none, none, none]) rfl ?_
  refine (q_asgN (use__law_draws (ea_cons (ev_var rfl) (ea_cons (ev_int (K := K)) ea_nil)) (by decide) (by decide) (by omega)) fun d hd => ?_)
  generalize PLi K (ns.map fun n => D K (.int n)) = S at *
  show Nx _ _ [(d, MDr K)] _
  dsimp only [List.set]
  have fx : Ev (tCall (sp_format_expression T) [] E0 (tCons (tCall (sp__law_expression T) [] E0 (tCons (tVar 1) (tCons (tC (.int 6)) (tCons (tC (.int 3)) tNil)))) tNil)) [some S, some (Own d), none, none, none, none, none, none, none] [(d, MDr K)] (PEx fun l : List Nat => PAn (Sm l 0) (D K (dS l))) [(d, MDr K)] := call0 (ea_cons (use__law_expression (T := T) (X := E0) (m := 3) (j := 0) (ea_cons (ev_var (i := 1) rfl) (ea_cons (ev_int (K := K) (i := 6)) (ea_cons (ev_int (K := K) (i := 3)) ea_nil))) (by decide) rfl) ea_nil) fun vs H Q ⟨F, w, p, kk⟩ => by
    cases p with
    | cons p1 t =>
      cases t
      obtain ⟨e, ⟨h1, h2, h3⟩, p1⟩ := p1
      have h3 : e.sz < 16 := h3
      have tl := txt_len e 0
      have c1 := txt_cP e 0 h1
      have c2 := txt_cO e 0 h1
      have c3 := nl_sz e
      exact ⟨e, ⟨h1, by omega⟩, F, w, .cons p1 .nil, fun v F' H' g hv => kk v F' H' g ⟨_, ⟨by omega, by omega, by omega⟩, hv⟩⟩
  refine (q_asg fx (nx_ex (i := 2) rfl fun w0 => nx_an (i := 2) rfl fun hw0 => ?_))
  clear fx
  dsimp only [List.set]
  refine (q_forRX (i := 3) (use__law_take (n := 4) (ea_cons (ev_var (i := 1) rfl) (ea_cons (ev_int (K := K) (i := 4)) ea_nil)) (by decide) (j := 0) rfl) fun z hz tr' htr => ?_)
  refine (q_forR htr (by omega) (by omega) (fun i Γ M => ∃ (wd : List Nat) (g3 g4 g5 g6 : Option MP), Γ = [some S, some (Own d), some (D K (dS wd)), g3, g4, g5, g6, none, none] ∧ M = [(d, MDr K)] ∧ Sm wd i) ⟨w0, none, none, none, none, rfl, rfl, hw0⟩ ?_ ?_)
  · rintro i hi _ _ ⟨wd, g3, g4, g5, g6, rfl, rfl, hs⟩
    have i3 : i < 4 := by omega
    have wl := hs.l
    dsimp only [List.set]
    refine (q_asg (use__law_take (n := (wd.length : Int) + 1) (ea_cons (ev_var (i := 1) rfl) (ea_cons (ev_op (ev_cb (ea_cons (ev_var (i := 2) rfl) ea_nil) (rc_lenS (l := wd) (by omega))) (ev_int (K := K) (i := 1)) (rv_i0 (g := fun i j => i + j))) ea_nil)) (by omega) (j := 0) rfl) (nx_ex (i := 4) rfl fun az => nx_an (i := 4) rfl fun ha => ?_))
    dsimp only [List.set]
    obtain ⟨a, rfl⟩ := Int.eq_ofNat_of_zero_le ha.1
    have ix : ∀ {M : Ms}, RV (rIx K) (D K (dS [48, 49, 32, 43, 46, 42, 40, 41, 110, 111, 101, 109, 112, 116, 121, 54, 120])) (PIn K 0 17) M (PEx fun c : Nat => PAn True (D K (dS [c]))) M := fun {M} => RV.ex2 fun x => RV.an2 fun hx => (rv_ixS (c := ([48, 49, 32, 43, 46, 42, 40, 41, 110, 111, 101, 109, 112, 116, 121, 54, 120] : List Nat).getD x.toNat 0) hx.1 (by decide) (by
      have h17 : x.toNat < ([48, 49, 32, 43, 46, 42, 40, 41, 110, 111, 101, 109, 112, 116, 121, 54, 120] : List Nat).length := by show x.toNat < 17; omega
      rw [List.getD_eq_getElem?_getD, List.getElem?_eq_getElem h17]; rfl)).weak (MP.le_trans (PAn.in trivial) (PEx.in (R := fun c : Nat => PAn True (D K (dS [c]))) _))
    refine (q_asg (ev_op (ev_strL (l := [48, 49, 32, 43, 46, 42, 40, 41, 110, 111, 101, 109, 112, 116, 121, 54, 120]) rfl) (use__law_take (n := 17) (ea_cons (ev_var (i := 1) rfl) (ea_cons (ev_int (K := K) (i := 17)) ea_nil)) (by decide) (j := 0) rfl) ix) (nx_ex (i := 5) rfl fun c => nx_an (i := 5) rfl fun _ => ?_))
    dsimp only [List.set]
    refine (q_asg (use__law_take (n := 4) (ea_cons (ev_var (i := 1) rfl) (ea_cons (ev_int (K := K) (i := 4)) ea_nil)) (by decide) (j := 0) rfl) (nx_ex (i := 6) rfl fun kd => nx_an (i := 6) rfl fun hk => ?_))
    dsimp only [List.set]
    have st : Ev (tSl rSlS (tVar 2) tNoPart (tPart (tVar 4))) [some S, some (Own d), some (D K (dS wd)), some (D K (.int (i : Int))), some (D K (.int (a : Int))), some (D K (dS [c])), some (D K (.int kd)), none, none] [(d, MDr K)] (D K (dS (wd.take a))) [(d, MDr K)] := by
      have := ev_slS (ev_var (i := 2) (Γ := [some S, some (Own d), some (D K (dS wd)), some (D K (.int (i : Int))), some (D K (.int (a : Int))), some (D K (dS [c])), some (D K (.int kd)), none, none]) (M := [(d, MDr K)]) rfl) ep_none (ep_some (ev_var (i := 4) rfl)) (show wd.length ≤ 16000000 by omega)
      rwa [cutN_to] at this
    have sf : ∀ {te : TE} {b : Nat}, Ev te [some S, some (Own d), some (D K (dS wd)), some (D K (.int (i : Int))), some (D K (.int (a : Int))), some (D K (dS [c])), some (D K (.int kd)), none, none] [(d, MDr K)] (D K (.int (b : Int))) [(d, MDr K)] → Ev (tSl rSlS (tVar 2) (tPart te) tNoPart) [some S, some (Own d), some (D K (dS wd)), some (D K (.int (i : Int))), some (D K (.int (a : Int))), some (D K (dS [c])), some (D K (.int kd)), none, none] [(d, MDr K)] (D K (dS (wd.drop b))) [(d, MDr K)] := fun {te b} h => by
      have := ev_slS (ev_var (i := 2) (Γ := [some S, some (Own d), some (D K (dS wd)), some (D K (.int (i : Int))), some (D K (.int (a : Int))), some (D K (dS [c])), some (D K (.int kd)), none, none]) (M := [(d, MDr K)]) rfl) (ep_some h) ep_none (show wd.length ≤ 16000000 by omega)
      rwa [cutN_from] at this
    have a1 : Ev (tOp (rI0 fun i j => .int (i + j)) (tVar 4) (tC (.int 1))) [some S, some (Own d), some (D K (dS wd)), some (D K (.int (i : Int))), some (D K (.int (a : Int))), some (D K (dS [c])), some (D K (.int kd)), none, none] [(d, MDr K)] (D K (.int ((a + 1 : Nat) : Int))) [(d, MDr K)] := (ev_op (ev_var (i := 4) rfl) (ev_int (K := K) (i := 1)) (rv_i0 (g := fun i j => i + j))).is (by congr 2)
    have l1 : (wd.take a).length ≤ wd.length := List.length_take_le' a wd
    have l2 : (wd.drop a).length ≤ wd.length := (List.drop_sublist a wd).length_le
    have l3 : (wd.drop (a + 1)).length ≤ wd.length := (List.drop_sublist (a + 1) wd).length_le
    refine go_if (et_test (ev_op (ev_var (i := 6) rfl) (ev_int (K := K) (i := 0)) rv_eqI)) (fun _ => ?_) fun _ => ?_
    · exact go_asg (ev_op st (sf a1) (rv_addS (by omega))) (JA.of ⟨_, _, _, _, _, rfl, rfl, hs.sub (cut_sub (Nat.le_succ a))⟩)
    refine go_if (et_test (ev_op (ev_var (i := 6) rfl) (ev_int (K := K) (i := 1)) rv_eqI)) (fun _ => ?_) fun _ => ?_
    · exact go_asg (ev_op (ev_op st (ev_var (i := 5) rfl) (rv_addS (by simp only [List.length_cons, List.length_nil]; omega))) (sf (ev_var (i := 4) rfl)) (rv_addS (by rw [List.length_append]; simp only [List.length_cons, List.length_nil]; omega))) (JA.of ⟨_, _, _, _, _, rfl, rfl, hs.ins (cut_sub (Nat.le_refl a))⟩)
    refine go_if (et_test (ev_op (ev_var (i := 6) rfl) (ev_int (K := K) (i := 2)) rv_eqI)) (fun _ => ?_) fun _ => ?_
    · exact go_asg (ev_op (ev_op st (ev_var (i := 5) rfl) (rv_addS (by simp only [List.length_cons, List.length_nil]; omega))) (sf a1) (rv_addS (by rw [List.length_append]; simp only [List.length_cons, List.length_nil]; omega))) (JA.of ⟨_, _, _, _, _, rfl, rfl, hs.ins (cut_sub (Nat.le_succ a))⟩)
    · exact go_asg st (JA.of ⟨_, _, _, _, _, rfl, rfl, hs.sub (List.take_sublist a wd)⟩)
  · rintro _ _ ⟨wd, g3, g4, g5, g6, rfl, rfl, hs⟩
    have z4 : z.toNat ≤ 3 := by omega
    have wl := hs.l
    have wp := hs.p
    have wo := hs.o
    have hw : wd.length ≤ 100000 ∧ cP wd < 24 := ⟨by omega, by omega⟩
    obtain ⟨O1, O2⟩ := out_sc (d := 24) (w := wd) hw.2
    refine (q_asg (use__law_outcome (T := T) (X := E0) (w := wd) (ea_cons (ev_var (i := 2) rfl) ea_nil) hw) ?_)
    dsimp only [List.set]
    cases ho : out 24 wd with
    | error p =>
      obtain ⟨n, hp, hS⟩ := O2 p ho
      refine (q_asg (use__law_fault (T := T) (X := E0) (w := wd) (o := some n) (ea_cons (ev_var (i := 2) rfl) ea_nil) ⟨hS, hw.1⟩) ?_)
      dsimp only [List.set]
      have ef : fz wd (some n) = (p : Int) := by rw [hp]; rfl
      rw [ef]
      refine (q_if ((et_test (ev_op (ev_var (i := 8) rfl) (ev_int (K := K) (i := 0)) (rv_b0 (g := fun i j => decide (j ≤ i))))).is (b' := true) (decide_eq_true (by omega))) (fun _ => ?_) fun hz => absurd hz (by simp))
      have sh : SeqAt.shaped (dOut (.error p)) = true := by
        show (PyData.canLay0 (.tuple [dS wWrong, .int (p : Int)]) && decide (PyData.depth (.tuple [dS wWrong, .int (p : Int)]) ≤ 64)) = true
        rw [layS (a := wWrong) (xs := [.int (p : Int)]) (by decide +kernel) (lay_1 (enc_int.lay _)), decide_eq_true (by simp [PyData.depth, PyData.depthAll])]; rfl
      refine go_ret Le.refl ((ev_op (ev_var (i := 7) rfl) ((ev_tup (K := K) (ps := [D K (dS wWrong), D K (.int (p : Int))]) (ea_cons (ev_strL (l := wWrong) rfl) (ea_cons (ev_var (i := 8) rfl) ea_nil)) (by simp)).weak (PTu_D (ds := [dS wWrong, .int (p : Int)]))) (rv_eqD (d := dOut (.error p)) (e := dOut (.error p)) sh sh)).is ?_) (k _)
      show D K (.bool (PyData.eqv (.tuple [dS wWrong, .int (p : Int)]) (.tuple [dS wWrong, .int (p : Int)]))) = _
      rw [eqv_hdS, eqv_c1, enc_int.eq]
      simp
    | ok e =>
      obtain ⟨hS, eo, es, en⟩ := O1 e ho
      have dp := dep_nl e
      refine (q_asg (use__law_fault (T := T) (X := E0) (w := wd) (o := none) (ea_cons (ev_var (i := 2) rfl) ea_nil) ⟨hS, hw.1⟩) ?_)
      dsimp only [List.set]
      refine (q_if ((et_test (ev_op (ev_var (i := 8) rfl) (ev_int (K := K) (i := 0)) (rv_b0 (g := fun i j => decide (j ≤ i))))).is (b' := false) (decide_eq_false (by show ¬ ((0 : Int) ≤ -1); decide))) (fun hz => absurd hz (by simp)) fun _ => go_next ?_)
      dsimp only
      have tl := txt_len e 0
      have tp := txt_cP e 0 eo
      have ro : out 24 (txt e 0) = .ok e := by
        have : out 24 (txt e 0) = match gE 24 (dropSp (txt e 0)) with | .ok z => if z.2 = [] then .ok z.1 else .error ((txt e 0).length - z.2.length) | .error n => .error ((txt e 0).length - n) := rfl
        rw [this, reads_all eo (d := 23) (by omega) (txt_wr 0 eo)]
        rfl
      have f1 : ∀ {M : Ms}, Ev (tOp (rIx K) (tVar 7) (tC (.int 1))) [some S, some (Own d), some (D K (dS wd)), g3, g4, g5, g6, some (D K (dOut (.ok e))), some (D K (.int (fz wd none)))] M (D K (dX e)) M := fun {M} => ev_op (ev_var (i := 7) rfl) (ev_int (K := K) (i := 1)) (rv_ixDT (ds := [dS wRight, dX e]) (by decide) rfl)
      have dps : e.dep ≤ 60 := by omega
      refine go_ret Le.refl ((ev_andV (a := true) (b := true) ((ev_eqS (ev_op (ev_var (i := 7) rfl) (ev_int (K := K) (i := 0)) (rv_ixDT (ds := [dS wRight, dX e]) (by decide) rfl)) (ev_strL (l := wRight) rfl)).is (P' := D K (.bool true)) (by simp)) fun _ => (ev_op (use_parse_expression (T := T) (X := E0) (w := txt e 0) (e := e) (ea_cons (use_format_expression (T := T) (X := E0) (e := e) (ea_cons f1 ea_nil) ⟨eo, by omega⟩) ea_nil) ⟨by omega, by omega⟩ ro) f1 (rv_eqD (dX_shaped dps) (dX_shaped dps))).is (P' := D K (.bool true)) (by rw [dX_eq]; simp)).is (by rfl)) (k _)
end
end My
namespace My
open PySem L2 Hq
set_option maxHeartbeats 0 in
theorem all_mk {l : PySem.W.OpenLaw} {wo : World} {K : PySem.W.Frag} {h : Heap} {mg : Str → Option Value} {fa c_Reader c_ExpressionSyntaxError fi_ExpressionSyntaxError cda_ExpressionSyntaxError ccc_ExpressionSyntaxError cN_ExpressionSyntaxError f__law_take f__law_draws f__text_of f_format_expression f__token_at f_Reader_advance f_Reader_init f_Reader_read_simple f_Reader_read_star f_Reader_read_join f_Reader_read_either f_parse_expression f__law_outcome f__law_expression f__law_token f__law_fault f_law : Addr} (X : K.In h) (G : h.Ns mainGlobals mg) (hfa : mg "law" = some (.ref fa))
    {nm_ExpressionSyntaxError q_ExpressionSyntaxError ql_ExpressionSyntaxError fl_ExpressionSyntaxError : Str} {tf_ExpressionSyntaxError : Tok} {bs_ExpressionSyntaxError bm_ExpressionSyntaxError sub_ExpressionSyntaxError : List Value} {sn_ExpressionSyntaxError : List Str} {ab_ExpressionSyntaxError : Bool} {col_ExpressionSyntaxError : Option Bool} {dd_ExpressionSyntaxError od_ExpressionSyntaxError an_ExpressionSyntaxError cdd_ExpressionSyntaxError cld_ExpressionSyntaxError : Option Addr} {m0_ExpressionSyntaxError m1_ExpressionSyntaxError m2_ExpressionSyntaxError m3_ExpressionSyntaxError m5_ExpressionSyntaxError : Option Value} {oc_ExpressionSyntaxError kV_ExpressionSyntaxError doc_ExpressionSyntaxError pm_ExpressionSyntaxError ct_ExpressionSyntaxError ccl_ExpressionSyntaxError cl_ExpressionSyntaxError : Value} {osl_ExpressionSyntaxError ccs_ExpressionSyntaxError csl_ExpressionSyntaxError : Array (Option Value)} {vs_ExpressionSyntaxError : Array Value}
    {od0 od1 od2 od3 od4 od5 od6 od7 od8 od9 od10 od11 od12 od13 od14 od15 od16 an0 an1 an2 an3 an4 an5 an6 an7 an8 an9 an10 an11 an12 an13 an14 an15 an16 : Option Addr} {sl0 sl1 sl2 sl3 sl4 sl5 sl6 sl7 sl8 sl9 sl10 sl11 sl12 sl13 sl14 sl15 sl16 : Array (Option Value)} {oc0 oc1 oc2 oc3 oc4 oc5 oc6 oc7 oc8 oc9 oc10 oc11 oc12 oc13 oc14 oc15 oc16 kV0 kV1 kV2 kV3 kV4 kV5 kV6 kV7 kV8 kV9 kV10 kV11 kV12 kV13 kV14 kV15 kV16 dc0 dc1 dc2 dc3 dc4 dc5 dc6 dc7 dc8 dc9 dc10 dc11 dc12 dc13 dc14 dc15 dc16 pm0 pm1 pm2 pm3 pm4 pm5 pm6 pm7 pm8 pm9 pm10 pm11 pm12 pm13 pm14 pm15 pm16 cd0 cd1 cd2 cd3 cd4 cd5 cd6 cd7 cd8 cd9 cd10 cd11 cd12 cd13 cd14 cd15 cd16 ct0 ct1 ct2 ct3 ct4 ct5 ct6 ct7 ct8 ct9 ct10 ct11 ct12 ct13 ct14 ct15 ct16 : Value}
    {t_DIGITS : Tok}
    {t_EITHER : Tok}
    {t_END : Tok}
    {t_JOIN : Tok}
    {t_STAR : Tok}
    (aC_Reader : PySem.W.nsIn K mainGlobals "Reader" = some (some (.ref c_Reader)))
    (a0 : PySem.W.nsIn K mainGlobals "_law_take" = some (some (.ref f__law_take)))
    (l0 : K.lookup f__law_take = some ⟨oc0, od0, .func (PySem.W.fnOf "_law_take" "_law_take" (defArgs s__law_take) (defBody s__law_take) (defScope s__law_take) .none kV0 dc0 pm0 an0 cd0 ct0), sl0⟩)
    (c0 : PySem.W.codeIn K cd0 "_law_take" = true)
    (k0 : PySem.W.keepIn K (.ref f__law_take) = true)
    (a1 : PySem.W.nsIn K mainGlobals "_law_draws" = some (some (.ref f__law_draws)))
    (l1 : K.lookup f__law_draws = some ⟨oc1, od1, .func (PySem.W.fnOf "_law_draws" "_law_draws" (defArgs s__law_draws) (defBody s__law_draws) (defScope s__law_draws) .none kV1 dc1 pm1 an1 cd1 ct1), sl1⟩)
    (c1 : PySem.W.codeIn K cd1 "_law_draws" = true)
    (k1 : PySem.W.keepIn K (.ref f__law_draws) = true)
    (a2 : PySem.W.nsIn K mainGlobals "_text_of" = some (some (.ref f__text_of)))
    (l2 : K.lookup f__text_of = some ⟨oc2, od2, .func (PySem.W.fnOf "_text_of" "_text_of" (defArgs s__text_of) (defBody s__text_of) (defScope s__text_of) .none kV2 dc2 pm2 an2 cd2 ct2), sl2⟩)
    (c2 : PySem.W.codeIn K cd2 "_text_of" = true)
    (k2 : PySem.W.keepIn K (.ref f__text_of) = true)
    (a3 : PySem.W.nsIn K mainGlobals "format_expression" = some (some (.ref f_format_expression)))
    (l3 : K.lookup f_format_expression = some ⟨oc3, od3, .func (PySem.W.fnOf "format_expression" "format_expression" (defArgs s_format_expression) (defBody s_format_expression) (defScope s_format_expression) .none kV3 dc3 pm3 an3 cd3 ct3), sl3⟩)
    (c3 : PySem.W.codeIn K cd3 "format_expression" = true)
    (k3 : PySem.W.keepIn K (.ref f_format_expression) = true)
    (a4 : PySem.W.nsIn K mainGlobals "_token_at" = some (some (.ref f__token_at)))
    (l4 : K.lookup f__token_at = some ⟨oc4, od4, .func (PySem.W.fnOf "_token_at" "_token_at" (defArgs s__token_at) (defBody s__token_at) (defScope s__token_at) .none kV4 dc4 pm4 an4 cd4 ct4), sl4⟩)
    (c4 : PySem.W.codeIn K cd4 "_token_at" = true)
    (k4 : PySem.W.keepIn K (.ref f__token_at) = true)
    (a5 : PySem.W.findIn K (.ref c_Reader) "advance" = some (some (.ref f_Reader_advance)))
    (i5 : PySem.W.isFn K (.ref f_Reader_advance) = true)
    (l5 : K.lookup f_Reader_advance = some ⟨oc5, od5, .func (PySem.W.fnOf "advance" "Reader.advance" (defArgs s_Reader_advance) (defBody s_Reader_advance) (defScope s_Reader_advance) .none kV5 dc5 pm5 an5 cd5 ct5), sl5⟩)
    (c5 : PySem.W.codeIn K cd5 "Reader.advance" = true)
    (k5 : PySem.W.keepIn K (.ref f_Reader_advance) = true)
    (a6 : PySem.W.findIn K (.ref c_Reader) "__init__" = some (some (.ref f_Reader_init)))
    (i6 : PySem.W.isFn K (.ref f_Reader_init) = true)
    (l6 : K.lookup f_Reader_init = some ⟨oc6, od6, .func (PySem.W.fnOf "__init__" "Reader.__init__" (defArgs s_Reader_init) (defBody s_Reader_init) (defScope s_Reader_init) .none kV6 dc6 pm6 an6 cd6 ct6), sl6⟩)
    (c6 : PySem.W.codeIn K cd6 "Reader.__init__" = true)
    (k6 : PySem.W.keepIn K (.ref f_Reader_init) = true)
    (a7 : PySem.W.findIn K (.ref c_Reader) "read_simple" = some (some (.ref f_Reader_read_simple)))
    (i7 : PySem.W.isFn K (.ref f_Reader_read_simple) = true)
    (l7 : K.lookup f_Reader_read_simple = some ⟨oc7, od7, .func (PySem.W.fnOf "read_simple" "Reader.read_simple" (defArgs s_Reader_read_simple) (defBody s_Reader_read_simple) (defScope s_Reader_read_simple) .none kV7 dc7 pm7 an7 cd7 ct7), sl7⟩)
    (c7 : PySem.W.codeIn K cd7 "Reader.read_simple" = true)
    (k7 : PySem.W.keepIn K (.ref f_Reader_read_simple) = true)
    (a8 : PySem.W.findIn K (.ref c_Reader) "read_star" = some (some (.ref f_Reader_read_star)))
    (i8 : PySem.W.isFn K (.ref f_Reader_read_star) = true)
    (l8 : K.lookup f_Reader_read_star = some ⟨oc8, od8, .func (PySem.W.fnOf "read_star" "Reader.read_star" (defArgs s_Reader_read_star) (defBody s_Reader_read_star) (defScope s_Reader_read_star) .none kV8 dc8 pm8 an8 cd8 ct8), sl8⟩)
    (c8 : PySem.W.codeIn K cd8 "Reader.read_star" = true)
    (k8 : PySem.W.keepIn K (.ref f_Reader_read_star) = true)
    (a9 : PySem.W.findIn K (.ref c_Reader) "read_join" = some (some (.ref f_Reader_read_join)))
    (i9 : PySem.W.isFn K (.ref f_Reader_read_join) = true)
    (l9 : K.lookup f_Reader_read_join = some ⟨oc9, od9, .func (PySem.W.fnOf "read_join" "Reader.read_join" (defArgs s_Reader_read_join) (defBody s_Reader_read_join) (defScope s_Reader_read_join) .none kV9 dc9 pm9 an9 cd9 ct9), sl9⟩)
    (c9 : PySem.W.codeIn K cd9 "Reader.read_join" = true)
    (k9 : PySem.W.keepIn K (.ref f_Reader_read_join) = true)
    (a10 : PySem.W.findIn K (.ref c_Reader) "read_either" = some (some (.ref f_Reader_read_either)))
    (i10 : PySem.W.isFn K (.ref f_Reader_read_either) = true)
    (l10 : K.lookup f_Reader_read_either = some ⟨oc10, od10, .func (PySem.W.fnOf "read_either" "Reader.read_either" (defArgs s_Reader_read_either) (defBody s_Reader_read_either) (defScope s_Reader_read_either) .none kV10 dc10 pm10 an10 cd10 ct10), sl10⟩)
    (c10 : PySem.W.codeIn K cd10 "Reader.read_either" = true)
    (k10 : PySem.W.keepIn K (.ref f_Reader_read_either) = true)
    (a11 : PySem.W.nsIn K mainGlobals "parse_expression" = some (some (.ref f_parse_expression)))
    (l11 : K.lookup f_parse_expression = some ⟨oc11, od11, .func (PySem.W.fnOf "parse_expression" "parse_expression" (defArgs s_parse_expression) (defBody s_parse_expression) (defScope s_parse_expression) .none kV11 dc11 pm11 an11 cd11 ct11), sl11⟩)
    (c11 : PySem.W.codeIn K cd11 "parse_expression" = true)
    (k11 : PySem.W.keepIn K (.ref f_parse_expression) = true)
    (a12 : PySem.W.nsIn K mainGlobals "_law_outcome" = some (some (.ref f__law_outcome)))
    (l12 : K.lookup f__law_outcome = some ⟨oc12, od12, .func (PySem.W.fnOf "_law_outcome" "_law_outcome" (defArgs s__law_outcome) (defBody s__law_outcome) (defScope s__law_outcome) .none kV12 dc12 pm12 an12 cd12 ct12), sl12⟩)
    (c12 : PySem.W.codeIn K cd12 "_law_outcome" = true)
    (k12 : PySem.W.keepIn K (.ref f__law_outcome) = true)
    (a13 : PySem.W.nsIn K mainGlobals "_law_expression" = some (some (.ref f__law_expression)))
    (l13 : K.lookup f__law_expression = some ⟨oc13, od13, .func (PySem.W.fnOf "_law_expression" "_law_expression" (defArgs s__law_expression) (defBody s__law_expression) (defScope s__law_expression) .none kV13 dc13 pm13 an13 cd13 ct13), sl13⟩)
    (c13 : PySem.W.codeIn K cd13 "_law_expression" = true)
    (k13 : PySem.W.keepIn K (.ref f__law_expression) = true)
    (a14 : PySem.W.nsIn K mainGlobals "_law_token" = some (some (.ref f__law_token)))
    (l14 : K.lookup f__law_token = some ⟨oc14, od14, .func (PySem.W.fnOf "_law_token" "_law_token" (defArgs s__law_token) (defBody s__law_token) (defScope s__law_token) .none kV14 dc14 pm14 an14 cd14 ct14), sl14⟩)
    (c14 : PySem.W.codeIn K cd14 "_law_token" = true)
    (k14 : PySem.W.keepIn K (.ref f__law_token) = true)
    (a15 : PySem.W.nsIn K mainGlobals "_law_fault" = some (some (.ref f__law_fault)))
    (l15 : K.lookup f__law_fault = some ⟨oc15, od15, .func (PySem.W.fnOf "_law_fault" "_law_fault" (defArgs s__law_fault) (defBody s__law_fault) (defScope s__law_fault) .none kV15 dc15 pm15 an15 cd15 ct15), sl15⟩)
    (c15 : PySem.W.codeIn K cd15 "_law_fault" = true)
    (k15 : PySem.W.keepIn K (.ref f__law_fault) = true)
    (a16 : PySem.W.nsIn K mainGlobals "law" = some (some (.ref f_law)))
    (l16 : K.lookup f_law = some ⟨oc16, od16, .func (PySem.W.fnOf "law" "law" (defArgs s_law) (defBody s_law) (defScope s_law) .none kV16 dc16 pm16 an16 cd16 ct16), sl16⟩)
    (c16 : PySem.W.codeIn K cd16 "law" = true)
    (k16 : PySem.W.keepIn K (.ref f_law) = true)
    (pg_Reader : PySem.W.plainGet K c_Reader Str.empty = true)
    (hd_Reader : PySem.W.hasDictIn K c_Reader = true)
    (po_Reader : PySem.W.plainOver K c_Reader = true)
    (sa_Reader : PySem.W.findIn K (.ref c_Reader) "__setattr__" = some (some (.builtin "object.__setattr__")))
    (mk_Reader : PySem.W.makesIn K c_Reader = true)
    (kc_Reader : PySem.W.keepIn K (.ref c_Reader) = true)
    (na_Reader_text : PySem.W.findIn K (.ref c_Reader) "text" = some none)
    (na_Reader_token : PySem.W.findIn K (.ref c_Reader) "token" = some none)
    (na_Reader_position : PySem.W.findIn K (.ref c_Reader) "position" = some none)
    (na_Reader_behind : PySem.W.findIn K (.ref c_Reader) "behind" = some none)
    (fC_ExpressionSyntaxError : PySem.W.nsIn K mainGlobals "ExpressionSyntaxError" = some (some (.ref c_ExpressionSyntaxError)))
    (fx_ExpressionSyntaxError : K.lookup c_ExpressionSyntaxError = some (PySem.excClassObj nm_ExpressionSyntaxError q_ExpressionSyntaxError c_ExpressionSyntaxError cN_ExpressionSyntaxError bs_ExpressionSyntaxError bm_ExpressionSyntaxError true sn_ExpressionSyntaxError sub_ExpressionSyntaxError ab_ExpressionSyntaxError col_ExpressionSyntaxError dd_ExpressionSyntaxError m0_ExpressionSyntaxError m1_ExpressionSyntaxError m2_ExpressionSyntaxError m3_ExpressionSyntaxError m5_ExpressionSyntaxError "ValueError.__new__"))
    (fr_ExpressionSyntaxError : PySem.HandSPX.refsVE bm_ExpressionSyntaxError = true)
    (fsa_ExpressionSyntaxError : PySem.W.findIn K (.ref c_ExpressionSyntaxError) "__setattr__" = some (some (.builtin "object.__setattr__")))
    (fga_ExpressionSyntaxError : PySem.W.findIn K (.ref c_ExpressionSyntaxError) "__getattribute__" = some (some (.builtin "BaseException.__getattribute__")))
    (fgg_ExpressionSyntaxError : PySem.W.findIn K (.ref c_ExpressionSyntaxError) "__getattr__" = some none)
    (fnf_ExpressionSyntaxError : PySem.W.findIn K (.ref c_ExpressionSyntaxError) "position" = some none)
    (fin_ExpressionSyntaxError : PySem.W.findIn K (.ref c_ExpressionSyntaxError) "__init__" = some (some (.ref fi_ExpressionSyntaxError)))
    (fti_ExpressionSyntaxError : PySem.W.typeIn K (.ref fi_ExpressionSyntaxError) = some (.type "function"))
    (fkc_ExpressionSyntaxError : PySem.W.keepIn K (.ref c_ExpressionSyntaxError) = true)
    (fex_ExpressionSyntaxError : PySem.W.subIn K (.ref c_ExpressionSyntaxError) (.type "BaseException") = some true)
    (fty_ExpressionSyntaxError : PySem.W.typeIn K (.ref c_ExpressionSyntaxError) = some (.type "type"))
    (fhd_ExpressionSyntaxError : PySem.W.hasDictIn K c_ExpressionSyntaxError = true)
    (fic_ExpressionSyntaxError : PySem.W.isClsIn K c_ExpressionSyntaxError = true)
    (s_ExpressionSyntaxError : PySem.W.subIn K (.ref c_ExpressionSyntaxError) (.ref c_ExpressionSyntaxError) = some true)
    (fve_ExpressionSyntaxError : PySem.W.subIn K (.ref c_ExpressionSyntaxError) (.type "ValueError") = some true)
    (fms_ExpressionSyntaxError : PySem.W.mroIn K c_ExpressionSyntaxError (.ref c_ExpressionSyntaxError) = some true)
    (fsu_ExpressionSyntaxError : PySem.W.ks_superIn K c_ExpressionSyntaxError c_ExpressionSyntaxError "__init__" = some (some (.builtin "ValueError.__init__")))
    (ftp_ExpressionSyntaxError : PySem.W.nsIn K PySem.cStatics "thirdparty.any" = some none)
    (fns_ExpressionSyntaxError : PySem.W.nsIn K mainGlobals "super" = some none)
    (fl1_ExpressionSyntaxError : K.lookup fi_ExpressionSyntaxError = some ⟨oc_ExpressionSyntaxError, od_ExpressionSyntaxError, .func (HqTe.eFn ql_ExpressionSyntaxError kV_ExpressionSyntaxError doc_ExpressionSyntaxError pm_ExpressionSyntaxError an_ExpressionSyntaxError (.ref cda_ExpressionSyntaxError) ct_ExpressionSyntaxError ccc_ExpressionSyntaxError), osl_ExpressionSyntaxError⟩)
    (fc1_ExpressionSyntaxError : PySem.W.codeIn K (.ref cda_ExpressionSyntaxError) ql_ExpressionSyntaxError = true)
    (fcd_ExpressionSyntaxError : K.lookup cda_ExpressionSyntaxError = some ⟨ccl_ExpressionSyntaxError, cdd_ExpressionSyntaxError, .fields vs_ExpressionSyntaxError, ccs_ExpressionSyntaxError⟩)
    (fvs_ExpressionSyntaxError : (vs_ExpressionSyntaxError[2]? : Option Value) = some (.str fl_ExpressionSyntaxError tf_ExpressionSyntaxError))
    (fcc_ExpressionSyntaxError : K.lookup ccc_ExpressionSyntaxError = some ⟨cl_ExpressionSyntaxError, cld_ExpressionSyntaxError, .cell (some (.ref c_ExpressionSyntaxError)), csl_ExpressionSyntaxError⟩)
    (fpf_ExpressionSyntaxError : HqTe.PrgOk l.prog fl_ExpressionSyntaxError)
    (z_int : PySem.W.nsIn K mainGlobals "int" = some none)
    (z_len : PySem.W.nsIn K mainGlobals "len" = some none)
    (z_list : PySem.W.nsIn K mainGlobals "list" = some none)
    (z_range : PySem.W.nsIn K mainGlobals "range" = some none)
    (z_str : PySem.W.nsIn K mainGlobals "str" = some none)
    (v_DIGITS : PySem.W.nsIn K mainGlobals "DIGITS" = some (some (.str "0123456789" t_DIGITS)))
    (v_EITHER : PySem.W.nsIn K mainGlobals "EITHER" = some (some (.int 0 t_EITHER)))
    (v_END : PySem.W.nsIn K mainGlobals "END" = some (some (.str "" t_END)))
    (v_JOIN : PySem.W.nsIn K mainGlobals "JOIN" = some (some (.int 1 t_JOIN)))
    (v_STAR : PySem.W.nsIn K mainGlobals "STAR" = some (some (.int 2 t_STAR)))
    : ∃ fd : FuncData, (∀ (s : Shared) (v : Value), BindsTo s fd ⟨[v], []⟩ [("script", v)]) ∧ ∀ base : Heap, K.In base → base.Ns mainGlobals mg → FnOk l.prog wo K mg base CX0 133 fa fd ["script"] (spLaw K) := by
  have e := hfa.symm.trans (PySem.W.mg_of X G a16)
  cases e
  let T : Txt K mg := {
    f__law_take := f__law_take, d__law_take := PySem.W.fnOf "_law_take" "_law_take" (defArgs s__law_take) (defBody s__law_take) (defScope s__law_take) .none kV0 dc0 pm0 an0 cd0 ct0,
    F__law_take := fun_mk l0 c0 k0,
    m__law_take := PySem.W.mg_of X G a0,
    b__law_take := (fun_mk (st := s__law_take) l0 c0 k0).binds (ps := ["draws", "limit"]) fun _ _ _ _ _ _ us hl => match us, hl with | [_, _], _ => rfl,
    f__law_draws := f__law_draws, d__law_draws := PySem.W.fnOf "_law_draws" "_law_draws" (defArgs s__law_draws) (defBody s__law_draws) (defScope s__law_draws) .none kV1 dc1 pm1 an1 cd1 ct1,
    F__law_draws := fun_mk l1 c1 k1,
    m__law_draws := PySem.W.mg_of X G a1,
    b__law_draws := (fun_mk (st := s__law_draws) l1 c1 k1).binds (ps := ["script", "count"]) fun _ _ _ _ _ _ us hl => match us, hl with | [_, _], _ => rfl,
    f__text_of := f__text_of, d__text_of := PySem.W.fnOf "_text_of" "_text_of" (defArgs s__text_of) (defBody s__text_of) (defScope s__text_of) .none kV2 dc2 pm2 an2 cd2 ct2,
    F__text_of := fun_mk l2 c2 k2,
    m__text_of := PySem.W.mg_of X G a2,
    b__text_of := (fun_mk (st := s__text_of) l2 c2 k2).binds (ps := ["expression", "strength"]) fun _ _ _ _ _ _ us hl => match us, hl with | [_, _], _ => rfl,
    f_format_expression := f_format_expression, d_format_expression := PySem.W.fnOf "format_expression" "format_expression" (defArgs s_format_expression) (defBody s_format_expression) (defScope s_format_expression) .none kV3 dc3 pm3 an3 cd3 ct3,
    F_format_expression := fun_mk l3 c3 k3,
    m_format_expression := PySem.W.mg_of X G a3,
    b_format_expression := (fun_mk (st := s_format_expression) l3 c3 k3).binds (ps := ["expression"]) fun _ _ _ _ _ _ us hl => match us, hl with | [_], _ => rfl,
    f__token_at := f__token_at, d__token_at := PySem.W.fnOf "_token_at" "_token_at" (defArgs s__token_at) (defBody s__token_at) (defScope s__token_at) .none kV4 dc4 pm4 an4 cd4 ct4,
    F__token_at := fun_mk l4 c4 k4,
    m__token_at := PySem.W.mg_of X G a4,
    b__token_at := (fun_mk (st := s__token_at) l4 c4 k4).binds (ps := ["text", "at"]) fun _ _ _ _ _ _ us hl => match us, hl with | [_, _], _ => rfl,
    f_Reader_advance := f_Reader_advance, d_Reader_advance := PySem.W.fnOf "advance" "Reader.advance" (defArgs s_Reader_advance) (defBody s_Reader_advance) (defScope s_Reader_advance) .none kV5 dc5 pm5 an5 cd5 ct5,
    F_Reader_advance := fun_mk l5 c5 k5,
    b_Reader_advance := (fun_mk (st := s_Reader_advance) l5 c5 k5).binds (ps := ["self"]) fun _ _ _ _ _ _ us hl => match us, hl with | [_], _ => rfl,
    f_Reader_init := f_Reader_init, d_Reader_init := PySem.W.fnOf "__init__" "Reader.__init__" (defArgs s_Reader_init) (defBody s_Reader_init) (defScope s_Reader_init) .none kV6 dc6 pm6 an6 cd6 ct6,
    F_Reader_init := fun_mk l6 c6 k6,
    b_Reader_init := (fun_mk (st := s_Reader_init) l6 c6 k6).binds (ps := ["self", "text"]) fun _ _ _ _ _ _ us hl => match us, hl with | [_, _], _ => rfl,
    f_Reader_read_simple := f_Reader_read_simple, d_Reader_read_simple := PySem.W.fnOf "read_simple" "Reader.read_simple" (defArgs s_Reader_read_simple) (defBody s_Reader_read_simple) (defScope s_Reader_read_simple) .none kV7 dc7 pm7 an7 cd7 ct7,
    F_Reader_read_simple := fun_mk l7 c7 k7,
    b_Reader_read_simple := (fun_mk (st := s_Reader_read_simple) l7 c7 k7).binds (ps := ["self"]) fun _ _ _ _ _ _ us hl => match us, hl with | [_], _ => rfl,
    f_Reader_read_star := f_Reader_read_star, d_Reader_read_star := PySem.W.fnOf "read_star" "Reader.read_star" (defArgs s_Reader_read_star) (defBody s_Reader_read_star) (defScope s_Reader_read_star) .none kV8 dc8 pm8 an8 cd8 ct8,
    F_Reader_read_star := fun_mk l8 c8 k8,
    b_Reader_read_star := (fun_mk (st := s_Reader_read_star) l8 c8 k8).binds (ps := ["self"]) fun _ _ _ _ _ _ us hl => match us, hl with | [_], _ => rfl,
    f_Reader_read_join := f_Reader_read_join, d_Reader_read_join := PySem.W.fnOf "read_join" "Reader.read_join" (defArgs s_Reader_read_join) (defBody s_Reader_read_join) (defScope s_Reader_read_join) .none kV9 dc9 pm9 an9 cd9 ct9,
    F_Reader_read_join := fun_mk l9 c9 k9,
    b_Reader_read_join := (fun_mk (st := s_Reader_read_join) l9 c9 k9).binds (ps := ["self"]) fun _ _ _ _ _ _ us hl => match us, hl with | [_], _ => rfl,
    f_Reader_read_either := f_Reader_read_either, d_Reader_read_either := PySem.W.fnOf "read_either" "Reader.read_either" (defArgs s_Reader_read_either) (defBody s_Reader_read_either) (defScope s_Reader_read_either) .none kV10 dc10 pm10 an10 cd10 ct10,
    F_Reader_read_either := fun_mk l10 c10 k10,
    b_Reader_read_either := (fun_mk (st := s_Reader_read_either) l10 c10 k10).binds (ps := ["self"]) fun _ _ _ _ _ _ us hl => match us, hl with | [_], _ => rfl,
    f_parse_expression := f_parse_expression, d_parse_expression := PySem.W.fnOf "parse_expression" "parse_expression" (defArgs s_parse_expression) (defBody s_parse_expression) (defScope s_parse_expression) .none kV11 dc11 pm11 an11 cd11 ct11,
    F_parse_expression := fun_mk l11 c11 k11,
    m_parse_expression := PySem.W.mg_of X G a11,
    b_parse_expression := (fun_mk (st := s_parse_expression) l11 c11 k11).binds (ps := ["text"]) fun _ _ _ _ _ _ us hl => match us, hl with | [_], _ => rfl,
    f__law_outcome := f__law_outcome, d__law_outcome := PySem.W.fnOf "_law_outcome" "_law_outcome" (defArgs s__law_outcome) (defBody s__law_outcome) (defScope s__law_outcome) .none kV12 dc12 pm12 an12 cd12 ct12,
    F__law_outcome := fun_mk l12 c12 k12,
    m__law_outcome := PySem.W.mg_of X G a12,
    b__law_outcome := (fun_mk (st := s__law_outcome) l12 c12 k12).binds (ps := ["text"]) fun _ _ _ _ _ _ us hl => match us, hl with | [_], _ => rfl,
    f__law_expression := f__law_expression, d__law_expression := PySem.W.fnOf "_law_expression" "_law_expression" (defArgs s__law_expression) (defBody s__law_expression) (defScope s__law_expression) .none kV13 dc13 pm13 an13 cd13 ct13,
    F__law_expression := fun_mk l13 c13 k13,
    m__law_expression := PySem.W.mg_of X G a13,
    b__law_expression := (fun_mk (st := s__law_expression) l13 c13 k13).binds (ps := ["draws", "letters", "depth"]) fun _ _ _ _ _ _ us hl => match us, hl with | [_, _, _], _ => rfl,
    f__law_token := f__law_token, d__law_token := PySem.W.fnOf "_law_token" "_law_token" (defArgs s__law_token) (defBody s__law_token) (defScope s__law_token) .none kV14 dc14 pm14 an14 cd14 ct14,
    F__law_token := fun_mk l14 c14 k14,
    m__law_token := PySem.W.mg_of X G a14,
    b__law_token := (fun_mk (st := s__law_token) l14 c14 k14).binds (ps := ["text", "at"]) fun _ _ _ _ _ _ us hl => match us, hl with | [_, _], _ => rfl,
    f__law_fault := f__law_fault, d__law_fault := PySem.W.fnOf "_law_fault" "_law_fault" (defArgs s__law_fault) (defBody s__law_fault) (defScope s__law_fault) .none kV15 dc15 pm15 an15 cd15 ct15,
    F__law_fault := fun_mk l15 c15 k15,
    m__law_fault := PySem.W.mg_of X G a15,
    b__law_fault := (fun_mk (st := s__law_fault) l15 c15 k15).binds (ps := ["text"]) fun _ _ _ _ _ _ us hl => match us, hl with | [_], _ => rfl,
    f_law := fa, d_law := PySem.W.fnOf "law" "law" (defArgs s_law) (defBody s_law) (defScope s_law) .none kV16 dc16 pm16 an16 cd16 ct16,
    F_law := fun_mk l16 c16 k16,
    m_law := PySem.W.mg_of X G a16,
    b_law := (fun_mk (st := s_law) l16 c16 k16).binds (ps := ["script"]) fun _ _ _ _ _ _ us hl => match us, hl with | [_], _ => rfl,
    c_Reader := c_Reader, mc_Reader := PySem.W.mg_of X G aC_Reader, mk_Reader := mk_Reader, in_Reader := a6, if_Reader := i6, kc_Reader := kc_Reader, cl_Reader := ⟨pg_Reader, hd_Reader, po_Reader, sa_Reader⟩,
    na_Reader_text := na_Reader_text,
    na_Reader_token := na_Reader_token,
    na_Reader_position := na_Reader_position,
    na_Reader_behind := na_Reader_behind,
    c_ExpressionSyntaxError := c_ExpressionSyntaxError, fi_ExpressionSyntaxError := fi_ExpressionSyntaxError, fl_ExpressionSyntaxError := fl_ExpressionSyntaxError, mc_ExpressionSyntaxError := PySem.W.mg_of X G fC_ExpressionSyntaxError, et_ExpressionSyntaxError := { cls := ⟨_, _, _, _, _, _, _, _, _, _, _, _, _, _, _, fx_ExpressionSyntaxError, fr_ExpressionSyntaxError⟩, sa := fsa_ExpressionSyntaxError, ga := fga_ExpressionSyntaxError, gg := fgg_ExpressionSyntaxError, noF := fnf_ExpressionSyntaxError, ini := fin_ExpressionSyntaxError, tI := fti_ExpressionSyntaxError, kC := fkc_ExpressionSyntaxError, exC := fex_ExpressionSyntaxError, tyC := fty_ExpressionSyntaxError, hdC := fhd_ExpressionSyntaxError, te := exm_self fex_ExpressionSyntaxError fic_ExpressionSyntaxError fty_ExpressionSyntaxError s_ExpressionSyntaxError, veC := fve_ExpressionSyntaxError, selfC := fms_ExpressionSyntaxError, sup := fsu_ExpressionSyntaxError, tp := ftp_ExpressionSyntaxError, msup := PySem.W.mg_none_of X G fns_ExpressionSyntaxError, fn := ⟨_, _, _, _, _, _, _, _, _, _, _, fl1_ExpressionSyntaxError, fc1_ExpressionSyntaxError, ⟨_, _, _, _, _, fcd_ExpressionSyntaxError, fvs_ExpressionSyntaxError⟩, ⟨_, _, _, fcc_ExpressionSyntaxError⟩⟩ },
    me_Reader_advance := ⟨a5, i5, k5⟩,
    me_Reader_read_simple := ⟨a7, i7, k7⟩,
    me_Reader_read_star := ⟨a8, i8, k8⟩,
    me_Reader_read_join := ⟨a9, i9, k9⟩,
    me_Reader_read_either := ⟨a10, i10, k10⟩,
    z_int := PySem.W.mg_none_of X G z_int,
    z_len := PySem.W.mg_none_of X G z_len,
    z_list := PySem.W.mg_none_of X G z_list,
    z_range := PySem.W.mg_none_of X G z_range,
    z_str := PySem.W.mg_none_of X G z_str,
    t_DIGITS := t_DIGITS, v_DIGITS := PySem.W.mg_of X G v_DIGITS,
    t_EITHER := t_EITHER, v_EITHER := PySem.W.mg_of X G v_EITHER,
    t_END := t_END, v_END := PySem.W.mg_of X G v_END,
    t_JOIN := t_JOIN, v_JOIN := PySem.W.mg_of X G v_JOIN,
    t_STAR := t_STAR, v_STAR := PySem.W.mg_of X G v_STAR }
  exact ⟨_, fun s v => .of_eq rfl, fun base _ _ => ok_law T fpf_ExpressionSyntaxError⟩
theorem walk {l : PySem.W.OpenLaw} {q : Program} {loose : List Str} {XP : (Str → Option Value) → Heap → Prop} {YP : World → Heap → Prop} {d : DefRec} {K : Params → PySem.W.Frag} (hn : l.most = some 63) (hdf : d.params.defaults = [])
    (hY : ∀ (w : World) (h : Heap), YP w h → (K w.params).In h)
    (F : ∀ (w : World) (mg : Str → Option Value) (fa : Addr) (h : Heap), (K w.params).In h → h.Ns mainGlobals mg → mg d.name = some (.ref fa) →
      ∃ fd : FuncData, (∀ (s : Shared) (u : Value), BindsTo s fd ⟨[u], []⟩ [("script", u)]) ∧ ∀ base : Heap, (K w.params).In base → base.Ns mainGlobals mg → FnOk l.prog w (K w.params) mg base CX0 133 fa fd ["script"] (spLaw (K w.params))) :
    PySem.W.WalkO q loose XP YP l.row.toRowW d [] (fun f vs => PySem.call f vs) :=
  L2.walk_of (n := 63) (k := 133) (x := "script") (CX := fun _ => CX0) (sp := fun w => spLaw (K w.params)) hn (by decide) hdf ⟨rfl, by decide, by decide⟩ hY F (fun _ _ a ns hl _ hS => ⟨a, ns, rfl, hS, hl, fun _ => rfl⟩) fun _ _ _ _ _ z => z
end My
open PySem PySem.W PyProof.Rows in
set_option maxRecDepth 100000 in
set_option maxHeartbeats 0 in
theorem PySem.Challenge.cw_placewords_k19_expression_text_refused_holds : PySem.Challenge.rw_placewords_k19_expression_text_refused.Holds := by
  w_on; o_law; k_head; (case hw => w_witness2)
  k_fill
  refine My.walk (l := PySem.Challenge.rw_placewords_k19_expression_text_refused) rfl rfl (fun w h Y => PySem.W.kIn_of Y) ?F
  case F =>
    intro w mg fa h KX G hmg
    refine' My.all_mk KX G hmg ?aC_Reader ?a0 ?l0 ?c0 ?k0 ?a1 ?l1 ?c1 ?k1 ?a2 ?l2 ?c2 ?k2 ?a3 ?l3 ?c3 ?k3 ?a4 ?l4 ?c4 ?k4 ?a5 ?i5 ?l5 ?c5 ?k5 ?a6 ?i6 ?l6 ?c6 ?k6 ?a7 ?i7 ?l7 ?c7 ?k7 ?a8 ?i8 ?l8 ?c8 ?k8 ?a9 ?i9 ?l9 ?c9 ?k9 ?a10 ?i10 ?l10 ?c10 ?k10 ?a11 ?l11 ?c11 ?k11 ?a12 ?l12 ?c12 ?k12 ?a13 ?l13 ?c13 ?k13 ?a14 ?l14 ?c14 ?k14 ?a15 ?l15 ?c15 ?k15 ?a16 ?l16 ?c16 ?k16 ?pg_Reader ?hd_Reader ?po_Reader ?sa_Reader ?mk_Reader ?kc_Reader ?na_Reader_text ?na_Reader_token ?na_Reader_position ?na_Reader_behind ?fC_ExpressionSyntaxError ?fx_ExpressionSyntaxError ?fr_ExpressionSyntaxError ?fsa_ExpressionSyntaxError ?fga_ExpressionSyntaxError ?fgg_ExpressionSyntaxError ?fnf_ExpressionSyntaxError ?fin_ExpressionSyntaxError ?fti_ExpressionSyntaxError ?fkc_ExpressionSyntaxError ?fex_ExpressionSyntaxError ?fty_ExpressionSyntaxError ?fhd_ExpressionSyntaxError ?fic_ExpressionSyntaxError ?s_ExpressionSyntaxError ?fve_ExpressionSyntaxError ?fms_ExpressionSyntaxError ?fsu_ExpressionSyntaxError ?ftp_ExpressionSyntaxError ?fns_ExpressionSyntaxError ?fl1_ExpressionSyntaxError ?fc1_ExpressionSyntaxError ?fcd_ExpressionSyntaxError ?fvs_ExpressionSyntaxError ?fcc_ExpressionSyntaxError ?fpf_ExpressionSyntaxError ?z_int ?z_len ?z_list ?z_range ?z_str ?v_DIGITS ?v_EITHER ?v_END ?v_JOIN ?v_STAR
    (case aC_Reader => k_is)
    (case a0 => k_is)
    (case l0 => k_is)
    (case c0 => k_is)
    (case k0 => k_is)
    (case a1 => k_is)
    (case l1 => k_is)
    (case c1 => k_is)
    (case k1 => k_is)
    (case a2 => k_is)
    (case l2 => k_is)
    (case c2 => k_is)
    (case k2 => k_is)
    (case a3 => k_is)
    (case l3 => k_is)
    (case c3 => k_is)
    (case k3 => k_is)
    (case a4 => k_is)
    (case l4 => k_is)
    (case c4 => k_is)
    (case k4 => k_is)
    (case a5 => k_is)
    (case i5 => k_is)
    (case l5 => k_is)
    (case c5 => k_is)
    (case k5 => k_is)
    (case a6 => k_is)
    (case i6 => k_is)
    (case l6 => k_is)
    (case c6 => k_is)
    (case k6 => k_is)
    (case a7 => k_is)
    (case i7 => k_is)
    (case l7 => k_is)
    (case c7 => k_is)
    (case k7 => k_is)
    (case a8 => k_is)
    (case i8 => k_is)
    (case l8 => k_is)
    (case c8 => k_is)
    (case k8 => k_is)
    (case a9 => k_is)
    (case i9 => k_is)
    (case l9 => k_is)
    (case c9 => k_is)
    (case k9 => k_is)
    (case a10 => k_is)
    (case i10 => k_is)
    (case l10 => k_is)
    (case c10 => k_is)
    (case k10 => k_is)
    (case a11 => k_is)
    (case l11 => k_is)
    (case c11 => k_is)
    (case k11 => k_is)
    (case a12 => k_is)
    (case l12 => k_is)
    (case c12 => k_is)
    (case k12 => k_is)
    (case a13 => k_is)
    (case l13 => k_is)
    (case c13 => k_is)
    (case k13 => k_is)
    (case a14 => k_is)
    (case l14 => k_is)
    (case c14 => k_is)
    (case k14 => k_is)
    (case a15 => k_is)
    (case l15 => k_is)
    (case c15 => k_is)
    (case k15 => k_is)
    (case a16 => k_is)
    (case l16 => k_is)
    (case c16 => k_is)
    (case k16 => k_is)
    (case pg_Reader => k_is)
    (case hd_Reader => k_is)
    (case po_Reader => k_is)
    (case sa_Reader => k_is)
    (case mk_Reader => k_is)
    (case kc_Reader => k_is)
    (case na_Reader_text => k_is)
    (case na_Reader_token => k_is)
    (case na_Reader_position => k_is)
    (case na_Reader_behind => k_is)
    (case fC_ExpressionSyntaxError => k_is)
    (case fx_ExpressionSyntaxError => k_is)
    (case fr_ExpressionSyntaxError => decide +kernel)
    (case fsa_ExpressionSyntaxError => k_is)
    (case fga_ExpressionSyntaxError => k_is)
    (case fgg_ExpressionSyntaxError => k_is)
    (case fnf_ExpressionSyntaxError => k_is)
    (case fin_ExpressionSyntaxError => k_is)
    (case fti_ExpressionSyntaxError => k_is)
    (case fkc_ExpressionSyntaxError => k_is)
    (case fex_ExpressionSyntaxError => k_is)
    (case fty_ExpressionSyntaxError => k_is)
    (case fhd_ExpressionSyntaxError => k_is)
    (case fic_ExpressionSyntaxError => k_is)
    (case s_ExpressionSyntaxError => first | rfl | k_is)
    (case fve_ExpressionSyntaxError => k_is)
    (case fms_ExpressionSyntaxError => k_is)
    (case fsu_ExpressionSyntaxError => first | k_is | ks_is)
    (case ftp_ExpressionSyntaxError => k_is)
    (case fns_ExpressionSyntaxError => k_is)
    (case fl1_ExpressionSyntaxError => k_is)
    (case fc1_ExpressionSyntaxError => k_is)
    (case fcd_ExpressionSyntaxError => k_is)
    (case fvs_ExpressionSyntaxError => rfl)
    (case fcc_ExpressionSyntaxError => k_is)
    (case fpf_ExpressionSyntaxError => exact ⟨by first | rfl | decide +kernel, by first | rfl | decide +kernel⟩)
    (case z_int => k_is)
    (case z_len => k_is)
    (case z_list => k_is)
    (case z_range => k_is)
    (case z_str => k_is)
    (case v_DIGITS => k_is)
    (case v_EITHER => k_is)
    (case v_END => k_is)
    (case v_JOIN => k_is)
    (case v_STAR => k_is)
