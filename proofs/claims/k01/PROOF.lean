import PyProof.Rows.All
import Wide.All
import OpenK.AllK
import Wide.FinOn
import HandS.ForMost
import HandS.ForExc
import HandS.Evl
import HandS.Zip
import HandS.TupAny
import HandS.SetFor
import HandS.Conv
import HandS.IsInst
import HandS.SortInts
import HandS.Strs
import HandS.RevRange
import PyProof.SeqIndex
import HandS.Deep
import KE.KDictDisplayH
import KE.SortData
import HandS.Style
import KE.GoesEnum
import HandS.Walk
import HandS.Star
import KE.DataMinMax
import HandS.DictComp
import HandS.TupMul
import KE.KUnpack
import HandS.TryOnly
import HandS.Gcd
import HandS.SortKw
import HandS.Rev
import HandS.DictTup
import KE.KDictList
import KE.KDictWalk
import KE.GoesZip
import KE.GoesMore
import KE.KMathGC
import HandS.ExcIs
import HandS.More
import PySem.Challenge.RW_placewords_k01_alphabets
set_option Elab.async false
set_option linter.all false
set_option maxRecDepth 100000
namespace Hq
open PySem L2
abbrev Ex := Evl.Ex
structure MP where
  p : Hp → V → Prop
  mono : ∀ {F F' : Hp} {v : V}, Ex F F' → p F v → p F' v
structure MO where
  p : Hp → HO → Prop
  mono : ∀ {F F' : Hp} {o : HO}, Ex F F' → p F o → p F' o
  nt : ∀ {F : Hp} {o : HO}, p F o → ∀ xs, o ≠ .tup xs
abbrev Ms := List (Addr × MO)
abbrev Gm := List (Option MP)
def keys (M : Ms) : List Addr := M.map (·.1)
structure Wd (F : Hp) (M : Ms) (H : Hp) : Prop where
  ex : Ex F H
  nd : (keys M).Nodup
  own : ∀ q ∈ M, F q.1 = none ∧ ∃ o, H q.1 = some o ∧ q.2.p F o
structure Gr (ks : List Addr) (F H F' H' : Hp) : Prop where
  ex : Ex F F'
  keep : ∀ a o, a ∉ ks → H a = some o → H' a = some o
  off : ∀ a, F a = none → H a ≠ none → (∀ xs, H a ≠ some (.tup xs)) → F' a = none
  stay : ∀ a, H a ≠ none → H' a ≠ none
  nott : ∀ a, H a ≠ none → (∀ xs, H a ≠ some (.tup xs)) → ∀ xs, H' a ≠ some (.tup xs)
structure Ent where
  F : Hp
  H : Hp
  ks : List Addr
structure Pt (E : Ent) (F : Hp) (M : Ms) (H : Hp) : Prop where
  gr : Gr E.ks E.F E.H F H
  wd : Wd F M H
  fr : ∀ q ∈ M, q.1 ∈ E.ks ∨ E.H q.1 = none
theorem Gr.refl {ks F H} : Gr ks F H F H := ⟨Evl.Ex.refl _, fun _ _ _ h => h, fun _ h _ _ => h, fun _ h => h, fun _ _ h => h⟩
theorem Pt.start {F M H} (w : Wd F M H) : Pt ⟨F, H, keys M⟩ F M H := ⟨Gr.refl, w, fun q hq => .inl (List.mem_map_of_mem hq)⟩
theorem Pt.enter {E F M H} (h : Pt E F M H) : Pt ⟨F, H, keys M⟩ F M H := Pt.start h.wd
theorem Pt.back {E F M H F' M' H'} (h : Pt E F M H) (g : Pt ⟨F, H, keys M⟩ F' M' H') : Pt E F' M' H' := by
  have notin : ∀ a o, a ∉ E.ks → E.H a = some o → a ∉ keys M := by
    intro a o h1 h2 h3
    obtain ⟨q, hq, rfl⟩ := List.mem_map.mp h3
    rcases h.fr q hq with h4 | h4
    · exact h1 h4
    · rw [h4] at h2; cases h2
  refine ⟨⟨h.gr.ex.trans g.gr.ex, fun a o h1 h2 => ?_, fun a h1 h2 h3 => ?_, fun a h1 => ?_, fun a h1 h2 => ?_⟩, g.wd, fun q hq => ?_⟩
  · exact g.gr.keep a o (notin a o h1 h2) (h.gr.keep a o h1 h2)
  · exact g.gr.off a (h.gr.off a h1 h2 h3) (h.gr.stay a h2) (h.gr.nott a h2 h3)
  · exact g.gr.stay a (h.gr.stay a h1)
  · exact g.gr.nott a (h.gr.stay a h1) (h.gr.nott a h1 h2)
  · rcases g.fr q hq with h1 | h1
    · obtain ⟨r, hr, e⟩ := List.mem_map.mp h1
      rw [← e]
      exact h.fr r hr
    · right
      refine Classical.byContradiction fun h2 => ?_
      exact h.gr.stay _ h2 h1
structure Le (E' E : Ent) : Prop where
  to : ∀ F M H, Pt E' F M H → Pt E F M H
  new : ∀ a, E'.H a = none → E.H a = none
theorem Pt.le {E F M H} (h : Pt E F M H) : Le ⟨F, H, keys M⟩ E := ⟨fun _ _ _ g => h.back g, fun a e => Classical.byContradiction fun n => h.gr.stay a n e⟩
theorem Le.refl {E : Ent} : Le E E := ⟨fun _ _ _ h => h, fun _ h => h⟩
theorem Le.trans {E1 E2 E3 : Ent} (a : Le E1 E2) (b : Le E2 E3) : Le E1 E3 := ⟨fun _ _ _ h => b.to _ _ _ (a.to _ _ _ h), fun x h => b.new x (a.new x h)⟩
def EnvOk (F : Hp) (σ : St) (Γ : Gm) : Prop := Paired (fun (s : Option V) (g : Option MP) => ∀ P, g = some P → ∃ v, s = some v ∧ P.p F v) σ Γ
theorem EnvOk.mono {F F' σ Γ} (e : Ex F F') (h : EnvOk F σ Γ) : EnvOk F' σ Γ :=
  Paired.mapP h fun _ _ k P hP => let ⟨v, a, b⟩ := k P hP; ⟨v, a, P.mono e b⟩
theorem paired_get {α β : Type} {R : α → β → Prop} : ∀ {xs : List α} {ys : List β} {i : Nat} {y : β}, Paired R xs ys → ys[i]? = some y → ∃ x, xs[i]? = some x ∧ R x y
  | _, _, _, _, .nil, h => by simp at h
  | _, _, 0, _, .cons a _, h => by
    have e := Option.some.inj h
    subst e
    exact ⟨_, rfl, a⟩
  | _, _, i + 1, y, .cons _ t, h => paired_get (i := i) t h
theorem paired_get' {α β : Type} {R : α → β → Prop} : ∀ {xs : List α} {ys : List β} {i : Nat} {x : α}, Paired R xs ys → xs[i]? = some x → ∃ y, ys[i]? = some y ∧ R x y
  | _, _, _, _, .nil, h => by simp at h
  | _, _, 0, _, .cons a _, h => by
    have e := Option.some.inj h
    subst e
    exact ⟨_, rfl, a⟩
  | _, _, i + 1, y, .cons _ t, h => paired_get' (i := i) t h
theorem paired_set {α β : Type} {R : α → β → Prop} {x : α} {y : β} (r : R x y) : ∀ {xs : List α} {ys : List β} (i : Nat), Paired R xs ys → Paired R (xs.set i x) (ys.set i y)
  | _, _, _, .nil => .nil
  | _, _, 0, .cons _ t => .cons r t
  | _, _, i + 1, .cons a t => .cons a (paired_set r i t)
theorem paired_len {α β : Type} {R : α → β → Prop} : ∀ {xs : List α} {ys : List β}, Paired R xs ys → xs.length = ys.length
  | _, _, .nil => rfl
  | _, _, .cons _ t => by rw [List.length_cons, List.length_cons, paired_len t]
theorem paired_app {α β : Type} {R : α → β → Prop} : ∀ {xs xs' : List α} {ys ys' : List β}, Paired R xs ys → Paired R xs' ys' → Paired R (xs ++ xs') (ys ++ ys')
  | _, _, _, _, .nil, h => h
  | _, _, _, _, .cons a t, h => .cons a (paired_app t h)
theorem EnvOk.set {F σ} {Γ : Gm} {P : MP} {v : V} (i : Nat) (h : EnvOk F σ Γ) (hv : P.p F v) : EnvOk F (σ.set i (some v)) (Γ.set i (some P)) :=
  paired_set (fun Q hQ => by cases hQ; exact ⟨v, rfl, hv⟩) i h
theorem EnvOk.forget {F σ} {Γ : Gm} (i : Nat) (h : EnvOk F σ Γ) : EnvOk F (σ.set i none) (Γ.set i none) := paired_set (fun Q hQ => by cases hQ) i h
theorem EnvOk.get {F σ} {Γ : Gm} {i : Nat} {P : MP} (h : EnvOk F σ Γ) (e : Γ[i]? = some (some P)) : ∃ v, σ[i]? = some (some v) ∧ P.p F v := by
  obtain ⟨s, hs, k⟩ := paired_get h e
  obtain ⟨v, rfl, hv⟩ := k P rfl
  exact ⟨v, hs, hv⟩
def At (E : Ent) (Γ : Gm) (M : Ms) (σ : St) (H : Hp) : Prop := ∃ F, Pt E F M H ∧ EnvOk F σ Γ
def Nx (E : Ent) (Γ : Gm) (M : Ms) (f : St → Hp → Prop) : Prop := ∀ σ H, At E Γ M σ H → f σ H
def Rt (E : Ent) (M : Ms) (P : MP) (f : VK) : Prop := ∀ v F H, Pt E F M H → P.p F v → f v H
theorem At.le {E E' Γ M σ H} (l : Le E' E) (h : At E' Γ M σ H) : At E Γ M σ H := let ⟨F, a, b⟩ := h; ⟨F, l.to _ _ _ a, b⟩
theorem Nx.le {E E' Γ M f} (l : Le E' E) (h : Nx E Γ M f) : Nx E' Γ M f := fun σ H a => h σ H (a.le l)
theorem Rt.le {E E' M P f} (l : Le E' E) (h : Rt E M P f) : Rt E' M P f := fun v F H a b => h v F H (l.to _ _ _ a) b
def Ev (te : TE) (Γ : Gm) (M : Ms) (P : MP) (M' : Ms) : Prop := ∀ E F σ H, Pt E F M H → EnvOk F σ Γ → ∀ Q : VK, (∀ v F' H', Ex F F' → Pt E F' M' H' → P.p F' v → Q v H') → te σ H Q
def EvT (t : TT) (Γ : Gm) (M : Ms) (B : Bool → Prop) (M' : Ms) : Prop := ∀ E F σ H, Pt E F M H → EnvOk F σ Γ → ∀ Q : Bool → Hp → Prop, (∀ b F' H', Ex F F' → Pt E F' M' H' → B b → Q b H') → t σ H Q
/-- arguments: their predicates -/
def Ps (F : Hp) (vs : List V) (ps : List MP) : Prop := Paired (fun (v : V) (P : MP) => P.p F v) vs ps
theorem Ps.mono {F F' vs ps} (e : Ex F F') (h : Ps F vs ps) : Ps F' vs ps := Paired.mapP h fun _ P k => P.mono e k
def EvA (ta : TA) (Γ : Gm) (M : Ms) (ps : List MP) (M' : Ms) : Prop := ∀ E F σ H, Pt E F M H → EnvOk F σ Γ → ∀ Q : List V → Hp → Prop, (∀ vs F' H', Ex F F' → Pt E F' M' H' → Ps F' vs ps → Q vs H') → ta σ H Q
def MP.le (P P' : MP) : Prop := ∀ F v, P.p F v → P'.p F v
theorem Ev.weak {te Γ M P P' M'} (h : Ev te Γ M P M') (l : P.le P') : Ev te Γ M P' M' := fun E F σ H a b Q k => h E F σ H a b Q fun v F' H' e p q => k v F' H' e p (l _ _ q)
theorem EvT.is {t Γ M M'} {b b' : Bool} (h : EvT t Γ M (· = b) M') (e : b = b') : EvT t Γ M (· = b') M' := by rw [← e]; exact h
/-! ### data -/
mutual
theorem Dp.mono {K : PySem.W.Frag} {F F' : Hp} (e : Ex F F') : ∀ {v d}, Dp K F v d → Dp K F' v d
  | _, _, .non => .non
  | _, _, .bl b => .bl b
  | _, _, .int i => .int i
  | _, _, .str x => .str x
  | _, _, .lst h a => .lst (Evl.ex_l e h) (DpAll.mono e a)
  | _, _, .tup h a => .tup (Evl.ex_t e h) (DpAll.mono e a)
theorem DpAll.mono {K : PySem.W.Frag} {F F' : Hp} (e : Ex F F') : ∀ {vs ds}, DpAll K F vs ds → DpAll K F' vs ds
  | _, _, .nil => .nil
  | _, _, .cons a t => .cons (Dp.mono e a) (DpAll.mono e t)
end
def D (K : PySem.W.Frag) (d : PyData) : MP := ⟨fun F v => Dp K F v d, fun e h => Dp.mono e h⟩
theorem dp_int {K F v i} (h : Dp K F v (.int i)) : v = .int i := by cases h; rfl
theorem dp_bl {K F v b} (h : Dp K F v (.bool b)) : v = .bl b := by cases h; rfl
theorem dp_non {K F v} (h : Dp K F v .none) : v = .non := by cases h; rfl
theorem dp_lst {K F v ds} (h : Dp K F v (.list ds)) : ∃ a xs, v = .ref a ∧ SqL K F a xs ∧ DpAll K F xs ds := by cases h with | lst a b => exact ⟨_, _, rfl, a, b⟩
theorem dp_tup {K F v ds} (h : Dp K F v (.tuple ds)) : ∃ a xs, v = .ref a ∧ SqT K F a xs ∧ DpAll K F xs ds := by cases h with | tup a b => exact ⟨_, _, rfl, a, b⟩
theorem all_ps {K F} : ∀ {vs ds}, DpAll K F vs ds → Ps F vs (ds.map (D K))
  | _, _, .nil => .nil
  | _, _, .cons a t => .cons a (all_ps t)
theorem ps_all {K F} : ∀ {ds : List PyData} {vs}, Ps F vs (ds.map (D K)) → DpAll K F vs ds
  | [], _, h => by cases h; exact .nil
  | d :: ds, _, h => by cases h with | cons a t => exact .cons a (ps_all t)
/-- a list, a tuple that stands, of predicates -/
def PLi (K : PySem.W.Frag) (ps : List MP) : MP := ⟨fun F v => ∃ a vs, v = .ref a ∧ SqL K F a vs ∧ Ps F vs ps, fun e ⟨a, vs, h, s, q⟩ => ⟨a, vs, h, Evl.ex_l e s, q.mono e⟩⟩
def PTu (K : PySem.W.Frag) (ps : List MP) : MP := ⟨fun F v => ∃ a vs, v = .ref a ∧ SqT K F a vs ∧ Ps F vs ps, fun e ⟨a, vs, h, s, q⟩ => ⟨a, vs, h, Evl.ex_t e s, q.mono e⟩⟩
theorem D_PLi {K ds} : MP.le (D K (.list ds)) (PLi K (ds.map (D K))) := fun F v h => let ⟨a, xs, e, s, q⟩ := dp_lst h; ⟨a, xs, e, s, all_ps q⟩
theorem D_PTu {K ds} : MP.le (D K (.tuple ds)) (PTu K (ds.map (D K))) := fun F v h => let ⟨a, xs, e, s, q⟩ := dp_tup h; ⟨a, xs, e, s, all_ps q⟩
theorem PLi_D {K ds} : MP.le (PLi K (ds.map (D K))) (D K (.list ds)) := fun F v ⟨a, xs, e, s, q⟩ => by subst e; exact .lst s (ps_all q)
theorem PTu_D {K ds} : MP.le (PTu K (ds.map (D K))) (D K (.tuple ds)) := fun F v ⟨a, xs, e, s, q⟩ => by subst e; exact .tup s (ps_all q)
/-- some -/
def PEx {α : Type} (P : α → MP) : MP := ⟨fun F v => ∃ x, (P x).p F v, fun e ⟨x, h⟩ => ⟨x, (P x).mono e h⟩⟩
/-- with a fact -/
def PAn (φ : Prop) (P : MP) : MP := ⟨fun F v => φ ∧ P.p F v, fun e h => ⟨h.1, P.mono e h.2⟩⟩
def Own (q : Addr) : MP := ⟨fun _ v => v = .ref q, fun _ h => h⟩
/-- an own list of items -/
def ML (ps : List MP) : MO := ⟨fun F o => ∃ vs, o = .lst vs ∧ Ps F vs ps, fun e ⟨vs, h, q⟩ => ⟨vs, h, q.mono e⟩, fun ⟨vs, h, _⟩ xs z => by rw [h] at z; cases z⟩
def MX {α : Type} (P : α → MO) : MO := ⟨fun F v => ∃ x, (P x).p F v, fun e ⟨x, h⟩ => ⟨x, (P x).mono e h⟩, fun ⟨x, h⟩ => (P x).nt h⟩
def MA (φ : Prop) (P : MO) : MO := ⟨fun F v => φ ∧ P.p F v, fun e h => ⟨h.1, P.mono e h.2⟩, fun h => P.nt h.2⟩
end Hq
namespace Hq
open PySem L2
/-! ### steps of a point -/
theorem keys_set {M : Ms} {j : Nat} {q : Addr} {O O' : MO} : M[j]? = some (q, O) → keys (M.set j (q, O')) = keys M := by
  induction M generalizing j with
  | nil => intro h; simp at h
  | cons m M ih =>
    intro h
    cases j with
    | zero =>
      have e : m = (q, O) := Option.some.inj h
      subst e
      rfl
    | succ j =>
      have h' : M[j]? = some (q, O) := h
      show m.1 :: keys (M.set j (q, O')) = m.1 :: keys M
      rw [ih h']
theorem mem_set_ne {M : Ms} {j : Nat} {q : Addr} {O O' : MO} (nd : (keys M).Nodup) : M[j]? = some (q, O) → ∀ r ∈ M.set j (q, O'), r = (q, O') ∨ (r ∈ M ∧ r.1 ≠ q) := by
  induction M generalizing j with
  | nil => intro h; simp at h
  | cons m M ih =>
    intro h r hr
    have nd' := List.nodup_cons.mp (show (m.1 :: keys M).Nodup from nd)
    cases j with
    | zero =>
      have e : m = (q, O) := Option.some.inj h
      subst e
      have hr' : r ∈ (q, O') :: M := hr
      rcases List.mem_cons.mp hr' with e | hm
      · exact .inl e
      · exact .inr ⟨List.mem_cons_of_mem _ hm, fun e => nd'.1 (by rw [← e]; exact List.mem_map_of_mem (f := (·.1)) hm)⟩
    | succ j =>
      have h' : M[j]? = some (q, O) := h
      have hr' : r ∈ m :: M.set j (q, O') := hr
      have hq : q ∈ keys M := List.mem_map_of_mem (f := (·.1)) (List.mem_of_getElem? h')
      rcases List.mem_cons.mp hr' with e | hm
      · subst e
        exact .inr ⟨List.mem_cons_self, fun e => nd'.1 (by rw [e]; exact hq)⟩
      · rcases ih nd'.2 h' r hm with e | ⟨e, e2⟩
        · exact .inl e
        · exact .inr ⟨List.mem_cons_of_mem _ e, e2⟩
section
variable {K : PySem.W.Frag} {E E' : Ent} {F F' H H' : Hp} {M M' M1 M2 M3 : Ms} {Γ Γ' : Gm} {P P' P1 P2 : MP} {O O' : MO} {q : Addr} {σ : St} {o o' : HO} {j : Nat}
theorem Pt.at (h : Pt E F M H) (e : M[j]? = some (q, O)) : F q = none ∧ ∃ o, H q = some o ∧ O.p F o := h.wd.own _ (List.mem_of_getElem? e)
theorem Pt.ex (h : Pt E F M H) : Ex F H := h.wd.ex
theorem Pt.fresh (h : Pt E F M H) (hp : H q = none) : E.H q = none := Classical.byContradiction fun n => h.gr.stay _ n hp
theorem Pt.new (h : Pt E F M H) (hp : H q = none) (ho : O.p F o) : Pt E F ((q, O) :: M) (upd H q o) := by
  have ne : ∀ {a u}, H a = some u → a ≠ q := fun e => ne_of_none e hp
  refine ⟨⟨h.gr.ex, fun a u h1 h2 => ?_, h.gr.off, fun a h1 => ?_, fun a h1 h2 => ?_⟩, ⟨h.wd.ex.trans (Evl.Ex.new hp), ?_, fun r hr => ?_⟩, fun r hr => ?_⟩
  · have := h.gr.keep a u h1 h2
    rw [upd_ne (ne this)]; exact this
  · by_cases e : a = q
    · subst e; rw [upd_same]; exact fun z => by cases z
    · rw [upd_ne e]; exact h.gr.stay a h1
  · rw [upd_ne (fun e => h.gr.stay a h1 (by rw [e]; exact hp))]; exact h.gr.nott a h1 h2
  · refine List.nodup_cons.mpr ⟨fun hm => ?_, h.wd.nd⟩
    obtain ⟨r, hr, e⟩ := List.mem_map.mp hm
    obtain ⟨_, u, hu, _⟩ := h.wd.own r hr
    exact ne hu e
  · rcases List.mem_cons.mp hr with e | hm
    · subst e; exact ⟨Evl.fresh_back h.wd.ex hp, o, upd_same, ho⟩
    · obtain ⟨a, u, hu, b⟩ := h.wd.own r hm
      exact ⟨a, u, by rw [upd_ne (ne hu)]; exact hu, b⟩
  · rcases List.mem_cons.mp hr with e | hm
    · subst e; exact .inr (h.fresh hp)
    · exact h.fr r hm
theorem Pt.laid (h : Pt E F M H) (hp : H q = none) : Pt E (upd F q o) M (upd H q o) := by
  have ne : ∀ {a u}, H a = some u → a ≠ q := fun e => ne_of_none e hp
  have fq : F q = none := Evl.fresh_back h.wd.ex hp
  refine ⟨⟨h.gr.ex.trans (Evl.Ex.new fq), fun a u h1 h2 => ?_, fun a h1 h2 h3 => ?_, fun a h1 => ?_, fun a h1 h2 => ?_⟩, ⟨fun a u e => ?_, h.wd.nd, fun r hr => ?_⟩, h.fr⟩
  · have := h.gr.keep a u h1 h2
    rw [upd_ne (ne this)]; exact this
  · have n : a ≠ q := fun e => h2 (by rw [e]; exact h.fresh hp)
    rw [upd_ne n]; exact h.gr.off a h1 h2 h3
  · by_cases e : a = q
    · subst e; rw [upd_same]; exact fun z => by cases z
    · rw [upd_ne e]; exact h.gr.stay a h1
  · rw [upd_ne (fun e => h.gr.stay a h1 (by rw [e]; exact hp))]; exact h.gr.nott a h1 h2
  · by_cases e2 : a = q
    · subst e2; rw [upd_same] at e ⊢; exact e
    · rw [upd_ne e2] at e ⊢; exact h.wd.ex a u e
  · obtain ⟨a, u, hu, b⟩ := h.wd.own r hr
    have n : r.1 ≠ q := ne hu
    exact ⟨by rw [upd_ne n]; exact a, u, by rw [upd_ne n]; exact hu, r.2.mono (Evl.Ex.new fq) b⟩
theorem Pt.freeze (h : Pt E F M H) (e : M[j]? = some (q, O)) (hq : E.H q = none) (ho : H q = some o) : Pt E (upd F q o) (M.eraseIdx j) H := by
  obtain ⟨fq, _⟩ := h.at e
  have nd : ∀ r ∈ M.eraseIdx j, r.1 ≠ q := by
    have key : ∀ {M : Ms} {j : Nat}, (keys M).Nodup → M[j]? = some (q, O) → ∀ r ∈ M.eraseIdx j, r.1 ≠ q := by
      intro M
      induction M with
      | nil => intro j _ h; simp at h
      | cons m M ih =>
        intro j nd e r hr
        have nd' := List.nodup_cons.mp (show (m.1 :: keys M).Nodup from nd)
        cases j with
        | zero =>
          have e1 : m = (q, O) := Option.some.inj e
          subst e1
          have hr : r ∈ M := hr
          exact fun z => nd'.1 (by rw [← z]; exact List.mem_map_of_mem (f := (·.1)) hr)
        | succ j =>
          have e1 : M[j]? = some (q, O) := e
          have hr : r ∈ m :: M.eraseIdx j := hr
          have hq : q ∈ keys M := List.mem_map_of_mem (f := (·.1)) (List.mem_of_getElem? e1)
          rcases List.mem_cons.mp hr with z | z
          · subst z; exact fun z => nd'.1 (by rw [z]; exact hq)
          · exact ih nd'.2 e1 r z
    exact key h.wd.nd e
  refine ⟨⟨h.gr.ex.trans (Evl.Ex.new fq), h.gr.keep, fun a h1 h2 h3 => ?_, h.gr.stay, h.gr.nott⟩, ⟨fun a u z => ?_, ?_, fun r hr => ?_⟩, fun r hr => h.fr r (List.mem_of_mem_eraseIdx hr)⟩
  · have n : a ≠ q := fun z => h2 (by rw [z]; exact hq)
    rw [upd_ne n]; exact h.gr.off a h1 h2 h3
  · by_cases e2 : a = q
    · subst e2; rw [upd_same] at z; rw [ho]; exact z
    · rw [upd_ne e2] at z; exact h.wd.ex a u z
  · exact h.wd.nd.sublist ((List.eraseIdx_sublist _ _).map _)
  · obtain ⟨a, u, hu, b⟩ := h.wd.own r (List.mem_of_mem_eraseIdx hr)
    exact ⟨by rw [upd_ne (nd r hr)]; exact a, u, hu, r.2.mono (Evl.Ex.new fq) b⟩
theorem Pt.mut (h : Pt E F M H) (e : M[j]? = some (q, O)) (ho : O'.p F o') : Pt E F (M.set j (q, O')) (upd H q o') := by
  have hm := List.mem_of_getElem? e
  obtain ⟨fq, u0, hu0, _⟩ := h.at e
  refine ⟨⟨h.gr.ex, fun a u h1 h2 => ?_, h.gr.off, fun a h1 => ?_, fun a h1 h2 => ?_⟩, ⟨fun a u z => ?_, by rw [keys_set e]; exact h.wd.nd, fun r hr => ?_⟩, fun r hr => ?_⟩
  · have n : a ≠ q := fun z => by
      subst z
      rcases h.fr _ hm with f | f
      · exact h1 f
      · rw [show E.H a = none from f] at h2; cases h2
    rw [upd_ne n]; exact h.gr.keep a u h1 h2
  · by_cases z : a = q
    · subst z; rw [upd_same]; exact fun z => by cases z
    · rw [upd_ne z]; exact h.gr.stay a h1
  · by_cases z : a = q
    · subst z; rw [upd_same]; exact fun xs e => O'.nt ho xs (Option.some.inj e)
    · rw [upd_ne z]; exact h.gr.nott a h1 h2
  · rw [upd_ne (ne_of_none z fq)]; exact h.wd.ex a u z
  · rcases mem_set_ne h.wd.nd e r hr with z | ⟨z, n⟩
    · subst z; exact ⟨fq, o', upd_same, ho⟩
    · obtain ⟨a, u, hu, b⟩ := h.wd.own r z
      exact ⟨a, u, by rw [upd_ne n]; exact hu, b⟩
  · rcases mem_set_ne h.wd.nd e r hr with z | ⟨z, n⟩
    · subst z; exact (show q ∈ E.ks ∨ E.H q = none from h.fr (q, O) hm)
    · exact h.fr r z
/-- a tuple that stands may be known -/
theorem Pt.learn {xs : List V} (h : Pt E F M H) (hq : H q = some (.tup xs)) : ∃ F', Ex F F' ∧ F' q = some (.tup xs) ∧ Pt E F' M H := by
  cases fq : F q with
  | some o =>
    refine ⟨F, Evl.Ex.refl _, ?_, h⟩
    have := h.wd.ex _ _ fq
    rw [hq] at this
    rw [fq, ← Option.some.inj this]
  | none =>
    refine ⟨upd F q (.tup xs), Evl.Ex.new fq, upd_same, ⟨h.gr.ex.trans (Evl.Ex.new fq), h.gr.keep, fun a h1 h2 h3 => ?_, h.gr.stay, h.gr.nott⟩, ⟨fun a u e => ?_, h.wd.nd, fun r hr => ?_⟩, h.fr⟩
    · have n : a ≠ q := fun e => h.gr.nott a h2 h3 xs (by rw [e]; exact hq)
      rw [upd_ne n]; exact h.gr.off a h1 h2 h3
    · by_cases e2 : a = q
      · subst e2; rw [upd_same] at e; rw [hq]; exact e
      · rw [upd_ne e2] at e; exact h.wd.ex a u e
    · obtain ⟨a, u, hu, b⟩ := h.wd.own r hr
      have n : r.1 ≠ q := fun e => by rw [e, hq] at hu; exact r.2.nt b xs (Option.some.inj hu).symm
      exact ⟨by rw [upd_ne n]; exact a, u, hu, r.2.mono (Evl.Ex.new fq) b⟩
theorem Pt.drop (h : Pt E F M H) (s : List.Sublist M' M) : Pt E F M' H :=
  ⟨h.gr, ⟨h.wd.ex, h.wd.nd.sublist (s.map _), fun r hr => h.wd.own r (s.subset hr)⟩, fun r hr => h.fr r (s.subset hr)⟩
theorem Pt.to (h : Pt E F M H) (l : ∀ F o, O.p F o → O'.p F o) (e : M[j]? = some (q, O)) : Pt E F (M.set j (q, O')) H := by
  obtain ⟨fq, u0, hu0, hO⟩ := h.at e
  have := h.mut (o' := u0) (O' := O') e (l _ _ hO)
  have e2 : upd H q u0 = H := by
    funext a
    by_cases z : a = q
    · subst z; rw [upd_same, hu0]
    · rw [upd_ne z]
  rw [e2] at this
  exact this
/-! ### changes of what is known -/
theorem Nx.imp {f} (h : Nx E Γ' M' f) (i : ∀ σ H, At E Γ M σ H → At E Γ' M' σ H) : Nx E Γ M f := fun σ H a => h σ H (i σ H a)
theorem EnvOk.upd {i : Nat} (h : EnvOk F σ Γ) (e : Γ[i]? = some (some P)) (l : ∀ v, P.p F v → P'.p F v) : EnvOk F σ (Γ.set i (some P')) := by
  have key : ∀ {σ : St} {Γ : Gm} {i : Nat}, EnvOk F σ Γ → Γ[i]? = some (some P) → EnvOk F σ (Γ.set i (some P')) := by
    intro σ Γ
    induction Γ generalizing σ with
    | nil => intro i _ h; simp at h
    | cons g Γ ih =>
      intro i h e
      cases h with
      | cons a t =>
        cases i with
        | zero =>
          have e : g = some P := Option.some.inj e
          refine .cons (fun Q hQ => ?_) t
          cases hQ
          obtain ⟨v, hv, k⟩ := a P e
          exact ⟨v, hv, l v k⟩
        | succ i => exact .cons a (ih t e)
  exact key h e
theorem nx_le {f} {i : Nat} (e : Γ[i]? = some (some P)) (l : P.le P') (h : Nx E (Γ.set i (some P')) M f) : Nx E Γ M f :=
  h.imp fun _ _ ⟨F, a, b⟩ => ⟨F, a, b.upd e (l F)⟩
theorem nx_ex {α : Type} {f} {i : Nat} {R : α → MP} (e : Γ[i]? = some (some (PEx R))) (h : ∀ x, Nx E (Γ.set i (some (R x))) M f) : Nx E Γ M f := by
  rintro σ H ⟨F, a, b⟩
  obtain ⟨v, hv, x, k⟩ := b.get e
  refine h x σ H ⟨F, a, ?_⟩
  have : EnvOk F (σ.set i (some v)) (Γ.set i (some (R x))) := b.set i k
  have e2 : σ.set i (some v) = σ := by
    have hi := (List.getElem?_eq_some_iff.mp hv)
    obtain ⟨hi, hv⟩ := hi
    rw [← hv, List.set_getElem_self]
  rw [e2] at this
  exact this
theorem nx_an {φ : Prop} {f} {i : Nat} {R : MP} (e : Γ[i]? = some (some (PAn φ R))) (h : φ → Nx E (Γ.set i (some R)) M f) : Nx E Γ M f := by
  rintro σ H ⟨F, a, b⟩
  obtain ⟨v, hv, k1, k2⟩ := b.get e
  refine h k1 σ H ⟨F, a, b.upd e fun v q => q.2⟩
/-- an own list is given away: it stands from now on -/
theorem nx_freeze {f} {i : Nat} {ps : List MP} (j : Nat) (e : M[j]? = some (q, ML ps)) (hq : E.H q = none) (hg : Γ[i]? = some (some (Own q))) (h : Nx E (Γ.set i (some (PLi K ps))) (M.eraseIdx j) f) : Nx E Γ M f := by
  rintro σ H ⟨F, a, b⟩
  obtain ⟨fq, o, ho, vs, rfl, hp⟩ := a.at e
  have ex : Ex F (upd F q (.lst vs)) := Evl.Ex.new fq
  refine h σ H ⟨_, a.freeze e hq ho, (b.mono ex).upd hg fun v hv => ⟨q, vs, hv, .inl (.inl upd_same), hp.mono ex⟩⟩
theorem nx_forget {f} (i : Nat) (h : Nx E (Γ.set i none) M f) : Nx E Γ M f := h.imp fun σ H ⟨F, a, b⟩ => ⟨F, a, by
  have key : ∀ {σ : St} {Γ : Gm} {i : Nat}, EnvOk F σ Γ → EnvOk F σ (Γ.set i none) := by
    intro σ Γ
    induction Γ generalizing σ with
    | nil => intro i h; exact h
    | cons g Γ ih =>
      intro i h
      cases h with
      | cons a t => cases i with
        | zero => exact .cons (fun Q hQ => by cases hQ) t
        | succ i => exact .cons a (ih t)
  exact key b⟩
theorem nx_drop {f} (s : List.Sublist M' M) (h : Nx E Γ M' f) : Nx E Γ M f := h.imp fun σ H ⟨F, a, b⟩ => ⟨F, a.drop s, b⟩
/-! ### expressions -/
variable {te ta tb tc tl : TE} {t u : TT} {r : R2}
theorem ev_var {i : Nat} (e : Γ[i]? = some (some P)) : Ev (tVar i) Γ M P M := fun E F σ H a b Q k => by
  obtain ⟨v, hv, hp⟩ := b.get e
  exact ⟨v, hv, k v F H (Evl.Ex.refl _) a hp⟩
theorem ev_cv {v : V} (h : ∀ F, P.p F v) : Ev (tC v) Γ M P M := fun E F σ H a b Q k => k v F H (Evl.Ex.refl _) a (h F)
theorem ev_int {i : Int} : Ev (tC (.int i)) Γ M (D K (.int i)) M := ev_cv fun _ => .int i
theorem ev_bl {b : Bool} : Ev (tC (.bl b)) Γ M (D K (.bool b)) M := ev_cv fun _ => .bl b
theorem ev_non : Ev (tC .non) Γ M (D K .none) M := ev_cv fun _ => .non
def Cont (E : Ent) (F : Hp) (M : Ms) (P : MP) (Q : VK) : Prop := ∀ v F' H', Ex F F' → Pt E F' M H' → P.p F' v → Q v H'
def RV (r : R2) (P1 P2 : MP) (M : Ms) (P : MP) (M' : Ms) : Prop := ∀ E F H x y, Pt E F M H → P1.p F x → P2.p F y → ∀ Q : VK, Cont E F M' P Q → r x y H Q
theorem ev_op (ha : Ev ta Γ M P1 M1) (hb : Ev tb Γ M1 P2 M2) (hr : RV r P1 P2 M2 P M3) : Ev (tOp r ta tb) Γ M P M3 := fun E F σ H a b Q k =>
  ha E F σ H a b _ fun x F1 H1 e1 a1 p1 => hb E F1 σ H1 a1 (b.mono e1) _ fun y F2 H2 e2 a2 p2 =>
    hr E F2 H2 x y a2 (P1.mono e2 p1) p2 Q fun v F3 H3 e3 a3 p3 => k v F3 H3 ((e1.trans e2).trans e3) a3 p3
theorem RV.ex1 {α : Type} {R : α → MP} (h : ∀ x, RV r (R x) P2 M P M') : RV r (PEx R) P2 M P M' := fun E F H x y a ⟨z, p1⟩ p2 Q k => h z E F H x y a p1 p2 Q k
theorem RV.ex2 {α : Type} {R : α → MP} (h : ∀ x, RV r P1 (R x) M P M') : RV r P1 (PEx R) M P M' := fun E F H x y a p1 ⟨z, p2⟩ Q k => h z E F H x y a p1 p2 Q k
theorem RV.an1 {φ : Prop} {R : MP} (h : φ → RV r R P2 M P M') : RV r (PAn φ R) P2 M P M' := fun E F H x y a p1 p2 Q k => h p1.1 E F H x y a p1.2 p2 Q k
theorem RV.an2 {φ : Prop} {R : MP} (h : φ → RV r P1 R M P M') : RV r P1 (PAn φ R) M P M' := fun E F H x y a p1 p2 Q k => h p2.1 E F H x y a p1 p2.2 Q k
theorem RV.weak (h : RV r P1 P2 M P M') (l : P.le P') : RV r P1 P2 M P' M' := fun E F H x y a p1 p2 Q k => h E F H x y a p1 p2 Q fun v F' H' e g p => k v F' H' e g (l _ _ p)
theorem PEx.in {α : Type} {R : α → MP} (x : α) : (R x).le (PEx R) := fun _ _ h => ⟨x, h⟩
theorem PAn.in {φ : Prop} {R : MP} (h : φ) : R.le (PAn φ R) := fun _ _ k => ⟨h, k⟩
theorem MP.le_trans {A B C : MP} (h : A.le B) (k : B.le C) : A.le C := fun F v q => k F v (h F v q)
theorem rv_val {z : V} (hz : ∀ F, P.p F z) (h : ∀ F H x y, P1.p F x → P2.p F y → Ex F H → ∀ Q : VK, Q z H → r x y H Q) : RV r P1 P2 M P M := fun E F H x y a p1 p2 Q k =>
  h F H x y p1 p2 a.ex Q (k z F H (Evl.Ex.refl _) a (hz F))
theorem rv_i0 {g : Int → Int → Int} {i j : Int} : RV (rI0 fun i j => .int (g i j)) (D K (.int i)) (D K (.int j)) M (D K (.int (g i j))) M := rv_val (z := .int (g i j)) (fun _ => .int _) fun F H x y p1 p2 _ Q q => by
  cases dp_int p1; cases dp_int p2
  exact ⟨i, j, rfl, rfl, q⟩
theorem rv_b0 {g : Int → Int → Bool} {i j : Int} : RV (rI0 fun i j => .bl (g i j)) (D K (.int i)) (D K (.int j)) M (D K (.bool (g i j))) M := rv_val (z := .bl (g i j)) (fun _ => .bl _) fun F H x y p1 p2 _ Q q => by
  cases dp_int p1; cases dp_int p2
  exact ⟨i, j, rfl, rfl, q⟩
theorem rv_ic {C : Int → Int → Prop} {g : Int → Int → Int} {i j : Int} (hc : C i j) : RV (rI C fun i j => .int (g i j)) (D K (.int i)) (D K (.int j)) M (D K (.int (g i j))) M := rv_val (z := .int (g i j)) (fun _ => .int _) fun F H x y p1 p2 _ Q q => by
  cases dp_int p1; cases dp_int p2
  exact ⟨i, j, rfl, rfl, hc, q⟩
theorem rv_eqD {d e : PyData} (hd : SeqAt.shaped d = true) (he : SeqAt.shaped e = true) : RV (rEqD K) (D K d) (D K e) M (D K (.bool (PyData.eqv d e))) M := rv_val (z := .bl _) (fun _ => .bl _) fun F H x y p1 p2 ex Q q =>
  ⟨d, e, Dp.mono ex p1, Dp.mono ex p2, hd, he, q⟩
theorem rv_neD {d e : PyData} (hd : SeqAt.shaped d = true) (he : SeqAt.shaped e = true) : RV (rNeD K) (D K d) (D K e) M (D K (.bool (!PyData.eqv d e))) M := rv_val (z := .bl _) (fun _ => .bl _) fun F H x y p1 p2 ex Q q =>
  ⟨d, e, Dp.mono ex p1, Dp.mono ex p2, hd, he, q⟩
theorem atI_of {xs : List V} {i : Int} {v : V} (h0 : 0 ≤ i) (h : xs[i.toNat]? = some v) : atI xs i = some v := by
  have hl := (List.getElem?_eq_some_iff.mp h).1
  obtain ⟨n, rfl⟩ := Int.eq_ofNat_of_zero_le h0
  unfold atI
  rw [Evl.ixN_nat (by simpa using hl)]
  simpa using h
theorem rv_ixL {ps : List MP} {i : Int} (h0 : 0 ≤ i) (h : ps[i.toNat]? = some P) : RV (rIx K) (PLi K ps) (D K (.int i)) M P M := fun E F H x y a p1 p2 Q k => by
  cases dp_int p2
  obtain ⟨b, vs, rfl, s, q⟩ := p1
  obtain ⟨v, hv, hp⟩ := paired_get q h
  exact .inl ⟨b, vs, i, v, rfl, rfl, Evl.ex_l a.ex s, atI_of h0 hv, k v F H (Evl.Ex.refl _) a hp⟩
theorem rv_ixT {ps : List MP} {i : Int} (h0 : 0 ≤ i) (h : ps[i.toNat]? = some P) : RV (rIx K) (PTu K ps) (D K (.int i)) M P M := fun E F H x y a p1 p2 Q k => by
  cases dp_int p2
  obtain ⟨b, vs, rfl, s, q⟩ := p1
  obtain ⟨v, hv, hp⟩ := paired_get q h
  exact .inr (.inl ⟨b, vs, i, v, rfl, rfl, Evl.ex_t a.ex s, atI_of h0 hv, k v F H (Evl.Ex.refl _) a hp⟩)
theorem rv_ixDL {ds : List PyData} {i : Int} {d : PyData} (h0 : 0 ≤ i) (h : ds[i.toNat]? = some d) : RV (rIx K) (D K (.list ds)) (D K (.int i)) M (D K d) M := fun E F H x y a p1 p2 Q k =>
  rv_ixL (K := K) (ps := ds.map (D K)) h0 (by rw [List.getElem?_map, h]; rfl) E F H x y a (D_PLi _ _ p1) p2 Q k
theorem rv_ixDT {ds : List PyData} {i : Int} {d : PyData} (h0 : 0 ≤ i) (h : ds[i.toNat]? = some d) : RV (rIx K) (D K (.tuple ds)) (D K (.int i)) M (D K d) M := fun E F H x y a p1 p2 Q k =>
  rv_ixT (K := K) (ps := ds.map (D K)) h0 (by rw [List.getElem?_map, h]; rfl) E F H x y a (D_PTu _ _ p1) p2 Q k
theorem rv_ixO {ps : List MP} {i : Int} {j : Nat} (e : M[j]? = some (q, ML ps)) (h0 : 0 ≤ i) (h : ps[i.toNat]? = some P) : RV (rIx K) (Own q) (D K (.int i)) M P M := fun E F H x y a p1 p2 Q k => by
  cases dp_int p2
  have p1 : x = .ref q := p1
  subst p1
  obtain ⟨fq, o, ho, vs, rfl, s⟩ := a.at e
  obtain ⟨v, hv, hp⟩ := paired_get s h
  exact .inl ⟨q, vs, i, v, rfl, rfl, SqL.of ho, atI_of h0 hv, k v F H (Evl.Ex.refl _) a hp⟩
theorem flat_ints : ∀ {F : Hp} {xs : List V} {ns : List Int}, DpAll K F xs (ns.map PyData.int) → xs = ns.map V.int
  | _, _, [], h => by cases h; rfl
  | _, _, n :: ns, h => by cases h with | cons a t => rw [List.map_cons, ← flat_ints t, dp_int a]
theorem flat_all (ns : List Int) : (ns.map V.int).all flatV = true := by
  rw [List.all_eq_true]
  intro x hx
  obtain ⟨n, _, rfl⟩ := List.mem_map.mp hx
  rfl
theorem inV_ints (i : Int) (ns : List Int) : inV (.int i) (ns.map V.int) = decide (i ∈ ns) := by
  induction ns with
  | nil => rfl
  | cons n ns ih =>
    show (eqV (.int n) (.int i) || inV (.int i) (ns.map V.int)) = _
    rw [ih]
    show (decide (n = i) || decide (i ∈ ns)) = _
    by_cases h : i = n
    · subst h; simp
    · have h2 : ¬ n = i := fun e => h e.symm
      simp [h, h2]
theorem rv_inT {i : Int} {ns : List Int} {neg : Bool} : RV (rIn K neg) (D K (.int i)) (D K (.tuple (ns.map .int))) M (D K (.bool (if neg then !decide (i ∈ ns) else decide (i ∈ ns)))) M := rv_val (z := .bl _) (fun _ => .bl _) fun F H x y p1 p2 ex Q k => by
  cases dp_int p1
  obtain ⟨b, vs, rfl, s, q⟩ := dp_tup p2
  cases flat_ints q
  refine ⟨b, _, rfl, .inr (Evl.ex_t ex s), rfl, flat_all ns, ?_⟩
  rw [inV_ints]
  exact k
theorem rv_inL {i : Int} {ns : List Int} {neg : Bool} : RV (rIn K neg) (D K (.int i)) (D K (.list (ns.map .int))) M (D K (.bool (if neg then !decide (i ∈ ns) else decide (i ∈ ns)))) M := rv_val (z := .bl _) (fun _ => .bl _) fun F H x y p1 p2 ex Q k => by
  cases dp_int p1
  obtain ⟨b, vs, rfl, s, q⟩ := dp_lst p2
  cases flat_ints q
  refine ⟨b, _, rfl, .inl (Evl.ex_l ex s), rfl, flat_all ns, ?_⟩
  rw [inV_ints]
  exact k
/-! ### arguments, calls -/
theorem ea_nil : EvA tNil Γ M [] M := fun E F σ H a b Q k => k [] F H (Evl.Ex.refl _) a .nil
theorem ea_cons {tr : TA} {ps : List MP} (h : Ev te Γ M P M1) (hr : EvA tr Γ M1 ps M2) : EvA (tCons te tr) Γ M (P :: ps) M2 := fun E F σ H a b Q k =>
  h E F σ H a b _ fun x F1 H1 e1 a1 p1 => hr E F1 σ H1 a1 (b.mono e1) _ fun vs F2 H2 e2 a2 p2 => k (x :: vs) F2 H2 (e1.trans e2) a2 (.cons (P.mono e2 p1) p2)
def RC (rc : List V → Hp → VK → Prop) (ps : List MP) (M : Ms) (P : MP) (M' : Ms) : Prop := ∀ E F H vs, Pt E F M H → Ps F vs ps → ∀ Q : VK, Cont E F M' P Q → rc vs H Q
theorem ev_cb {rc : List V → Hp → VK → Prop} {tr : TA} {ps : List MP} (h : EvA tr Γ M ps M1) (hr : RC rc ps M1 P M2) : Ev (tCB rc tr) Γ M P M2 := fun E F σ H a b Q k =>
  h E F σ H a b _ fun vs F1 H1 e1 a1 p1 => hr E F1 H1 vs a1 p1 Q fun v F2 H2 e2 a2 p2 => k v F2 H2 (e1.trans e2) a2 p2
theorem ev_call {sp : Sp} {dvs : List V} {X : XK} {tr : TA} {ps : List MP} (h : EvA tr Γ M ps M1) (hr : RC (fun vs H Q => sp (vs ++ dvs) H Q X) ps M1 P M2) : Ev (tCall sp dvs X tr) Γ M P M2 := fun E F σ H a b Q k =>
  h E F σ H a b _ fun vs F1 H1 e1 a1 p1 => hr E F1 H1 vs a1 p1 Q fun v F2 H2 e2 a2 p2 => k v F2 H2 (e1.trans e2) a2 p2
theorem RC.weak {rc : List V → Hp → VK → Prop} {ps : List MP} (h : RC rc ps M P M') (l : P.le P') : RC rc ps M P' M' := fun E F H vs a p Q k => h E F H vs a p Q fun v F' H' e g p => k v F' H' e g (l _ _ p)
theorem rc_len {ps : List MP} : RC (fun xs H Q => ∃ p ys, xs = [.ref p] ∧ (SqL K H p ys ∨ SqT K H p ys) ∧ Q (.int ys.length) H) [PLi K ps] M (D K (.int ps.length)) M := fun E F H vs a p Q k => by
  cases p with
  | cons p t =>
    cases t
    obtain ⟨b, ys, rfl, s, q⟩ := p
    refine ⟨b, ys, rfl, .inl (Evl.ex_l a.ex s), k _ F H (Evl.Ex.refl _) a ?_⟩
    rw [← paired_len q]
    exact .int _
theorem rc_lenT {ps : List MP} : RC (fun xs H Q => ∃ p ys, xs = [.ref p] ∧ (SqL K H p ys ∨ SqT K H p ys) ∧ Q (.int ys.length) H) [PTu K ps] M (D K (.int ps.length)) M := fun E F H vs a p Q k => by
  cases p with
  | cons p t =>
    cases t
    obtain ⟨b, ys, rfl, s, q⟩ := p
    refine ⟨b, ys, rfl, .inr (Evl.ex_t a.ex s), k _ F H (Evl.Ex.refl _) a ?_⟩
    rw [← paired_len q]
    exact .int _
theorem rc_lenO {ps : List MP} {j : Nat} (e : M[j]? = some (q, ML ps)) : RC (fun xs H Q => ∃ p ys, xs = [.ref p] ∧ (SqL K H p ys ∨ SqT K H p ys) ∧ Q (.int ys.length) H) [Own q] M (D K (.int ps.length)) M := fun E F H vs a p Q k => by
  cases p with
  | cons p t =>
    cases t
    have p : _ = V.ref q := p
    subst p
    obtain ⟨fq, o, ho, vs, rfl, s⟩ := a.at e
    refine ⟨q, vs, rfl, .inl (SqL.of ho), k _ F H (Evl.Ex.refl _) a ?_⟩
    rw [← paired_len s]
    exact .int _
theorem le_L {ds : List PyData} : (D K (.list ds)).le (PLi K (ds.map (D K))) := D_PLi
theorem le_T {ds : List PyData} : (D K (.tuple ds)).le (PTu K (ds.map (D K))) := D_PTu
theorem rc_lenD {ds : List PyData} : RC (fun xs H Q => ∃ p ys, xs = [.ref p] ∧ (SqL K H p ys ∨ SqT K H p ys) ∧ Q (.int ys.length) H) [D K (.list ds)] M (D K (.int ds.length)) M := fun E F H vs a p Q k => by
  cases p with
  | cons p t =>
    cases t
    have := rc_len (K := K) (ps := ds.map (D K)) E F H [_] a (.cons (D_PLi _ _ p) .nil) Q (M := M)
    rw [List.length_map] at this
    exact this k
theorem rc_lenDT {ds : List PyData} : RC (fun xs H Q => ∃ p ys, xs = [.ref p] ∧ (SqL K H p ys ∨ SqT K H p ys) ∧ Q (.int ys.length) H) [D K (.tuple ds)] M (D K (.int ds.length)) M := fun E F H vs a p Q k => by
  cases p with
  | cons p t =>
    cases t
    have := rc_lenT (K := K) (ps := ds.map (D K)) E F H [_] a (.cons (D_PTu _ _ p) .nil) Q (M := M)
    rw [List.length_map] at this
    exact this k
end
end Hq
namespace Hq
open PySem L2
section
variable {K : PySem.W.Frag} {E E' : Ent} {F F' H H' : Hp} {M M' M1 M2 M3 : Ms} {Γ Γ' : Gm} {P P' P1 P2 : MP} {O O' : MO} {q : Addr} {σ : St} {o o' : HO} {j : Nat}
variable {te ta tb tc tl : TE} {t u : TT} {r : R2} {D1 : Ends} {tu tw : TS}
/-! ### new objects -/
def ContN (E : Ent) (F : Hp) (O : MO) (M : Ms) (Q : VK) : Prop := ∀ q F' H', E.H q = none → Ex F F' → Pt E F' ((q, O) :: M) H' → Q (.ref q) H'
def EvN (te : TE) (Γ : Gm) (M : Ms) (O : MO) (M' : Ms) : Prop := ∀ E F σ H, Pt E F M H → EnvOk F σ Γ → ∀ Q : VK, ContN E F O M' Q → te σ H Q
def RCN (rc : List V → Hp → VK → Prop) (ps : List MP) (M : Ms) (O : MO) (M' : Ms) : Prop := ∀ E F H vs, Pt E F M H → Ps F vs ps → ∀ Q : VK, ContN E F O M' Q → rc vs H Q
/-- an object that stands -/
def Fr (O : MO) : MP := ⟨fun F v => ∃ q o, v = .ref q ∧ F q = some o ∧ O.p F o, fun e ⟨q, o, a, b, c⟩ => ⟨q, o, a, e _ _ b, O.mono e c⟩⟩
theorem fr_L {ps : List MP} : (Fr (ML ps)).le (PLi K ps) := fun F v ⟨q, o, a, b, vs, e, h⟩ => by subst e; exact ⟨q, vs, a, SqL.of b, h⟩
theorem fr_X {α : Type} {R : α → MO} : (Fr (MX R)).le (PEx fun x => Fr (R x)) := fun F v ⟨q, o, a, b, x, h⟩ => ⟨x, q, o, a, b, h⟩
theorem fr_A {φ : Prop} {R : MO} : (Fr (MA φ R)).le (PAn φ (Fr R)) := fun F v ⟨q, o, a, b, x, h⟩ => ⟨x, q, o, a, b, h⟩
theorem PEx.le {α : Type} {R R' : α → MP} (h : ∀ x, (R x).le (R' x)) : (PEx R).le (PEx R') := fun F v ⟨x, k⟩ => ⟨x, h x F v k⟩
theorem PAn.le {φ : Prop} {R R' : MP} (h : φ → R.le R') : (PAn φ R).le (PAn φ R') := fun F v k => ⟨k.1, h k.1 F v k.2⟩
theorem ev_fr (h : EvN te Γ M O M') : Ev te Γ M (Fr O) M' := fun E F σ H a b Q k => h E F σ H a b Q fun q F' H' f e g => by
  obtain ⟨fq, o, ho, hO⟩ := g.at (j := 0) rfl
  have ex : Ex F' (upd F' q o) := Evl.Ex.new fq
  exact k _ _ _ (e.trans ex) (g.freeze (j := 0) rfl f ho) ⟨q, o, rfl, upd_same, O.mono ex hO⟩
theorem ev_newL {ps : List MP} (h : EvN te Γ M (ML ps) M') : Ev te Γ M (PLi K ps) M' := (ev_fr h).weak fr_L
theorem EvN.weak (h : EvN te Γ M O M') (l : ∀ F o, O.p F o → O'.p F o) : EvN te Γ M O' M' := fun E F σ H a b Q k => h E F σ H a b Q fun q F' H' f e g => k q F' H' f e (by
  have := g.to (j := 0) (O' := O') l rfl
  exact this)
theorem EvN.is {O2 : MO} (h : EvN te Γ M O M') (e : O = O2) : EvN te Γ M O2 M' := e ▸ h
theorem Ev.is (h : Ev te Γ M P M') (e : P = P') : Ev te Γ M P' M' := e ▸ h
theorem sz_of {n : Nat} (h : n ≤ 100000) : n ≤ sizeLine := Nat.le_trans h (by decide)
theorem sz_lt {n : Nat} (h : n < 100000) : n < sizeLine := Nat.lt_of_lt_of_le h (by decide)
theorem evn_lst {tr : TA} {ps : List MP} (h : EvA tr Γ M ps M1) (hl : ps.length ≤ 100000) : EvN (tLst tr) Γ M (ML ps) M1 := fun E F σ H a b Q k =>
  h E F σ H a b _ fun vs F1 H1 e1 a1 p1 => ⟨sz_of (by rw [paired_len p1]; exact hl), fun p hp => k p F1 _ (a1.fresh hp) e1 (a1.new hp ⟨vs, rfl, p1⟩)⟩
theorem ev_tup {tr : TA} {ps : List MP} (h : EvA tr Γ M ps M1) (hl : ps.length ≤ 100000) : Ev (tTup tr) Γ M (PTu K ps) M1 := fun E F σ H a b Q k =>
  h E F σ H a b _ fun vs F1 H1 e1 a1 p1 => ⟨sz_of (by rw [paired_len p1]; exact hl), fun p hp => k _ _ _ (e1.trans (Evl.Ex.new (Evl.fresh_back a1.ex hp))) (a1.laid hp)
    ⟨p, vs, rfl, SqT.of upd_same, p1.mono (Evl.Ex.new (Evl.fresh_back a1.ex hp))⟩⟩
theorem evn_cb {rc : List V → Hp → VK → Prop} {tr : TA} {ps : List MP} (h : EvA tr Γ M ps M1) (hr : RCN rc ps M1 O M2) : EvN (tCB rc tr) Γ M O M2 := fun E F σ H a b Q k =>
  h E F σ H a b _ fun vs F1 H1 e1 a1 p1 => hr E F1 H1 vs a1 p1 Q fun q F2 H2 f e2 a2 => k q F2 H2 f (e1.trans e2) a2
theorem ps1 {F : Hp} {vs : List V} {P : MP} (h : Ps F vs [P]) : ∃ v, vs = [v] ∧ P.p F v := by cases h with | cons a t => cases t; exact ⟨_, rfl, a⟩
theorem ps2 {F : Hp} {vs : List V} {P P' : MP} (h : Ps F vs [P, P']) : ∃ v w, vs = [v, w] ∧ P.p F v ∧ P'.p F w := by cases h with | cons a t => obtain ⟨w, rfl, b⟩ := ps1 t; exact ⟨_, w, rfl, a, b⟩
theorem ps3 {F : Hp} {vs : List V} {P P' P2 : MP} (h : Ps F vs [P, P', P2]) : ∃ v w x, vs = [v, w, x] ∧ P.p F v ∧ P'.p F w ∧ P2.p F x := by cases h with | cons a t => obtain ⟨w, x, rfl, b, c⟩ := ps2 t; exact ⟨_, w, x, rfl, a, b, c⟩
/-- list(x) -/
abbrev rList (K : PySem.W.Frag) : List V → Hp → VK → Prop := fun xs H Q => ∃ p ys, xs = [.ref p] ∧ (SqL K H p ys ∨ SqT K H p ys) ∧ ∀ l, H l = none → Q (.ref l) (upd H l (.lst ys))
theorem rcn_listL {ps : List MP} : RCN (rList K) [PLi K ps] M (ML ps) M := fun E F H vs a h Q k => by
  obtain ⟨v, rfl, b, ws, rfl, s, p⟩ := ps1 h
  exact ⟨b, ws, rfl, .inl (Evl.ex_l a.ex s), fun l hl => k l F _ (a.fresh hl) (Evl.Ex.refl _) (a.new hl ⟨ws, rfl, p⟩)⟩
theorem rcn_listT {ps : List MP} : RCN (rList K) [PTu K ps] M (ML ps) M := fun E F H vs a h Q k => by
  obtain ⟨v, rfl, b, ws, rfl, s, p⟩ := ps1 h
  exact ⟨b, ws, rfl, .inr (Evl.ex_t a.ex s), fun l hl => k l F _ (a.fresh hl) (Evl.Ex.refl _) (a.new hl ⟨ws, rfl, p⟩)⟩
theorem rcn_listO {ps : List MP} (e : M[j]? = some (q, ML ps)) : RCN (rList K) [Own q] M (ML ps) M := fun E F H vs a h Q k => by
  obtain ⟨v, rfl, hv⟩ := ps1 h
  have hv : v = .ref q := hv
  subst hv
  obtain ⟨_, o, ho, ws, rfl, p⟩ := a.at e
  exact ⟨q, ws, rfl, .inl (SqL.of ho), fun l hl => k l F _ (a.fresh hl) (Evl.Ex.refl _) (a.new hl ⟨ws, rfl, p⟩)⟩
/-- tuple(x) -/
abbrev rTuple (K : PySem.W.Frag) : List V → Hp → VK → Prop := fun xs H Q => ∃ p ys, xs = [.ref p] ∧ ((SqL K H p ys ∧ ∀ l, H l = none → Q (.ref l) (upd H l (.tup ys))) ∨ (SqT K H p ys ∧ Q (.ref p) H))
theorem rc_tupleL {ps : List MP} : RC (rTuple K) [PLi K ps] M (PTu K ps) M := fun E F H vs a h Q k => by
  obtain ⟨v, rfl, b, ws, rfl, s, p⟩ := ps1 h
  refine ⟨b, ws, rfl, .inl ⟨Evl.ex_l a.ex s, fun l hl => ?_⟩⟩
  have ex : Ex F (upd F l (.tup ws)) := Evl.Ex.new (Evl.fresh_back a.ex hl)
  exact k _ _ _ ex (a.laid hl) ⟨l, ws, rfl, SqT.of upd_same, p.mono ex⟩
theorem rc_tupleT {ps : List MP} : RC (rTuple K) [PTu K ps] M (PTu K ps) M := fun E F H vs a h Q k => by
  obtain ⟨v, rfl, b, ws, rfl, s, p⟩ := ps1 h
  exact ⟨b, ws, rfl, .inr ⟨Evl.ex_t a.ex s, k _ F H (Evl.Ex.refl _) a ⟨b, ws, rfl, s, p⟩⟩⟩
theorem rc_tupleO {ps : List MP} (e : M[j]? = some (q, ML ps)) : RC (rTuple K) [Own q] M (PTu K ps) M := fun E F H vs a h Q k => by
  obtain ⟨v, rfl, hv⟩ := ps1 h
  have hv : v = .ref q := hv
  subst hv
  obtain ⟨_, o, ho, ws, rfl, p⟩ := a.at e
  refine ⟨q, ws, rfl, .inl ⟨SqL.of ho, fun l hl => ?_⟩⟩
  have ex : Ex F (upd F l (.tup ws)) := Evl.Ex.new (Evl.fresh_back a.ex hl)
  exact k _ _ _ ex (a.laid hl) ⟨l, ws, rfl, SqT.of upd_same, p.mono ex⟩
abbrev rInt : List V → Hp → VK → Prop := fun xs H Q => (∃ i, xs = [.int i] ∧ Q (.int i) H) ∨ ∃ k, xs = [.bl k] ∧ Q (.int (if k then 1 else 0)) H
theorem rc_int {i : Int} : RC rInt [D K (.int i)] M (D K (.int i)) M := fun E F H vs a h Q k => by
  obtain ⟨v, rfl, hv⟩ := ps1 h
  cases dp_int hv
  exact .inl ⟨i, rfl, k _ F H (Evl.Ex.refl _) a (.int i)⟩
theorem RC.ex1 {α : Type} {rc : List V → Hp → VK → Prop} {R : α → MP} {ps : List MP} (h : ∀ x, RC rc (R x :: ps) M P M') : RC rc (PEx R :: ps) M P M' := fun E F H vs a p Q k => by
  cases p with
  | cons b t => obtain ⟨x, b⟩ := b; exact h x E F H _ a (.cons b t) Q k
theorem RC.an1 {φ : Prop} {rc : List V → Hp → VK → Prop} {R : MP} {ps : List MP} (h : φ → RC rc (R :: ps) M P M') : RC rc (PAn φ R :: ps) M P M' := fun E F H vs a p Q k => by
  cases p with
  | cons b t => exact h b.1 E F H _ a (.cons b.2 t) Q k
theorem RCN.ex1 {α : Type} {rc : List V → Hp → VK → Prop} {R : α → MP} {ps : List MP} (h : ∀ x, RCN rc (R x :: ps) M O M') : RCN rc (PEx R :: ps) M O M' := fun E F H vs a p Q k => by
  cases p with
  | cons b t => obtain ⟨x, b⟩ := b; exact h x E F H _ a (.cons b t) Q k
theorem RCN.an1 {φ : Prop} {rc : List V → Hp → VK → Prop} {R : MP} {ps : List MP} (h : φ → RCN rc (R :: ps) M O M') : RCN rc (PAn φ R :: ps) M O M' := fun E F H vs a p Q k => by
  cases p with
  | cons b t => exact h b.1 E F H _ a (.cons b.2 t) Q k
theorem RC.in1 {rc : List V → Hp → VK → Prop} {R R' : MP} {ps : List MP} (l : R.le R') (h : RC rc (R' :: ps) M P M') : RC rc (R :: ps) M P M' := fun E F H vs a p Q k => by
  cases p with
  | cons b t => exact h E F H _ a (.cons (l _ _ b) t) Q k
theorem RCN.in1 {rc : List V → Hp → VK → Prop} {R R' : MP} {ps : List MP} (l : R.le R') (h : RCN rc (R' :: ps) M O M') : RCN rc (R :: ps) M O M' := fun E F H vs a p Q k => by
  cases p with
  | cons b t => exact h E F H _ a (.cons (l _ _ b) t) Q k
theorem RC.ex0 {α : Type} {rc : List V → Hp → VK → Prop} {R : α → MP} {ps : List MP} (x : α) (h : RC rc ps M (R x) M') : RC rc ps M (PEx R) M' := h.weak (PEx.in x)
theorem RCN.weak {rc : List V → Hp → VK → Prop} {ps : List MP} (h : RCN rc ps M O M') (l : ∀ F o, O.p F o → O'.p F o) : RCN rc ps M O' M' := fun E F H vs a p Q k => h E F H vs a p Q fun q F' H' f e g => k q F' H' f e (g.to (j := 0) (O' := O') l rfl)
theorem MX.in {α : Type} {R : α → MO} (x : α) : ∀ F o, (R x).p F o → (MX R).p F o := fun _ _ h => ⟨x, h⟩
/-! ### tests -/
theorem et_val {b : Bool} (h : Ev te Γ M (D K (.bool b)) M') : EvT (tB te) Γ M (· = b) M' := fun E F σ H a c Q k => h E F σ H a c _ fun v F' H' e g p => by
  cases dp_bl p; exact ⟨b, rfl, k b F' H' e g rfl⟩
theorem et_test {b : Bool} (h : Ev te Γ M (D K (.bool b)) M') : EvT (tTest te) Γ M (· = b) M' := fun E F σ H a c Q k => h E F σ H a c _ fun v F' H' e g p => by
  cases dp_bl p; exact ⟨b, rfl, k b F' H' e g rfl⟩
theorem et_testX {φ : Bool → Prop} (h : Ev te Γ M (PEx fun b => PAn (φ b) (D K (.bool b))) M') : EvT (tTest te) Γ M φ M' := fun E F σ H a c Q k => h E F σ H a c _ fun v F' H' e g ⟨b, hb, p⟩ => by
  cases dp_bl p; exact ⟨b, rfl, k b F' H' e g hb⟩
theorem et_and {a b : Bool} (h1 : EvT t Γ M (· = a) M1) (h2 : a = true → EvT u Γ M1 (· = b) M1) : EvT (tAnd t u) Γ M (· = (a && b)) M1 := fun E F σ H x c Q k => h1 E F σ H x c _ fun z F1 H1 e1 g1 hz => by
  subst hz
  cases z with
  | true => exact h2 rfl E F1 σ H1 g1 (c.mono e1) _ fun z F2 H2 e2 g2 hz => k z F2 H2 (e1.trans e2) g2 hz
  | false => exact k false F1 H1 e1 g1 rfl
theorem et_or {a b : Bool} (h1 : EvT t Γ M (· = a) M1) (h2 : a = false → EvT u Γ M1 (· = b) M1) : EvT (tOr t u) Γ M (· = (a || b)) M1 := fun E F σ H x c Q k => h1 E F σ H x c _ fun z F1 H1 e1 g1 hz => by
  subst hz
  cases z with
  | true => exact k true F1 H1 e1 g1 rfl
  | false => exact h2 rfl E F1 σ H1 g1 (c.mono e1) _ fun z F2 H2 e2 g2 hz => k z F2 H2 (e1.trans e2) g2 hz
theorem et_not {a : Bool} (h : EvT t Γ M (· = a) M') : EvT (tNot t) Γ M (· = !a) M' := fun E F σ H x c Q k => h E F σ H x c _ fun z F1 H1 e1 g1 hz => k _ F1 H1 e1 g1 (by rw [hz])
theorem ev_andV {a b : Bool} (h1 : Ev ta Γ M (D K (.bool a)) M1) (h2 : a = true → Ev tb Γ M1 (D K (.bool b)) M1) : Ev (tAndV ta tb) Γ M (D K (.bool (a && b))) M1 := fun E F σ H x c Q k => h1 E F σ H x c _ fun z F1 H1 e1 g1 hz => by
  cases dp_bl hz
  refine ⟨a, rfl, ?_⟩
  cases a with
  | true => exact h2 rfl E F1 σ H1 g1 (c.mono e1) _ fun z F2 H2 e2 g2 hz => k z F2 H2 (e1.trans e2) g2 hz
  | false => exact k _ F1 H1 e1 g1 (.bl false)
theorem ev_orV {a b : Bool} (h1 : Ev ta Γ M (D K (.bool a)) M1) (h2 : a = false → Ev tb Γ M1 (D K (.bool b)) M1) : Ev (tOrV ta tb) Γ M (D K (.bool (a || b))) M1 := fun E F σ H x c Q k => h1 E F σ H x c _ fun z F1 H1 e1 g1 hz => by
  cases dp_bl hz
  refine ⟨a, rfl, ?_⟩
  cases a with
  | true => exact k _ F1 H1 e1 g1 (.bl true)
  | false => exact h2 rfl E F1 σ H1 g1 (c.mono e1) _ fun z F2 H2 e2 g2 hz => k z F2 H2 (e1.trans e2) g2 hz
theorem ev_notV {a : Bool} (h1 : Ev ta Γ M (D K (.bool a)) M1) : Ev (tNotV ta) Γ M (D K (.bool !a)) M1 := fun E F σ H x c Q k => h1 E F σ H x c _ fun z F1 H1 e1 g1 hz => by
  cases dp_bl hz
  exact ⟨a, rfl, k _ F1 H1 e1 g1 (.bl _)⟩
theorem ev_chain {r' : R2} {a b : Bool} {P3 : MP} (ha : Ev ta Γ M P1 M) (hb : Ev tb Γ M P2 M) (hr : RV r P1 P2 M (D K (.bool a)) M) (hc : a = true → Ev tc Γ M P3 M) (hr' : RV r' P2 P3 M (D K (.bool b)) M) : Ev (tChain r r' ta tb tc) Γ M (D K (.bool (a && b))) M := fun E F σ H x c Q k =>
  ha E F σ H x c _ fun v F1 H1 e1 g1 p1 => hb E F1 σ H1 g1 (c.mono e1) _ fun w F2 H2 e2 g2 p2 => hr E F2 H2 v w g2 (P1.mono e2 p1) p2 _ fun z F3 H3 e3 g3 p3 => by
    cases dp_bl p3
    refine ⟨a, rfl, ?_⟩
    cases a with
    | true => exact hc rfl E F3 σ H3 g3 (c.mono ((e1.trans e2).trans e3)) _ fun y F4 H4 e4 g4 p4 => hr' E F4 H4 w y g4 (P2.mono (e3.trans e4) p2) p4 Q fun y F5 H5 e5 g5 p5 => k y F5 H5 ((((e1.trans e2).trans e3).trans e4).trans e5) g5 p5
    | false => exact k _ F3 H3 ((e1.trans e2).trans e3) g3 (.bl false)
theorem ev_if {b : Bool} (h : EvT t Γ M (· = b) M1) (h1 : b = true → Ev ta Γ M1 P M2) (h2 : b = false → Ev tb Γ M1 P M2) : Ev (tIf t ta tb) Γ M P M2 := fun E F σ H x c Q k => h E F σ H x c _ fun z F1 H1 e1 g1 hz => by
  subst hz
  cases z with
  | true => exact h1 rfl E F1 σ H1 g1 (c.mono e1) _ fun v F2 H2 e2 g2 p => k v F2 H2 (e1.trans e2) g2 p
  | false => exact h2 rfl E F1 σ H1 g1 (c.mono e1) _ fun v F2 H2 e2 g2 p => k v F2 H2 (e1.trans e2) g2 p
/-! ### statements -/
theorem go_seq (h : Nx E Γ M (tu { D1 with nx := tw D1 })) : Nx E Γ M (tSeq tu tw D1) := h
theorem go_asg {i : Nat} (h : Ev te Γ M P M1) (k : Nx E (Γ.set i (some P)) M1 D1.nx) : Nx E Γ M (tAsg te (gName i) D1) := fun σ H ⟨F, a, b⟩ =>
  h E F σ H a b _ fun v F' H' e g p => k _ _ ⟨F', g, (b.mono e).set i p⟩
theorem go_asgN {i : Nat} (h : EvN te Γ M O M1) (k : ∀ q, E.H q = none → Nx E (Γ.set i (some (Own q))) ((q, O) :: M1) D1.nx) : Nx E Γ M (tAsg te (gName i) D1) := fun σ H ⟨F, a, b⟩ =>
  h E F σ H a b _ fun q F' H' f e g => k q f _ _ ⟨F', g, (b.mono e).set i (P := Own q) rfl⟩
theorem go_drop (h : Ev te Γ M P M1) (k : Nx E Γ M1 D1.nx) : Nx E Γ M (tDrop te D1) := fun σ H ⟨F, a, b⟩ => h E F σ H a b _ fun v F' H' e g p => k _ _ ⟨F', g, b.mono e⟩
theorem go_if {B : Bool → Prop} (h : EvT t Γ M B M1) (h1 : B true → Nx E Γ M1 (tu D1)) (h2 : B false → Nx E Γ M1 (tw D1)) : Nx E Γ M (tIfS t tu tw D1) := fun σ H ⟨F, a, b⟩ => h E F σ H a b _ fun z F' H' e g hz => by
  cases z with
  | true => exact h1 hz σ H' ⟨F', g, b.mono e⟩
  | false => exact h2 hz σ H' ⟨F', g, b.mono e⟩
theorem go_ret {E0 : Ent} (l : Le E E0) (h : Ev te Γ M P M1) (k : Rt E0 M1 P D1.rt) : Nx E Γ M (tRet te D1) := fun σ H ⟨F, a, b⟩ => h E F σ H a b _ fun v F' H' e g p => k v F' H' (l.to _ _ _ g) p
theorem go_next (k : Nx E Γ M D1.nx) : Nx E Γ M (tNext D1) := k
theorem Rt.drop {f : VK} (s : List.Sublist M M') (h : Rt E M P f) : Rt E M' P f := fun v F H a p => h v F H (a.drop s) p
theorem Rt.weak {f : VK} (l : P.le P') (h : Rt E M P' f) : Rt E M P f := fun v F H a p => h v F H a (l _ _ p)
/-- xs.append(e) -/
theorem go_app {ps : List MP} (ho : Ev ta Γ M (Own q) M) (h : Ev te Γ M P M1) (e0 : M[j]? = some (q, ML ps)) (e : M1[j]? = some (q, ML ps)) (hz : ps.length < 100000) (k : Nx E Γ (M1.set j (q, ML (ps ++ [P]))) D1.nx) :
    Nx E Γ M (tDrop (tBM K "list" rAppend ta (tCons te tNil)) D1) := fun σ H ⟨F, a, b⟩ => ho E F σ H a b _ fun v F1 H1 e1 g1 p1 => by
  have p1 : v = .ref q := p1
  subst p1
  obtain ⟨_, o, ho1, ws0, rfl, _⟩ := g1.at e0
  refine ⟨.inl ⟨rfl, ws0, SqL.of ho1⟩, ?_⟩
  refine h E F1 σ H1 g1 (b.mono e1) _ fun w F2 H2 e2 g2 p2 => ?_
  obtain ⟨_, o, ho2, ws, rfl, s⟩ := g2.at e
  refine ⟨q, ws, w, rfl, rfl, ho2, sz_lt (by rw [paired_len s]; exact hz), ?_⟩
  exact k _ _ ⟨F2, g2.mut e ⟨_, rfl, paired_app s (.cons p2 .nil)⟩, b.mono (e1.trans e2)⟩
/-- xs[i] = e -/
theorem go_setL {ps : List MP} {i : Int} (h : Ev te Γ M P M1) (ho : Ev ta Γ M1 (Own q) M1) (hi : Ev tb Γ M1 (D K (.int i)) M2) (e : M2[j]? = some (q, ML ps)) (h0 : 0 ≤ i) (h1 : i.toNat < ps.length) (k : Nx E Γ (M2.set j (q, ML (ps.set i.toNat P))) D1.nx) :
    Nx E Γ M (tAsg te (gSub ta tb rSetL) D1) := fun σ H ⟨F, a, b⟩ => h E F σ H a b _ fun w F0 H0 e0 g0 p0 => ho E F0 σ H0 g0 (b.mono e0) _ fun v F1 H1 e1 g1 p1 => by
  have p1 : v = .ref q := p1
  subst p1
  refine hi E F1 σ H1 g1 (b.mono (e0.trans e1)) _ fun x F2 H2 e2 g2 p2 => ?_
  cases dp_int p2
  obtain ⟨_, o, ho2, ws, rfl, s⟩ := g2.at e
  obtain ⟨n, rfl⟩ := Int.eq_ofNat_of_zero_le h0
  have hn : n < ws.length := by rw [paired_len s]; exact h1
  refine ⟨q, ws, n, n, rfl, rfl, ho2, Evl.ixN_nat hn, ?_⟩
  exact k _ _ ⟨F2, g2.mut e ⟨_, rfl, paired_set (R := fun (v : V) (P : MP) => P.p F2 v) (P.mono (e1.trans e2) p0) n s⟩, b.mono ((e0.trans e1).trans e2)⟩
/-- xs.reverse() -/
theorem go_rev {ps : List MP} (ho : Ev ta Γ M (Own q) M) (e : M[j]? = some (q, ML ps)) (k : Nx E Γ (M.set j (q, ML ps.reverse)) D1.nx) : Nx E Γ M (tDrop (tBM0 K "list" rReverse ta) D1) := fun σ H ⟨F, a, b⟩ => ho E F σ H a b _ fun v F1 H1 e1 g1 p1 => by
  have p1 : v = .ref q := p1
  subst p1
  obtain ⟨_, o, ho1, ws, rfl, s⟩ := g1.at e
  refine ⟨.inl ⟨rfl, ws, SqL.of ho1⟩, q, ws, rfl, rfl, ho1, ?_⟩
  have srev : ∀ {ws : List V} {ps : List MP}, Ps F1 ws ps → Ps F1 ws.reverse ps.reverse := by
    intro ws ps s
    induction s with
    | nil => exact .nil
    | cons a t ih => rw [List.reverse_cons, List.reverse_cons]; exact paired_app ih (.cons a .nil)
  exact k _ _ ⟨F1, g1.mut e ⟨_, rfl, srev s⟩, b.mono e1⟩
/-- name += e -/
theorem go_aug {i : Nat} {f : Int → Int → Int} {x y : Int} (hx : Γ[i]? = some (some (D K (.int x)))) (h : Ev te Γ M (D K (.int y)) M1) (k : Nx E (Γ.set i (some (D K (.int (f x y))))) M1 D1.nx) : Nx E Γ M (tAug i te (ipI f) D1) := fun σ H ⟨F, a, b⟩ => by
  obtain ⟨v, hv, p⟩ := b.get hx
  cases dp_int p
  refine ⟨_, hv, h E F σ H a b _ fun w F1 H1 e1 g1 p1 => ?_⟩
  cases dp_int p1
  exact ⟨x, y, rfl, rfl, k _ _ ⟨F1, g1, (b.mono e1).set i (P := D K (.int (f x y))) (.int _)⟩⟩
/-! ### loops -/
def JA (E : Ent) (J : Gm → Ms → Prop) (σ : St) (H : Hp) : Prop := ∃ Γ M, J Γ M ∧ At E Γ M σ H
theorem JA.of {J : Gm → Ms → Prop} (h : J Γ M) : Nx E Γ M (JA E J) := fun σ H a => ⟨Γ, M, h, a⟩
theorem go_forL {ps : List MP} {i : Nat} (h : Ev tl Γ M (PLi K ps) M1) (J : Nat → Gm → Ms → Prop) (h0 : J 0 Γ M1)
    (hs : ∀ E', Le E' E → ∀ n P, ps[n]? = some P → ∀ Γ' M', J n Γ' M' → Nx E' (Γ'.set i (some P)) M' (tu { D1 with nx := JA E' (J (n + 1)), ct := JA E' (J (n + 1)), bk := D1.nx }))
    (hd : ∀ Γ' M', J ps.length Γ' M' → Nx E Γ' M' D1.nx) : Nx E Γ M (tFor (iList K tl) (gName i) tu D1) := fun σ H ⟨F, a, b⟩ => h E F σ H a b _ fun v F1 H1 e1 g1 ⟨p, vs, hp, s, q⟩ => by
  refine ⟨p, hp, ⟨vs, Evl.ex_l g1.ex s⟩, for_list (xs := vs) (fun n σ H => JA ⟨F1, H1, keys M1⟩ (J n) σ H) ⟨Γ, M1, h0, F1, g1.enter, b.mono e1⟩ (fun n σ2 H2 _ ⟨Γ', M', _, F2, g2, _⟩ => Evl.ex_l (g2.gr.ex.trans g2.ex) s)
    (fun n x σ2 H2 hx ⟨Γ', M', hJ, F2, g2, b2⟩ => ?_) (fun σ2 H2 hJ => ?_)⟩
  · obtain ⟨P, hP, hx2⟩ := paired_get' q hx
    exact hs ⟨F1, H1, keys M1⟩ g1.le n P hP Γ' M' hJ _ _ ⟨F2, g2, b2.set i (P.mono g2.gr.ex hx2)⟩
  · rw [paired_len q] at hJ
    obtain ⟨Γ', M', hJ, at2⟩ := hJ
    exact hd Γ' M' hJ _ _ (at2.le g1.le)
theorem go_forT {ps : List MP} {i : Nat} (h : Ev tl Γ M (PTu K ps) M1) (J : Nat → Gm → Ms → Prop) (h0 : J 0 Γ M1)
    (hs : ∀ E', Le E' E → ∀ n P, ps[n]? = some P → ∀ Γ' M', J n Γ' M' → Nx E' (Γ'.set i (some P)) M' (tu { D1 with nx := JA E' (J (n + 1)), ct := JA E' (J (n + 1)), bk := D1.nx }))
    (hd : ∀ Γ' M', J ps.length Γ' M' → Nx E Γ' M' D1.nx) : Nx E Γ M (tFor (iTup K tl) (gName i) tu D1) := fun σ H ⟨F, a, b⟩ => h E F σ H a b _ fun v F1 H1 e1 g1 ⟨p, vs, hp, s, q⟩ => by
  refine ⟨p, hp, ⟨vs, Evl.ex_t g1.ex s⟩, for_tup (xs := vs) (fun n σ H => JA ⟨F1, H1, keys M1⟩ (J n) σ H) ⟨Γ, M1, h0, F1, g1.enter, b.mono e1⟩ (fun n σ2 H2 _ ⟨Γ', M', _, F2, g2, _⟩ => Evl.ex_t (g2.gr.ex.trans g2.ex) s)
    (fun n x σ2 H2 hx ⟨Γ', M', hJ, F2, g2, b2⟩ => ?_) (fun σ2 H2 hJ => ?_)⟩
  · obtain ⟨P, hP, hx2⟩ := paired_get' q hx
    exact hs ⟨F1, H1, keys M1⟩ g1.le n P hP Γ' M' hJ _ _ ⟨F2, g2, b2.set i (P.mono g2.gr.ex hx2)⟩
  · rw [paired_len q] at hJ
    obtain ⟨Γ', M', hJ, at2⟩ := hJ
    exact hd Γ' M' hJ _ _ (at2.le g1.le)
theorem go_forR {tr : TA} {z : Int} {i : Nat} (h : EvA tr Γ M [D K (.int z)] M1) (hz : z ≤ 1000000) (hz2 : -1000000 ≤ z) (J : Nat → Gm → Ms → Prop) (h0 : J 0 Γ M1)
    (hs : ∀ n : Nat, (n : Int) < z → ∀ Γ' M', J n Γ' M' → Nx E (Γ'.set i (some (D K (.int n)))) M' (tu { D1 with nx := JA E (J (n + 1)), ct := JA E (J (n + 1)), bk := D1.nx }))
    (hd : ∀ Γ' M', J z.toNat Γ' M' → Nx E Γ' M' D1.nx) : Nx E Γ M (tFor (iRng1 tr) (gName i) tu D1) := fun σ H ⟨F, a, b⟩ => h E F σ H a b _ fun vs F1 H1 e1 g1 p => by
  obtain ⟨v, rfl, hv⟩ := ps1 p
  cases dp_int hv
  refine ⟨z, rfl, by omega, by omega, for_range (lo := 0) (n := z.toNat) (fun n σ H => JA E (J n) σ H) ⟨Γ, M1, h0, F1, g1, b.mono e1⟩ (fun n σ2 H2 hn ⟨Γ', M', hJ, F2, g2, b2⟩ => ?_) (fun σ2 H2 ⟨Γ', M', hJ, at2⟩ => hd Γ' M' hJ _ _ at2)⟩
  refine hs n (by omega) Γ' M' hJ _ _ ⟨F2, g2, b2.set i ?_⟩
  have e0 : (0 : Int) + (n : Int) = (n : Int) := Int.zero_add _
  rw [e0]
  exact .int _
theorem go_forR2 {tr : TA} {lo z : Int} {i : Nat} (h : EvA tr Γ M [D K (.int lo), D K (.int z)] M1) (hz : z ≤ 1000000 ∧ -1000000 ≤ z ∧ lo ≤ 1000000 ∧ -1000000 ≤ lo) (J : Nat → Gm → Ms → Prop) (h0 : J 0 Γ M1)
    (hs : ∀ n : Nat, lo + (n : Int) < z → ∀ Γ' M', J n Γ' M' → Nx E (Γ'.set i (some (D K (.int (lo + n))))) M' (tu { D1 with nx := JA E (J (n + 1)), ct := JA E (J (n + 1)), bk := D1.nx }))
    (hd : ∀ Γ' M', J (z - lo).toNat Γ' M' → Nx E Γ' M' D1.nx) : Nx E Γ M (tFor (iRng2 tr) (gName i) tu D1) := fun σ H ⟨F, a, b⟩ => h E F σ H a b _ fun vs F1 H1 e1 g1 p => by
  obtain ⟨v, w, rfl, hv, hw⟩ := ps2 p
  cases dp_int hv; cases dp_int hw
  refine ⟨lo, z, rfl, ⟨by omega, by omega, by omega, by omega⟩, for_range (lo := lo) (n := (z - lo).toNat) (fun n σ H => JA E (J n) σ H) ⟨Γ, M1, h0, F1, g1, b.mono e1⟩ (fun n σ2 H2 hn ⟨Γ', M', hJ, F2, g2, b2⟩ => ?_) (fun σ2 H2 ⟨Γ', M', hJ, at2⟩ => hd Γ' M' hJ _ _ at2)⟩
  exact hs n (by omega) Γ' M' hJ _ _ ⟨F2, g2, b2.set i (P := D K (.int (lo + n))) (.int _)⟩
theorem go_while (J : Nat → Gm → Ms → Prop) (m0 : Nat) (h0 : J m0 Γ M)
    (hs : ∀ m Γ' M', J m Γ' M' → ∃ B M1, EvT t Γ' M' B M1 ∧ (B true → Nx E Γ' M1 (tu { D1 with nx := JA E (fun Γ M => ∃ m', m' < m ∧ J m' Γ M), ct := JA E (fun Γ M => ∃ m', m' < m ∧ J m' Γ M), bk := D1.nx })) ∧ (B false → Nx E Γ' M1 D1.nx)) : Nx E Γ M (tWhile t tu D1) := fun σ H a =>
  ⟨fun m σ H => JA E (J m) σ H, ⟨m0, Γ, M, h0, a⟩, fun m σ2 H2 ⟨Γ', M', hJ, F2, g2, b2⟩ => by
    obtain ⟨B, M1, hb, h1, h2⟩ := hs m Γ' M' hJ
    refine hb E F2 σ2 H2 g2 b2 _ fun z F3 H3 e3 g3 hz => ?_
    cases z with
    | true => exact ⟨JA E (fun Γ M => ∃ m', m' < m ∧ J m' Γ M), fun σ4 H4 ⟨Γ4, M4, ⟨m', hm, hJ4⟩, a4⟩ => ⟨m', hm, Γ4, M4, hJ4, a4⟩, h1 hz σ2 H3 ⟨F3, g3, b2.mono e3⟩⟩
    | false => exact h2 hz σ2 H3 ⟨F3, g3, b2.mono e3⟩⟩
/-! ### comprehensions -/
theorem wipe_one {σ : St} {i : Nat} {x : V} : wipe ((wipe σ [i]).set i (some x)) [i] = wipe σ [i] := by
  show ((σ.set i none).set i (some x)).set i none = σ.set i none
  rw [List.set_set, List.set_set]
theorem env_wipe {i : Nat} (h : EnvOk F σ Γ) : EnvOk F (wipe σ [i]) (Γ.set i none) := h.forget i
/-- one turn of a comprehension -/
theorem lc_turn {Γ2 : Gm} {σ2 : St} {D2 : Addr} {ps : List MP} {b : Bool} {F1 H1 : Hp} (g1 : Pt E F1 ((D2, ML ps) :: M) H1) (bo : EnvOk F1 σ2 Γ2) (ht : EvT t Γ2 M (· = b) M) (he : b = true → Ev te Γ2 M P M) (hz : ps.length < 100000) (Nxt : Hp → Prop)
    (hN : ∀ F2 H2, Ex F1 F2 → Pt E F2 ((D2, ML (if b = true then ps ++ [P] else ps)) :: M) H2 → Nxt H2) : t σ2 H1 fun c H3 => if c = true then te σ2 H3 fun y H4 => ∃ acc, H4 D2 = some (.lst acc) ∧ acc.length < sizeLine ∧ Nxt (upd H4 D2 (.lst (acc ++ [y]))) else Nxt H3 := by
  have gM : Pt ⟨F1, H1, keys M⟩ F1 M H1 := Pt.start (g1.drop (List.sublist_cons_self _ _)).wd
  have nk : D2 ∉ keys M := (List.nodup_cons.mp (show (D2 :: keys M).Nodup from g1.wd.nd)).1
  obtain ⟨fD, o, hD, ws, rfl, s⟩ := g1.at (j := 0) rfl
  -- a point of M alone, the list beside it
  have up : ∀ {F' H'}, Pt ⟨F1, H1, keys M⟩ F' M H' → Pt E F' ((D2, ML ps) :: M) H' := fun {F' H'} g => by
    have hh : F' D2 = none := g.gr.off D2 fD (show H1 D2 ≠ none by rw [hD]; exact fun z => by cases z) (fun xs z => by have z : H1 D2 = some (HO.tup xs) := z; rw [hD] at z; cases z)
    have hd : H' D2 = some (.lst ws) := g.gr.keep D2 _ nk hD
    have big : Pt ⟨F1, H1, keys ((D2, ML ps) :: M)⟩ F' ((D2, ML ps) :: M) H' := by
      refine ⟨⟨g.gr.ex, fun a u h1 h2 => g.gr.keep a u (fun z => h1 (List.mem_cons_of_mem _ z)) h2, g.gr.off, g.gr.stay, g.gr.nott⟩, ⟨g.wd.ex, List.nodup_cons.mpr ⟨nk, g.wd.nd⟩, fun r hr => ?_⟩, fun r hr => ?_⟩
      · rcases List.mem_cons.mp hr with e | hm
        · subst e; exact ⟨hh, _, hd, ws, rfl, s.mono g.gr.ex⟩
        · exact g.wd.own r hm
      · rcases List.mem_cons.mp hr with e | hm
        · subst e; exact .inl List.mem_cons_self
        · rcases g.fr r hm with z | z
          · exact .inl (List.mem_cons_of_mem _ z)
          · exact .inr z
    exact g1.back big
  refine ht _ F1 σ2 H1 gM bo _ fun c F3 H3 e3 g3 hc => ?_
  subst hc
  cases c with
  | true =>
    refine he rfl _ F3 σ2 H3 g3 (bo.mono e3) _ fun y F4 H4 e4 g4 p4 => ?_
    have g5 := up g4
    obtain ⟨_, o5, h5, ws5, rfl, s5⟩ := g5.at (j := 0) rfl
    refine ⟨ws5, h5, sz_lt (by rw [paired_len s5]; exact hz), ?_⟩
    exact hN F4 _ (e3.trans e4) (g5.mut (j := 0) (O' := ML (ps ++ [P])) rfl ⟨_, rfl, paired_app s5 (.cons p4 .nil)⟩)
  | false => exact hN F3 _ e3 (up g3)
theorem take_filter {α : Type} (xs : List α) (f : α → Bool) (n : Nat) (x : α) (h : xs[n]? = some x) : (xs.take (n + 1)).filter f = (xs.take n).filter f ++ (if f x = true then [x] else []) := by
  rw [List.take_add_one, h, List.filter_append]
  congr 1
  cases hf : f x <;> simp [hf]
theorem evn_lcL {α : Type} {xs : List α} {R G : α → MP} {i : Nat} (f : α → Bool) (h : Ev tl Γ M (PLi K (xs.map R)) M1) (hz : xs.length ≤ 50000)
    (ht : ∀ x ∈ xs, EvT t ((Γ.set i none).set i (some (R x))) M1 (· = f x) M1) (he : ∀ x ∈ xs, f x = true → Ev te ((Γ.set i none).set i (some (R x))) M1 (G x) M1) :
    EvN (tLc (iList K tl) (gName i) t te [i]) Γ M (ML ((xs.filter f).map G)) M1 := fun E F σ H a b Q k => h E F σ H a b _ fun v F1 H1 e1 g1 ⟨p, vs, hp, s, q⟩ => by
  refine ⟨p, hp, ⟨vs, Evl.ex_l g1.ex s⟩, fun D2 hD => ?_⟩
  have gn : Pt ⟨F1, H1, keys M1⟩ F1 ((D2, ML []) :: M1) (upd H1 D2 (.lst [])) := g1.enter.new hD ⟨[], rfl, .nil⟩
  refine lc_list (xs := vs) (fun n H' => ∃ F', Pt ⟨F1, H1, keys M1⟩ F' ((D2, ML (((xs.take n).filter f).map G)) :: M1) H') ⟨F1, gn⟩ (fun n H2 _ ⟨F2, g2⟩ => Evl.ex_l (g2.gr.ex.trans g2.ex) s) (fun n x H2 hx ⟨F2, g2⟩ => ⟨wipe_one, ?_⟩) (fun H2 ⟨F2, g2⟩ => ?_)
  · obtain ⟨P, hP, hx2⟩ := paired_get' q hx
    rw [List.getElem?_map] at hP
    cases hy : xs[n]? with
    | none => rw [hy] at hP; cases hP
    | some y =>
      rw [hy] at hP
      have hP : R y = P := Option.some.inj hP
      subst hP
      have hm := List.mem_of_getElem? hy
      refine lc_turn g2 ((env_wipe (b.mono (e1.trans g2.gr.ex))).set i ((R y).mono g2.gr.ex hx2)) (ht y hm) (he y hm) ?_ _ fun F3 H3 e3 g3 => ⟨F3, ?_⟩
      · rw [List.length_map]
        exact Nat.lt_of_le_of_lt (Nat.le_trans (List.length_filter_le _ _) (by rw [List.length_take]; omega)) (by omega : xs.length < 100000)
      · rw [take_filter xs f n y hy, List.map_append]
        cases hf : f y
        · rw [hf] at g3; simpa using g3
        · rw [hf] at g3; simpa using g3
  · rw [paired_len q, List.length_map, List.take_length] at g2
    exact k D2 F2 H2 (g1.fresh hD) (e1.trans g2.gr.ex) (g1.back g2)
theorem evn_lcT {α : Type} {xs : List α} {R G : α → MP} {i : Nat} (f : α → Bool) (h : Ev tl Γ M (PTu K (xs.map R)) M1) (hz : xs.length ≤ 50000)
    (ht : ∀ x ∈ xs, EvT t ((Γ.set i none).set i (some (R x))) M1 (· = f x) M1) (he : ∀ x ∈ xs, f x = true → Ev te ((Γ.set i none).set i (some (R x))) M1 (G x) M1) :
    EvN (tLc (iTup K tl) (gName i) t te [i]) Γ M (ML ((xs.filter f).map G)) M1 := fun E F σ H a b Q k => h E F σ H a b _ fun v F1 H1 e1 g1 ⟨p, vs, hp, s, q⟩ => by
  refine ⟨p, hp, ⟨vs, Evl.ex_t g1.ex s⟩, fun D2 hD => ?_⟩
  have gn : Pt ⟨F1, H1, keys M1⟩ F1 ((D2, ML []) :: M1) (upd H1 D2 (.lst [])) := g1.enter.new hD ⟨[], rfl, .nil⟩
  refine lc_tup (xs := vs) (fun n H' => ∃ F', Pt ⟨F1, H1, keys M1⟩ F' ((D2, ML (((xs.take n).filter f).map G)) :: M1) H') ⟨F1, gn⟩ (fun n H2 _ ⟨F2, g2⟩ => Evl.ex_t (g2.gr.ex.trans g2.ex) s) (fun n x H2 hx ⟨F2, g2⟩ => ⟨wipe_one, ?_⟩) (fun H2 ⟨F2, g2⟩ => ?_)
  · obtain ⟨P, hP, hx2⟩ := paired_get' q hx
    rw [List.getElem?_map] at hP
    cases hy : xs[n]? with
    | none => rw [hy] at hP; cases hP
    | some y =>
      rw [hy] at hP
      have hP : R y = P := Option.some.inj hP
      subst hP
      have hm := List.mem_of_getElem? hy
      refine lc_turn g2 ((env_wipe (b.mono (e1.trans g2.gr.ex))).set i ((R y).mono g2.gr.ex hx2)) (ht y hm) (he y hm) ?_ _ fun F3 H3 e3 g3 => ⟨F3, ?_⟩
      · rw [List.length_map]
        exact Nat.lt_of_le_of_lt (Nat.le_trans (List.length_filter_le _ _) (by rw [List.length_take]; omega)) (by omega : xs.length < 100000)
      · rw [take_filter xs f n y hy, List.map_append]
        cases hf : f y
        · rw [hf] at g3; simpa using g3
        · rw [hf] at g3; simpa using g3
  · rw [paired_len q, List.length_map, List.take_length] at g2
    exact k D2 F2 H2 (g1.fresh hD) (e1.trans g2.gr.ex) (g1.back g2)
theorem evn_lcR {tr : TA} {z : Int} {i : Nat} {G : Nat → MP} (f : Nat → Bool) (h : EvA tr Γ M [D K (.int z)] M1) (hz : z ≤ 50000 ∧ -50000 ≤ z)
    (ht : ∀ x : Nat, (x : Int) < z → EvT t ((Γ.set i none).set i (some (D K (.int x)))) M1 (· = f x) M1) (he : ∀ x : Nat, (x : Int) < z → f x = true → Ev te ((Γ.set i none).set i (some (D K (.int x)))) M1 (G x) M1) :
    EvN (tLc (iRng1 tr) (gName i) t te [i]) Γ M (ML (((List.range z.toNat).filter f).map G)) M1 := fun E F σ H a b Q k => h E F σ H a b _ fun vs F1 H1 e1 g1 p => by
  obtain ⟨v, rfl, hv⟩ := ps1 p
  cases dp_int hv
  refine ⟨z, rfl, by omega, by omega, fun D2 hD => ?_⟩
  have gn : Pt ⟨F1, H1, keys M1⟩ F1 ((D2, ML []) :: M1) (upd H1 D2 (.lst [])) := g1.enter.new hD ⟨[], rfl, .nil⟩
  refine lc_range (lo := 0) (n := z.toNat) (fun n H' => ∃ F', Pt ⟨F1, H1, keys M1⟩ F' ((D2, ML (((List.range n).filter f).map G)) :: M1) H') ⟨F1, gn⟩ (fun n H2 hn ⟨F2, g2⟩ => ⟨wipe_one, ?_⟩) (fun H2 ⟨F2, g2⟩ => ?_)
  · have e0 : (0 : Int) + (n : Int) = (n : Int) := Int.zero_add _
    rw [e0]
    have hn2 : (n : Int) < z := by omega
    refine lc_turn g2 ((env_wipe (b.mono (e1.trans g2.gr.ex))).set i (P := D K (.int n)) (.int _)) (ht n hn2) (he n hn2) ?_ _ fun F3 H3 e3 g3 => ⟨F3, ?_⟩
    · rw [List.length_map]
      exact Nat.lt_of_le_of_lt (List.length_filter_le _ _) (by rw [List.length_range]; omega)
    · rw [List.range_succ, List.filter_append, List.map_append]
      cases hf : f n
      · rw [hf] at g3; simpa [hf] using g3
      · rw [hf] at g3; simpa [hf] using g3
  · exact k D2 F2 H2 (g1.fresh hD) (e1.trans g2.gr.ex) (g1.back g2)
theorem et_yes : EvT tYes Γ M (· = true) M := fun E F σ H a b Q k => k true F H (Evl.Ex.refl _) a rfl
end
end Hq
/-! set(x) of a list of ints, told with the order of its table -/
namespace Hq
open PySem PySem.Spec PyProof.Rows L2
/-- the set as it is made -/
abbrev bareSet (w : World) : Obj := { cls := .type "set", dict := none, data := .set #[] 0 (.fresh 0 0 (!w.params.followText "set-order")) }
section
variable {P : Program} {w : World} {A : Around} {E : Value → Shared → Prop} {s : Shared}
set_option maxHeartbeats 3200000 in
theorem setL_call {l : Addr} {its : Array Value} (ns : List Int) {Q : Value → Shared → Prop} (calm : A.handled = none) (hl : s.heap.IsList l its) (hn : IntsAre its.toList ns) (few : ns.length + 1 < scanBound)
    (fin : ∀ (g : Heap) (tk c : Nat), SetR w g s.heap.objs.size (fun j => decide (j ∈ ns)) c → c ≤ ns.length → (∀ b o, s.heap.get? b = some o → g.get? b = some o) → Q (.ref s.heap.objs.size) { s with heap := g, toks := tk }) :
    wpAny (model P w) A (call (.type "set") [.ref l]) Q E s := by
  have same : its.size = ns.length := by simpa using IntsAre.length hn
  obtain ⟨c0, r0, walk0⟩ := F.called_set.mro
  have fact1 := F.called_set.made; have fact2 := F.called_set.sub
  apply wpAny_call; apply codeAny_of_tree
  show wpAny _ _ (callAny (.type "set") ⟨_, _⟩) _ _ _
  apply wpAny_pure; refine ⟨Code.quiet_builtin _ (by decide +kernel), ?_⟩; apply codeAny_builtin F.entry_type_call
  rw [show _ = _ from Around.under_plain (weight_type_call_type "set" [Value.ref l] []) rfl]
  have fact3 := F.called_set.notType; have fact4 := F.called_set.canCreate
  have fact5 := F.typeCall_set_1 (Value.ref l)
  repeat any_goals (first | assumption | wp_step)
  apply codeAny_mono (code_set_led1 (P := P) (w := w) (s := s) (.ref l) (E := E) (Q₁ := fun v z => v = .ref s.heap.objs.size ∧ z = { s with heap := s.heap.push (bareSet w) }) ⟨rfl, rfl⟩)
  intro res z hz
  match res, hz with
  | .error _, hz => exact hz
  | .ok fl, hz => ?_
  cases fl with
  | ret v =>
    obtain ⟨rfl, rfl⟩ := hz
    have at0 : (s.heap.push (bareSet w)).get? s.heap.objs.size = some (bareSet w) := Heap.get?_push_size _ rfl
    have ty0 : Shared.TypeIs { s with heap := s.heap.push (bareSet w) } (.ref s.heap.objs.size) "set" := ⟨bareSet w, at0, rfl⟩
    have fact6 := F.called_set.init.lookup
    have fact7 := F.called_set.init.bind (Value.ref s.heap.objs.size)
    repeat any_goals (first | assumption | wp_step)
    apply codeAny_mono (codeAny_call_builtin (R := wants (fun v z => v = Value.none ∧ ∃ g tk c, z = { s with heap := g, toks := tk } ∧ SetR w g s.heap.objs.size (fun j => decide (j ∈ ns)) c ∧ c ≤ ns.length ∧
      ∀ b o, s.heap.get? b = some o → g.get? b = some o) E) F.called_set.init.plain F.entry_set_init (check_set_init_1 ty0 ?first))
    case first =>
      obtain ⟨ob, hob, hcls, cnt, hdat⟩ := hl
      obtain ⟨k1, k2, k3, k4⟩ := ob
      dsimp only at hcls hdat; subst hcls hdat
      have at1 : (s.heap.push (bareSet w)).get? l = some ⟨.type "list", k2, .seq its cnt, k4⟩ := Heap.get?_push_of_some _ hob
      have n1 := F.sub_list_set; have n2 := F.sub_list_frozenset
      have n3 : (Value.type "list" == Value.type "dict") = false := by decide
      have l1 : (s.heap.push (bareSet w)).IsList l its := ⟨_, at1, rfl, cnt, rfl⟩
      unfold Builtin.«set.__init__» Builtin.Frozenset.updateFrom noKeywords
      generalize iter_is : pyIter = walkers
      wp_walk
      subst iter_is
      apply wpAny_pyIter_list l1
      apply wpAny_bind; apply wpAny_runValue
      have lt0 : l < s.heap.objs.size := Heap.lt_size hob
      have sz1 : (s.heap.push (bareSet w)).objs.size = s.heap.objs.size + 1 := Heap.size_push ..
      have off1 : l ≠ (s.heap.push (bareSet w)).objs.size := by rw [sz1]; exact Nat.ne_of_lt (Nat.lt_succ_of_lt lt0)
      have off2 : s.heap.objs.size ∉ [(s.heap.push (bareSet w)).objs.size, l] := by
        rw [sz1]; intro m
        rcases List.mem_cons.mp m with e | m
        · exact Nat.ne_of_lt (Nat.lt_succ_self _) e
        · exact Nat.ne_of_gt lt0 (List.mem_singleton.mp m)
      have vals : ∀ (i : Nat) (v : Value), its[i]? = some v → ∃ k t, ns[i]? = some k ∧ v = .int k t := by
        intro i v hv
        obtain ⟨h1, h2⟩ := Array.getElem?_eq_some_iff.mp hv
        have h3 : i < ns.length := same ▸ h1
        obtain ⟨t, e⟩ := IntsAre.int_at hn i v (by simpa using hv)
        refine ⟨ns[i], t, List.getElem?_eq_getElem h3, e.trans ?_⟩
        rw [List.getD_eq_getElem?_getD, List.getElem?_eq_getElem h3]; rfl
      apply set_update_ints ((Walks.list (show A.in1.in1.in1.handled = none by simp [calm]) _ l off1 its).toS) s.heap.objs.size off2 ns same few vals (its.size - 0) 0 _ (by omega) (Nat.zero_le _)
        ⟨⟨_, Heap.get?_push_size _ rfl, rfl, rfl⟩, l1.push _⟩
      · exact ⟨0, Nat.le_refl 0, setR_new_at (Heap.get?_push_of_some _ at0)⟩
      · rintro ⟨g, g2, g3, g4, g5⟩ c moved hc hS
        obtain rfl : g2 = s.gens := moved.gens
        obtain rfl : g3 = s.drawn := moved.drawn
        obtain rfl : g5 = s.os := moved.os
        show wpAny _ _ (pure _) _ _ _
        apply wpAny_pure
        show wpAny _ _ (ret Value.none) _ _ _
        refine wpAny_pure ⟨rfl, g, g4, c, rfl, hS, same ▸ hc, fun b o e => ?_⟩
        have lt1 : b < s.heap.objs.size := Heap.lt_size e
        refine moved.heap b o (fun m => ?_) (Heap.get?_push_of_some _ (Heap.get?_push_of_some _ e))
        rcases List.mem_cons.mp m with e | m
        · exact Nat.ne_of_lt lt1 e
        · rw [sz1] at m; exact Nat.ne_of_lt (Nat.lt_succ_of_lt lt1) (List.mem_singleton.mp m)
    · intro res z hz
      match res, hz with
      | .error _, hz => exact hz
      | .ok fl, hz => ?_
      cases fl with
      | ret v =>
        obtain ⟨rfl, g, tk, c, rfl, hS, hc, stood⟩ := hz
        repeat any_goals (first | assumption | wp_step)
        exact fin g tk c hS hc stood
      | _ => exact hz.elim
  | _ => exact hz.elim
end
end Hq
namespace Hq
open PySem L2
/-! ### promises -/
def Prom (ps : List MP) (M : Ms) (P : MP) (M' : Ms) (vs : List V) (H : Hp) (Q : VK) : Prop := ∃ F, Wd F M H ∧ Ps F vs ps ∧ Rt ⟨F, H, keys M⟩ M' P Q
section
variable {K : PySem.W.Frag} {E E' : Ent} {F F' H H' : Hp} {M M' Mc Mc' M1 M2 M3 : Ms} {Γ Γ' : Gm} {P P' P1 P2 : MP} {O O' : MO} {q : Addr} {σ : St} {o o' : HO} {j : Nat}
variable {te ta tb tc tl : TE} {t u : TT} {r : R2} {D1 : Ends} {tu tw : TS} {ps : List MP} {sp : Sp} {X : XK} {tr : TA} {C : Addr} {fps : List (Str × MP)}
theorem Pt.frame {ks : List Addr} (h : Pt E F M H) (g : Pt ⟨F, H, ks⟩ F' Mc H') (hk : ∀ a ∈ ks, a ∈ keys M) (hM : keys M' = keys M) (hr : ∀ r ∈ M', (r.1 ∉ ks ∧ r ∈ M) ∨ r ∈ Mc) : Pt E F' M' H' := by
  refine h.back ⟨⟨g.gr.ex, fun a u h1 h2 => g.gr.keep a u (fun z => h1 (hk a z)) h2, g.gr.off, g.gr.stay, g.gr.nott⟩, ⟨g.wd.ex, by rw [hM]; exact h.wd.nd, fun r hm => ?_⟩, fun r hm => .inl ?_⟩
  · rcases hr r hm with ⟨n, hm2⟩ | hm2
    · obtain ⟨a, u, hu, b⟩ := h.wd.own r hm2
      exact ⟨g.gr.off _ a (show H r.1 ≠ none by rw [hu]; exact fun z => by cases z) (fun xs z => r.2.nt b xs (by have z : H r.1 = some (HO.tup xs) := z; rw [hu] at z; exact Option.some.inj z)), u, g.gr.keep _ _ n hu, r.2.mono g.gr.ex b⟩
    · exact g.wd.own r hm2
  · show r.1 ∈ keys M
    rw [← hM]
    exact List.mem_map_of_mem (f := (·.1)) hm
theorem set_same {α : Type} {l : List α} {j : Nat} {x : α} (e : l[j]? = some x) : l.set j x = l := by
  obtain ⟨h, e⟩ := List.getElem?_eq_some_iff.mp e
  rw [← e, List.set_getElem_self]
theorem rc_prom0 {dvs : List V} (hs : ∀ vs H Q, Prom ps [] P [] vs H Q → sp (vs ++ dvs) H Q X) : RC (fun vs H Q => sp (vs ++ dvs) H Q X) ps M P M := fun E F H vs a p Q k =>
  hs vs H Q ⟨F, ⟨a.ex, List.nodup_nil, fun r hr => by cases hr⟩, p, fun v F' H' g hp => k v F' H' g.gr.ex (a.frame g (fun _ z => by cases z) rfl fun r hr => .inl ⟨by simp [keys], hr⟩) hp⟩
theorem rc_prom1 {dvs : List V} (e : M[j]? = some (q, O)) (hs : ∀ vs H Q, Prom ps [(q, O)] P [(q, O')] vs H Q → sp (vs ++ dvs) H Q X) : RC (fun vs H Q => sp (vs ++ dvs) H Q X) ps M P (M.set j (q, O')) := fun E F H vs a p Q k => by
  have hm := List.mem_of_getElem? e
  refine hs vs H Q ⟨F, ⟨a.ex, by simp [keys], fun r hr => ?_⟩, p, fun v F' H' g hp => k v F' H' g.gr.ex (a.frame g (fun z hz => ?_) (keys_set e) fun r hr => ?_) hp⟩
  · rw [List.mem_singleton.mp hr]; exact a.wd.own _ hm
  · rw [List.mem_singleton.mp hz]; exact List.mem_map_of_mem (f := (·.1)) hm
  · rcases mem_set_ne a.wd.nd e r hr with z | ⟨z, n⟩
    · rw [z]; exact .inr List.mem_cons_self
    · exact .inl ⟨fun w => n (List.mem_singleton.mp w), z⟩
theorem rc_prom1s {dvs : List V} (e : M[j]? = some (q, O)) (hs : ∀ vs H Q, Prom ps [(q, O)] P [(q, O)] vs H Q → sp (vs ++ dvs) H Q X) : RC (fun vs H Q => sp (vs ++ dvs) H Q X) ps M P M := by
  have := rc_prom1 (O' := O) e hs
  rw [set_same e] at this
  exact this
/-- calls -/
theorem ev_call0 (h : EvA tr Γ M ps M1) (hs : ∀ vs H Q, Prom ps [] P [] vs H Q → sp (vs ++ []) H Q X) : Ev (tCall sp [] X tr) Γ M P M1 := ev_call h (rc_prom0 hs)
theorem ev_call1 (h : EvA tr Γ M ps M1) (e : M1[j]? = some (q, O)) (hs : ∀ vs H Q, Prom ps [(q, O)] P [(q, O)] vs H Q → sp (vs ++ []) H Q X) : Ev (tCall sp [] X tr) Γ M P M1 := ev_call h (rc_prom1s e hs)
/-- the beginning of a def -/
theorem go_start {N : List Str} {vs : List V} {f : St → Hp → Prop} (w : Wd F M H) (p : Ps F vs ps) (hΓ : Γ = ps.map some ++ List.replicate (N.length - ps.length) none) (h : Nx ⟨F, H, keys M⟩ Γ M f) : f (L2.start N vs) H := by
  refine h _ _ ⟨F, Pt.start w, ?_⟩
  subst hΓ
  unfold L2.start
  rw [paired_len p]
  have base : ∀ {vs : List V} {ps : List MP}, Ps F vs ps → EnvOk F (vs.map some) (ps.map some) := by
    intro vs ps p
    induction p with
    | nil => exact .nil
    | cons a t ih => exact .cons (fun Q hQ => by cases hQ; exact ⟨_, rfl, a⟩) ih
  refine paired_app (base p) ?_
  · generalize N.length - ps.length = n
    induction n with
    | zero => exact .nil
    | succ n ih => exact .cons (fun Q hQ => by cases hQ) ih
theorem nx_exM {α : Type} {R : α → MO} {f} (e : M[j]? = some (q, MX R)) (h : ∀ x, Nx E Γ (M.set j (q, R x)) f) : Nx E Γ M f := by
  rintro σ H ⟨F, a, b⟩
  obtain ⟨fq, u, hu, x, hx⟩ := a.at e
  refine h x σ H ⟨F, ?_, b⟩
  have g := a.mut (o' := u) (O' := R x) e hx
  have e2 : upd H q u = H := by
    funext z
    by_cases y : z = q
    · subst y; rw [upd_same, hu]
    · rw [upd_ne y]
  rw [e2] at g
  exact g
theorem nx_anM {φ : Prop} {R : MO} {f} (e : M[j]? = some (q, MA φ R)) (h : φ → Nx E Γ (M.set j (q, R)) f) : Nx E Γ M f := by
  rintro σ H ⟨F, a, b⟩
  obtain ⟨fq, u, hu, hx⟩ := a.at e
  exact h hx.1 σ H ⟨F, a.to (O := MA φ R) (O' := R) (fun _ _ z => z.2) e, b⟩
theorem Rt.to {f : VK} (h : Rt E M' P f) (e : M[j]? = some (q, O)) (l : ∀ F o, O.p F o → O'.p F o) (hM : M' = M.set j (q, O')) : Rt E M P f := fun v F H a p => h v F H (by rw [hM]; exact a.to l e) p
/-- xs.pop() -/
theorem ev_pop (ho : Ev ta Γ M (Own q) M) (e : M[j]? = some (q, ML ps)) (hp : ps[ps.length - 1]? = some P) : Ev (tBM0 K "list" rPop ta) Γ M P (M.set j (q, ML ps.dropLast)) := fun E F σ H a b Q k => ho E F σ H a b _ fun v F1 H1 e1 g1 p1 => by
  have p1 : v = .ref q := p1
  subst p1
  obtain ⟨_, o, ho1, ws, rfl, s⟩ := g1.at e
  obtain ⟨x, hx, px⟩ := paired_get s hp
  refine ⟨.inl ⟨rfl, ws, SqL.of ho1⟩, q, ws, x, rfl, rfl, ho1, by rw [paired_len s]; exact hx, ?_⟩
  have sd : ∀ {ws : List V} {ps : List MP}, Ps F1 ws ps → Ps F1 ws.dropLast ps.dropLast := by
    intro ws ps s
    induction s with
    | nil => exact .nil
    | cons a t ih =>
      cases t with
      | nil => exact .nil
      | cons a2 t2 => exact .cons a ih
  exact k x F1 _ e1 (g1.mut e ⟨_, rfl, sd s⟩) px
/-! ### instances -/
def PIns (C : Addr) (fps : List (Str × MP)) : MP := ⟨fun F v => ∃ a dx fs, v = .ref a ∧ F a = some (.ins C dx fs) ∧ ∀ f ∈ fps, ∃ x, fs.lookup f.1 = some x ∧ f.2.p F x,
  fun e ⟨a, dx, fs, h1, h2, h3⟩ => ⟨a, dx, fs, h1, e _ _ h2, fun f hf => let ⟨x, y, z⟩ := h3 f hf; ⟨x, y, f.2.mono e z⟩⟩⟩
def MIns (C : Addr) (n : Nat) (fps : List (Str × MP)) : MO := ⟨fun F o => ∃ dx fs, o = .ins C dx fs ∧ fs.length ≤ n ∧ ∀ f ∈ fps, ∃ x, fs.lookup f.1 = some x ∧ f.2.p F x,
  fun e ⟨dx, fs, h1, h2, h3⟩ => ⟨dx, fs, h1, h2, fun f hf => let ⟨x, y, z⟩ := h3 f hf; ⟨x, y, f.2.mono e z⟩⟩, fun ⟨dx, fs, h, _⟩ xs z => by rw [h] at z; cases z⟩
theorem fr_Ins {n : Nat} : (Fr (MIns C n fps)).le (PIns C fps) := fun F v ⟨q, o, a, b, dx, fs, e, h⟩ => by subst e; exact ⟨q, dx, fs, a, b, h.2⟩
theorem ev_fld {f : Str} (h : Ev ta Γ M (PIns C fps) M1) (hf : (f, P) ∈ fps) (hc : Cls K C) (hn : NoAttr K C f) : Ev (tFld K ta f) Γ M P M1 := fun E F σ H a b Q k => h E F σ H a b _ fun v F1 H1 e1 g1 ⟨p, dx, fs, h1, h2, h3⟩ => by
  obtain ⟨x, hx, px⟩ := h3 _ hf
  exact ⟨p, C, dx, fs, x, h1, g1.ex _ _ h2, hc, hn, hx, k x F1 H1 e1 g1 px⟩
theorem putF_le (f : Str) (v : V) : ∀ fs : List (Str × V), (putF f v fs).length ≤ fs.length + 1
  | [] => Nat.le_refl _
  | (g, x) :: r => by
    unfold putF
    split
    · exact Nat.le_succ _
    · exact Nat.succ_le_succ (putF_le f v r)
theorem go_fld {f : Str} {n : Nat} (hv : Ev tb Γ M P M1) (ho : Ev ta Γ M1 (Own q) M1) (e : M1[j]? = some (q, MIns C n fps)) (hz : n < 999) (hf : ∀ g ∈ fps, g.1 ≠ f) (hc : Cls K C) (hn : NoAttr K C f) (k : Nx E Γ (M1.set j (q, MIns C (n + 1) ((f, P) :: fps))) D1.nx) :
    Nx E Γ M (sFld K ta tb f D1) := fun σ H ⟨F, a, b⟩ => hv E F σ H a b _ fun y F1 H1 e1 g1 p1 => ho E F1 σ H1 g1 (b.mono e1) _ fun v F2 H2 e2 g2 p2 => by
  have p2 : v = .ref q := p2
  subst p2
  obtain ⟨_, o, ho1, dx, fs, rfl, hl, h3⟩ := g2.at e
  refine ⟨q, C, dx, fs, rfl, ho1, hc, hn, by omega, ?_⟩
  refine k _ _ ⟨F2, g2.mut e ⟨dx, _, rfl, Nat.le_trans (putF_le f y fs) (by omega), fun g hg => ?_⟩, b.mono (e1.trans e2)⟩
  rcases List.mem_cons.mp hg with z | z
  · subst z
    exact ⟨y, by rw [lookup_putF, if_pos rfl], P.mono e2 p1⟩
  · obtain ⟨x, hx, px⟩ := h3 g z
    exact ⟨x, by rw [lookup_putF, if_neg (hf g z)]; exact hx, px⟩
theorem Pt.junk (h : Pt E F M H) (hp : H q = none) : Pt E F M (upd H q o) := by
  have ne : ∀ {a u}, H a = some u → a ≠ q := fun e => ne_of_none e hp
  refine ⟨⟨h.gr.ex, fun a u h1 h2 => ?_, h.gr.off, fun a h1 => ?_, fun a h1 h2 => ?_⟩, ⟨h.wd.ex.trans (Evl.Ex.new hp), h.wd.nd, fun r hr => ?_⟩, h.fr⟩
  · have := h.gr.keep a u h1 h2
    rw [upd_ne (ne this)]; exact this
  · by_cases e : a = q
    · subst e; rw [upd_same]; exact fun z => by cases z
    · rw [upd_ne e]; exact h.gr.stay a h1
  · rw [upd_ne (fun e => h.gr.stay a h1 (by rw [e]; exact hp))]; exact h.gr.nott a h1 h2
  · obtain ⟨a, u, hu, b⟩ := h.wd.own r hr
    exact ⟨a, u, by rw [upd_ne (ne hu)]; exact hu, b⟩
theorem evn_make (h : EvA tr Γ M ps M1) (hs : ∀ x vs H Q, Prom (Own x :: ps) [(x, MIns C 0 [])] (D K .none) [(x, O)] vs H Q → sp (vs ++ []) H Q X) : EvN (tMake C sp [] X tr) Γ M O M1 := fun E F σ H a b Q k =>
  h E F σ H a b _ fun vs F1 H1 e1 g1 p1 => fun x dx hx hdx hne => by
    have hx2 : upd H1 dx (.own x) x = none := by rw [upd_ne hne.symm]; exact hx
    have g2 : Pt E F1 ((x, MIns C 0 []) :: M1) (upd (upd H1 dx (.own x)) x (.ins C dx [])) := (g1.junk hdx).new hx2 ⟨dx, [], rfl, Nat.le_refl _, fun f hf => by cases hf⟩
    refine hs x (.ref x :: vs) _ _ ⟨F1, ⟨g2.ex, by simp [keys], fun r hr => ?_⟩, .cons rfl p1, fun v F' H' g hv => ⟨dp_non hv, ?_⟩⟩
    · rw [List.mem_singleton.mp hr]; exact g2.wd.own _ List.mem_cons_self
    · refine k x F' H' (g1.fresh hx) (e1.trans g.gr.ex) (g2.frame g (fun z hz => ?_) rfl fun r hr => ?_)
      · rw [List.mem_singleton.mp hz]; exact List.mem_cons_self
      · rcases List.mem_cons.mp hr with z | z
        · rw [z]; exact .inr List.mem_cons_self
        · exact .inl ⟨fun w => (List.nodup_cons.mp (show (x :: keys M1).Nodup from g2.wd.nd)).1 (by rw [show x = r.1 from (List.mem_singleton.mp w).symm]; exact List.mem_map_of_mem (f := (·.1)) z), List.mem_cons_of_mem _ z⟩
/-! ### isinstance of data -/
def PV (v : V) : MP := ⟨fun _ x => x = v, fun _ h => h⟩
theorem ev_pv {v : V} : Ev (tC v) Γ M (PV v) M := ev_cv fun _ => rfl
def tyName : PyData → String
  | .none => "NoneType" | .bool _ => "bool" | .int _ => "int" | .str _ => "str" | .list _ => "list" | .tuple _ => "tuple" | .dict _ => "dict"
theorem sql_ty {a : Addr} {xs : List V} (h : SqL K H a xs) : TyX K H (.ref a) (.type "list") := by
  rcases h with (h | ⟨o, h⟩) | ⟨o, its, n, h1, h2, _⟩
  · exact .base (.lst h)
  · exact .base (.frz h)
  · exact .kList h1 h2
theorem sqt_ty {a : Addr} {xs : List V} (h : SqT K H a xs) : TyX K H (.ref a) (.type "tuple") := by
  rcases h with (h | ⟨o, h⟩) | ⟨o, its, n, h1, h2, _⟩
  · exact .base (.tup h)
  · exact .fTuple h
  · exact .kTuple h1 h2
theorem dp_ty {v : V} {d : PyData} (h : Dp K H v d) : TyX K H v (.type (tyName d)) := by
  cases h with
  | non => exact .base .non
  | bl b => exact .base (.bl b)
  | int i => exact .base (.int i)
  | str x => exact .base (.str x)
  | lst s _ => exact sql_ty s
  | tup s _ => exact sqt_ty s
theorem rc_isi {d : PyData} {T : String} {b : Bool} (hb : kitB (tyName d) T = some b) : RC (rIsi K) [D K d, PV (.ty T)] M (D K (.bool b)) M := fun E F H vs a h Q k => by
  obtain ⟨v, w, rfl, hv, hw⟩ := ps2 h
  have hw : w = .ty T := hw
  subst hw
  exact ⟨v, .ty T, .type (tyName d), .type T, b, rfl, .ty T, dp_ty (Dp.mono a.ex hv), kit_ty hb, k _ F H (Evl.Ex.refl _) a (.bl b)⟩
/-! ### sorted -/
theorem ints_map {ns : List Int} {vs : List V} (h : Ps F vs (ns.map fun n => D K (.int n))) : vs = ns.map V.int := by
  have := ps_all (K := K) (ds := ns.map PyData.int) (by rw [List.map_map]; exact h)
  exact flat_ints this
theorem map_ints (ns : List Int) : Ps F (ns.map V.int) (ns.map fun n => D K (.int n)) := by
  induction ns with
  | nil => exact .nil
  | cons n ns ih => exact .cons (.int n) ih
abbrev MInts (K : PySem.W.Frag) (ns : List Int) : MO := ML (ns.map fun n => D K (.int n))
theorem rcn_sortedI {ns : List Int} : RCN (rSortedI K) [PLi K (ns.map fun n => D K (.int n))] M (MX fun ns' : List Int => MA (ns'.Perm ns ∧ ns'.Pairwise (· ≤ ·)) (MInts K ns')) M := fun E F H vs a h Q k => by
  obtain ⟨v, rfl, b, ws, rfl, s, p⟩ := ps1 h
  cases ints_map p
  exact ⟨b, ns, rfl, Evl.ex_l a.ex s, fun ns' l h1 h2 hl => k l F _ (a.fresh hl) (Evl.Ex.refl _) (a.new hl ⟨ns', ⟨h1, h2⟩, _, rfl, map_ints ns'⟩)⟩
/-- set(x): a list or tuple of ints -/
def rSetI (K : PySem.W.Frag) (w : World) : List V → Hp → VK → Prop := fun xs H Q => ∃ (a : Addr) (ns : List Int), xs = [V.ref a] ∧ (SqL K H a (ns.map V.int) ∨ SqT K H a (ns.map V.int)) ∧ ns.length < 63 ∧
  ∀ p c, H p = none → c ≤ ns.length → Q (.ref p) (upd H p (SetO w p (fun j => decide (j ∈ ns)) c))
theorem vals_ints {ns : List Int} {us : List Value} (r : Vals (ns.map V.int) us) : PyProof.Rows.IntsAre us ns := by
  induction ns generalizing us with
  | nil => cases r; exact .nil
  | cons n ns ih =>
    cases r with
    | cons a t =>
      obtain ⟨tk, rfl⟩ := a
      exact .cons n tk (ih t)
theorem cr_setI {X : Cx} (hc : X.calm = true) : CallR X (.type "set") (rSetI X.K X.w) := by
  intro pins s σ H xs us Q I r h
  obtain ⟨a, ns, rfl, hs, few, q⟩ := h
  have few2 : ns.length + 1 < scanBound := Nat.lt_trans (by omega : ns.length + 1 < 64) (by decide)
  rw [Vals.ref1 r]
  have fin : ∀ (g : Heap) (tk c : Nat), SetR X.w g s.heap.objs.size (fun j => decide (j ∈ ns)) c → c ≤ ns.length → (∀ b o, s.heap.get? b = some o → g.get? b = some o) → EP X pins σ Q (.ref s.heap.objs.size) { s with heap := g, toks := tk } := by
    intro g tk c hS hc k
    exact ⟨.ref _, upd H s.heap.objs.size (SetO X.w s.heap.objs.size (fun j => decide (j ∈ ns)) c), I.laid (t' := tk) k (Nat.le_refl _) (setO_new hS), rfl, q _ c (I.hok.fresh (Nat.le_refl _)) hc⟩
  rcases hs with hs | hs
  · obtain ⟨its, rv, hl, _⟩ := I.list hs
    exact setL_call ns (I.ok.hd hc) hl.isList (by simpa using vals_ints rv) few2 fin
  · obtain ⟨its, rv, hl, _⟩ := I.tuple hs
    exact call_set_tupI ns (I.ok.hd hc) hl (by simpa using vals_ints rv) few2 fin
theorem evn_sortedSet {w : World} {ns : List Int} (h : Ev te Γ M P M1) (hP : ∀ E F H v, Pt E F M1 H → P.p F v → ∃ a, v = .ref a ∧ (SqL K H a (ns.map V.int) ∨ SqT K H a (ns.map V.int))) (hn : ns.length < 63) :
    EvN (tCB (rSortedSet w) (tCons (tCB (rSetI K w) (tCons te tNil)) tNil)) Γ M (MX fun ns' : List Int => MA (ns'.Pairwise (· < ·) ∧ ∀ k, k ∈ ns' ↔ k ∈ ns) (MInts K ns')) M1 := fun E F σ H a b Q k => h E F σ H a b _ fun v F1 H1 e1 g1 p1 => by
  obtain ⟨x, rfl, hs⟩ := hP _ _ _ _ g1 p1
  refine ⟨x, ns, rfl, hs, hn, fun p c hp hc => ⟨p, _, c, rfl, upd_same, by omega, fun ns' l h1 h2 h3 hl => ?_⟩⟩
  have g2 : Pt E F1 M1 (upd H1 p (SetO w p (fun j => decide (j ∈ ns)) c)) := g1.junk hp
  exact k l F1 _ (g2.fresh hl) e1 (g2.new hl ⟨ns', ⟨h1, fun k => by rw [h2]; exact decide_eq_true_iff⟩, _, rfl, map_ints ns'⟩)
theorem pli_ints {ns : List Int} : ∀ E F H v, Pt E F M1 H → (PLi K (ns.map fun n => D K (.int n))).p F v → ∃ a, v = .ref a ∧ (SqL K H a (ns.map V.int) ∨ SqT K H a (ns.map V.int)) := fun E F H v g ⟨a, vs, e, s, p⟩ => by cases ints_map p; exact ⟨a, e, .inl (Evl.ex_l g.ex s)⟩
theorem own_ints {ns : List Int} (h : M1[j]? = some (q, MInts K ns)) : ∀ E F H v, Pt E F M1 H → (Own q).p F v → ∃ a, v = .ref a ∧ (SqL K H a (ns.map V.int) ∨ SqT K H a (ns.map V.int)) := fun E F H v g p => by
  obtain ⟨_, o, ho, vs, rfl, s⟩ := g.at h
  cases ints_map s
  exact ⟨q, p, .inl (SqL.of ho)⟩
theorem dtup_ints {ns : List Int} : ∀ E F H v, Pt E F M1 H → (D K (.tuple (ns.map PyData.int))).p F v → ∃ a, v = .ref a ∧ (SqL K H a (ns.map V.int) ∨ SqT K H a (ns.map V.int)) := fun E F H v g h => by
  obtain ⟨a, xs, e, s, p⟩ := dp_tup h
  cases flat_ints p
  exact ⟨a, e, .inr (Evl.ex_t g.ex s)⟩
/-! ### the draws -/
def MDr (K : PySem.W.Frag) : MO := MX fun ns : List Int => MA (ns.length ≤ 1000) (MInts K ns)
abbrev PIn (K : PySem.W.Frag) (lo hi : Int) : MP := PEx fun x : Int => PAn (lo ≤ x ∧ x < hi) (D K (.int x))
end
end Hq
namespace Hq
open PySem L2
section
variable {K : PySem.W.Frag} {E E' : Ent} {F F' H H' : Hp} {M M' Mc Mc' M1 M2 M3 : Ms} {Γ Γ' : Gm} {P P' P1 P2 : MP} {O O' : MO} {q : Addr} {σ : St} {o o' : HO} {j : Nat}
variable {te ta tb tc tl : TE} {t u : TT} {r : R2} {D1 : Ends} {tu tw : TS} {ps : List MP} {sp : Sp} {X : XK} {tr : TA} {C : Addr} {fps : List (Str × MP)}
theorem Prom.len {vs : List V} {Q : VK} (h : Prom ps M P M' vs H Q) : vs.length = ps.length := by obtain ⟨F, _, p, _⟩ := h; exact paired_len p
theorem rv_eqI {i k : Int} : RV rEq (D K (.int i)) (D K (.int k)) M (D K (.bool (decide (i = k)))) M := rv_val (z := .bl _) (fun _ => .bl _) fun F H x y p1 p2 _ Q q => by
  cases dp_int p1; cases dp_int p2
  refine ⟨rfl, ?_⟩
  have e : decide (V.int i = V.int k) = decide (i = k) := by simp
  rw [e]; exact q
theorem rv_neI {i k : Int} : RV rNe (D K (.int i)) (D K (.int k)) M (D K (.bool (!decide (i = k)))) M := rv_val (z := .bl _) (fun _ => .bl _) fun F H x y p1 p2 _ Q q => by
  cases dp_int p1; cases dp_int p2
  refine ⟨rfl, ?_⟩
  have e : decide (V.int i = V.int k) = decide (i = k) := by simp
  rw [e]; exact q
theorem ev_neg {i : Int} (h : Ev ta Γ M (D K (.int i)) M1) : Ev (tUn (rU fun i => .int (-i)) ta) Γ M (D K (.int (-i))) M1 := fun E F σ H a b Q k => h E F σ H a b _ fun v F1 H1 e1 g1 p1 => by
  cases dp_int p1
  exact ⟨i, rfl, k _ F1 H1 e1 g1 (.int _)⟩
theorem call0 (h : EvA tr Γ M ps M1) (hs : ∀ vs H Q, Prom ps [] P [] vs H Q → sp vs H Q X) : Ev (tCall sp [] X tr) Γ M P M1 := ev_call0 h fun vs H Q z => by rw [List.append_nil]; exact hs vs H Q z
theorem call1 (h : EvA tr Γ M ps M1) (e : M1[j]? = some (q, O)) (hs : ∀ vs H Q, Prom ps [(q, O)] P [(q, O)] vs H Q → sp vs H Q X) : Ev (tCall sp [] X tr) Γ M P M1 := ev_call1 h e fun vs H Q z => by rw [List.append_nil]; exact hs vs H Q z
theorem make0 (h : EvA tr Γ M ps M1) (hs : ∀ x vs H Q, Prom (Own x :: ps) [(x, MIns C 0 [])] (D K .none) [(x, O)] vs H Q → sp vs H Q X) : EvN (tMake C sp [] X tr) Γ M O M1 := evn_make h fun x vs H Q z => by rw [List.append_nil]; exact hs x vs H Q z
theorem EvA.ex1 : True := True.intro
/-- the first argument named -/
theorem ev_cbX {α : Type} {R : α → MP} {rc : List V → Hp → VK → Prop} (h : Ev te Γ M (PEx R) M1) (hr : ∀ x, RC rc [R x] M1 P M2) : Ev (tCB rc (tCons te tNil)) Γ M P M2 := ev_cb (ea_cons h ea_nil) (RC.ex1 hr)
theorem go_forX : True := True.intro
/-- something that is there, named ahead of what follows -/
theorem nx_anyE {α : Type} {R : α → MP} {tu : TE → TS} (h : True) : True := True.intro
theorem EvA.in1 {R R' : MP} (l : R.le R') (h : EvA tr Γ M (R :: ps) M1) : EvA tr Γ M (R' :: ps) M1 := fun E F σ H a b Q k => h E F σ H a b Q fun vs F' H' e g p => k vs F' H' e g (by
  cases p with
  | cons z t => exact .cons (l _ _ z) t)
/-- arguments with something to name -/
def EvAX {α : Type} (ta : TA) (Γ : Gm) (M : Ms) (ps : α → List MP) (M' : Ms) : Prop := ∀ E F σ H, Pt E F M H → EnvOk F σ Γ → ∀ Q : List V → Hp → Prop, (∀ x vs F' H', Ex F F' → Pt E F' M' H' → Ps F' vs (ps x) → Q vs H') → ta σ H Q
theorem eax1 {α : Type} {R : α → MP} (h : Ev te Γ M (PEx R) M1) : EvAX (tCons te tNil) Γ M (fun x => [R x]) M1 := fun E F σ H a b Q k => h E F σ H a b _ fun v F1 H1 e1 g1 ⟨x, p1⟩ => k x _ F1 H1 e1 g1 (.cons p1 .nil)
/-- range(e), e within known bounds -/
theorem go_forRX {i : Nat} {φ : Int → Prop} (h : Ev te Γ M (PEx fun z : Int => PAn (φ z) (D K (.int z))) M1) (hb : ∀ z, φ z → z ≤ 1000000 ∧ -1000000 ≤ z)
    (k : ∀ z, φ z → ∀ tr', EvA tr' Γ M1 [D K (.int z)] M1 → Nx E Γ M1 (tFor (iRng1 tr') (gName i) tu D1)) : Nx E Γ M (tFor (iRng1 (tCons te tNil)) (gName i) tu D1) := fun σ H ⟨F, a, b⟩ => h E F σ H a b _ fun v F1 H1 e1 g1 ⟨z, hz, p1⟩ => by
  cases dp_int p1
  have := k z hz (tCons (tC (.int z)) tNil) (ea_cons ev_int ea_nil) σ H1 ⟨F1, g1, b.mono e1⟩
  exact this
theorem evn_lcRX {i : Nat} {φ : Int → Prop} (h : Ev te Γ M (PEx fun z : Int => PAn (φ z) (D K (.int z))) M1) (k : ∀ z, φ z → EvN (tLc (iRng1 (tCons (tC (.int z)) tNil)) (gName i) t tb [i]) Γ M1 O M1) : EvN (tLc (iRng1 (tCons te tNil)) (gName i) t tb [i]) Γ M O M1 := fun E F σ H a b Q kk => h E F σ H a b _ fun v F1 H1 e1 g1 ⟨z, hz, p1⟩ => by
  cases dp_int p1
  exact k z hz E F1 σ H1 g1 (b.mono e1) Q fun q F' H' f e g => kk q F' H' f (e1.trans e) g
/-- a list of items each of which is some x with φ x -/
theorem ps_name {α : Type} {φ : α → Prop} {R : α → MP} : ∀ {n : Nat} {vs : List V}, Ps F vs (List.replicate n (PEx fun x => PAn (φ x) (R x))) → ∃ xs : List α, xs.length = n ∧ (∀ x ∈ xs, φ x) ∧ Ps F vs (xs.map R)
  | 0, _, h => by cases h; exact ⟨[], rfl, fun _ h => (by cases h), .nil⟩
  | n + 1, _, h => by
    cases h with
    | cons a t =>
      obtain ⟨x, hx, p⟩ := a
      obtain ⟨xs, h1, h2, h3⟩ := ps_name t
      exact ⟨x :: xs, by rw [List.length_cons, h1], fun y hy => by
        rcases List.mem_cons.mp hy with e | e
        · rw [e]; exact hx
        · exact h2 y e, .cons p h3⟩
/-- the same as an own list -/
theorem ml_name {α : Type} {φ : α → Prop} {R : α → MP} {n : Nat} : ∀ F o, (ML (List.replicate n (PEx fun x => PAn (φ x) (R x)))).p F o → (MX fun xs : List α => MA (xs.length = n ∧ ∀ x ∈ xs, φ x) (ML (xs.map R))).p F o := fun F o ⟨vs, e, p⟩ => by
  obtain ⟨xs, h1, h2, h3⟩ := ps_name p
  exact ⟨xs, ⟨h1, h2⟩, vs, e, h3⟩
theorem map_const {α β : Type} (l : List α) (b : β) : l.map (fun _ => b) = List.replicate l.length b := by
  induction l with
  | nil => rfl
  | cons a l ih => rw [List.map_cons, ih]; rfl
theorem filter_true {α : Type} (l : List α) : l.filter (fun _ => true) = l := by simp
end
end Hq
namespace Hq
open PySem L2
section
variable {K : PySem.W.Frag} {E E' : Ent} {F F' H H' : Hp} {M M' Mc Mc' M1 M2 M3 : Ms} {Γ Γ' : Gm} {P P' P1 P2 : MP} {O O' : MO} {q : Addr} {σ : St} {o o' : HO} {j : Nat}
variable {te ta tb tc tl : TE} {t u : TT} {r : R2} {D1 : Ends} {tu tw : TS} {ps : List MP} {sp : Sp} {X : XK} {tr : TA} {C : Addr} {fps : List (Str × MP)}
variable {tz : TS}
theorem q_asg {i : Nat} (h : Ev te Γ M P M1) (k : Nx E (Γ.set i (some P)) M1 (tz D1)) : Nx E Γ M (tSeq (tAsg te (gName i)) tz D1) :=
  go_asg (D1 := { D1 with nx := tz D1 }) h k
theorem q_asgN {i : Nat} (h : EvN te Γ M O M1) (k : ∀ q, E.H q = none → Nx E (Γ.set i (some (Own q))) ((q, O) :: M1) (tz D1)) : Nx E Γ M (tSeq (tAsg te (gName i)) tz D1) :=
  go_asgN (D1 := { D1 with nx := tz D1 }) h k
theorem q_drop (h : Ev te Γ M P M1) (k : Nx E Γ M1 (tz D1)) : Nx E Γ M (tSeq (tDrop te) tz D1) :=
  go_drop (D1 := { D1 with nx := tz D1 }) h k
theorem q_if {B : Bool → Prop} (h : EvT t Γ M B M1) (h1 : B true → Nx E Γ M1 (tu { D1 with nx := tz D1 })) (h2 : B false → Nx E Γ M1 (tw { D1 with nx := tz D1 })) : Nx E Γ M (tSeq (tIfS t tu tw) tz D1) :=
  go_if (D1 := { D1 with nx := tz D1 }) h h1 h2
theorem q_app {ps : List MP} (ho : Ev ta Γ M (Own q) M) (h : Ev te Γ M P M1) (e0 : M[j]? = some (q, ML ps)) (e : M1[j]? = some (q, ML ps)) (hz : ps.length < 100000) (k : Nx E Γ (M1.set j (q, ML (ps ++ [P]))) (tz D1)) :
    Nx E Γ M (tSeq (tDrop (tBM K "list" rAppend ta (tCons te tNil))) tz D1) :=
  go_app (D1 := { D1 with nx := tz D1 }) ho h e0 e hz k
theorem q_setL {ps : List MP} {i : Int} (h : Ev te Γ M P M1) (ho : Ev ta Γ M1 (Own q) M1) (hi : Ev tb Γ M1 (D K (.int i)) M2) (e : M2[j]? = some (q, ML ps)) (h0 : 0 ≤ i) (h1 : i.toNat < ps.length) (k : Nx E Γ (M2.set j (q, ML (ps.set i.toNat P))) (tz D1)) :
    Nx E Γ M (tSeq (tAsg te (gSub ta tb rSetL)) tz D1) :=
  go_setL (D1 := { D1 with nx := tz D1 }) h ho hi e h0 h1 k
theorem q_rev {ps : List MP} (ho : Ev ta Γ M (Own q) M) (e : M[j]? = some (q, ML ps)) (k : Nx E Γ (M.set j (q, ML ps.reverse)) (tz D1)) : Nx E Γ M (tSeq (tDrop (tBM0 K "list" rReverse ta)) tz D1) :=
  go_rev (D1 := { D1 with nx := tz D1 }) ho e k
theorem q_aug {i : Nat} {f : Int → Int → Int} {x y : Int} (hx : Γ[i]? = some (some (D K (.int x)))) (h : Ev te Γ M (D K (.int y)) M1) (k : Nx E (Γ.set i (some (D K (.int (f x y))))) M1 (tz D1)) : Nx E Γ M (tSeq (tAug i te (ipI f)) tz D1) :=
  go_aug (D1 := { D1 with nx := tz D1 }) hx h k
theorem q_forL {ps : List MP} {i : Nat} (h : Ev tl Γ M (PLi K ps) M1) (J : Nat → Gm → Ms → Prop) (h0 : J 0 Γ M1)
    (hs : ∀ E', Le E' E → ∀ n P, ps[n]? = some P → ∀ Γ' M', J n Γ' M' → Nx E' (Γ'.set i (some P)) M' (tu { D1 with nx := JA E' (J (n + 1)), ct := JA E' (J (n + 1)), bk := tz D1 }))
    (hd : ∀ Γ' M', J ps.length Γ' M' → Nx E Γ' M' (tz D1)) : Nx E Γ M (tSeq (tFor (iList K tl) (gName i) tu) tz D1) :=
  go_forL (D1 := { D1 with nx := tz D1 }) h J h0 hs hd
theorem q_forT {ps : List MP} {i : Nat} (h : Ev tl Γ M (PTu K ps) M1) (J : Nat → Gm → Ms → Prop) (h0 : J 0 Γ M1)
    (hs : ∀ E', Le E' E → ∀ n P, ps[n]? = some P → ∀ Γ' M', J n Γ' M' → Nx E' (Γ'.set i (some P)) M' (tu { D1 with nx := JA E' (J (n + 1)), ct := JA E' (J (n + 1)), bk := tz D1 }))
    (hd : ∀ Γ' M', J ps.length Γ' M' → Nx E Γ' M' (tz D1)) : Nx E Γ M (tSeq (tFor (iTup K tl) (gName i) tu) tz D1) :=
  go_forT (D1 := { D1 with nx := tz D1 }) h J h0 hs hd
theorem q_forR {tr : TA} {z : Int} {i : Nat} (h : EvA tr Γ M [D K (.int z)] M1) (hz : z ≤ 1000000) (hz2 : -1000000 ≤ z) (J : Nat → Gm → Ms → Prop) (h0 : J 0 Γ M1)
    (hs : ∀ n : Nat, (n : Int) < z → ∀ Γ' M', J n Γ' M' → Nx E (Γ'.set i (some (D K (.int n)))) M' (tu { D1 with nx := JA E (J (n + 1)), ct := JA E (J (n + 1)), bk := tz D1 }))
    (hd : ∀ Γ' M', J z.toNat Γ' M' → Nx E Γ' M' (tz D1)) : Nx E Γ M (tSeq (tFor (iRng1 tr) (gName i) tu) tz D1) :=
  go_forR (D1 := { D1 with nx := tz D1 }) h hz hz2 J h0 hs hd
theorem q_forR2 {tr : TA} {lo z : Int} {i : Nat} (h : EvA tr Γ M [D K (.int lo), D K (.int z)] M1) (hz : z ≤ 1000000 ∧ -1000000 ≤ z ∧ lo ≤ 1000000 ∧ -1000000 ≤ lo) (J : Nat → Gm → Ms → Prop) (h0 : J 0 Γ M1)
    (hs : ∀ n : Nat, lo + (n : Int) < z → ∀ Γ' M', J n Γ' M' → Nx E (Γ'.set i (some (D K (.int (lo + n))))) M' (tu { D1 with nx := JA E (J (n + 1)), ct := JA E (J (n + 1)), bk := tz D1 }))
    (hd : ∀ Γ' M', J (z - lo).toNat Γ' M' → Nx E Γ' M' (tz D1)) : Nx E Γ M (tSeq (tFor (iRng2 tr) (gName i) tu) tz D1) :=
  go_forR2 (D1 := { D1 with nx := tz D1 }) h hz J h0 hs hd
theorem q_while (J : Nat → Gm → Ms → Prop) (m0 : Nat) (h0 : J m0 Γ M)
    (hs : ∀ m Γ' M', J m Γ' M' → ∃ B M1, EvT t Γ' M' B M1 ∧ (B true → Nx E Γ' M1 (tu { D1 with nx := JA E (fun Γ M => ∃ m', m' < m ∧ J m' Γ M), ct := JA E (fun Γ M => ∃ m', m' < m ∧ J m' Γ M), bk := tz D1 })) ∧ (B false → Nx E Γ' M1 (tz D1))) : Nx E Γ M (tSeq (tWhile t tu) tz D1) :=
  go_while (D1 := { D1 with nx := tz D1 }) J m0 h0 hs
/-- hands back an object of the caller's own -/
def RtN (E : Ent) (M : Ms) (O : MO) (f : VK) : Prop := ∀ q F H, E.H q = none → Pt E F ((q, O) :: M) H → f (.ref q) H
def PromN (ps : List MP) (M : Ms) (O : MO) (M' : Ms) (vs : List V) (H : Hp) (Q : VK) : Prop := ∃ F, Wd F M H ∧ Ps F vs ps ∧ RtN ⟨F, H, keys M⟩ M' O Q
theorem PromN.len {vs : List V} {Q : VK} (h : PromN ps M O M' vs H Q) : vs.length = ps.length := by obtain ⟨F, _, p, _⟩ := h; exact paired_len p
theorem Pt.frameN {ks : List Addr} (h : Pt E F M H) (hq : H q = none) (g : Pt ⟨F, H, ks⟩ F' ((q, O) :: Mc) H') (hk : ∀ a ∈ ks, a ∈ keys M) (hM : keys M' = keys M) (hr : ∀ r ∈ M', (r.1 ∉ ks ∧ r ∈ M) ∨ r ∈ Mc) : Pt E F' ((q, O) :: M') H' := by
  have nq : q ∉ keys M := fun z => by
    obtain ⟨r, hr, e⟩ := List.mem_map.mp z
    obtain ⟨_, u, hu, _⟩ := h.wd.own r hr
    rw [e, hq] at hu; cases hu
  refine h.back ⟨⟨g.gr.ex, fun a u h1 h2 => g.gr.keep a u (fun z => h1 (hk a z)) h2, g.gr.off, g.gr.stay, g.gr.nott⟩, ⟨g.wd.ex, List.nodup_cons.mpr ⟨by rw [show List.map _ M' = keys M from hM]; exact nq, by rw [show List.map _ M' = keys M from hM]; exact h.wd.nd⟩, fun r hm => ?_⟩, fun r hm => ?_⟩
  · rcases List.mem_cons.mp hm with z | hm
    · rw [z]; exact g.wd.own _ List.mem_cons_self
    · rcases hr r hm with ⟨n, hm2⟩ | hm2
      · obtain ⟨a, u, hu, b⟩ := h.wd.own r hm2
        exact ⟨g.gr.off _ a (show H r.1 ≠ none by rw [hu]; exact fun z => by cases z) (fun xs z => r.2.nt b xs (by have z : H r.1 = some (HO.tup xs) := z; rw [hu] at z; exact Option.some.inj z)), u, g.gr.keep _ _ n hu, r.2.mono g.gr.ex b⟩
      · exact g.wd.own r (List.mem_cons_of_mem _ hm2)
  · rcases List.mem_cons.mp hm with z | hm
    · rw [z]; exact .inr hq
    · refine .inl ?_
      show r.1 ∈ keys M
      rw [← hM]
      exact List.mem_map_of_mem (f := (·.1)) hm
theorem calln0 (h : EvA tr Γ M ps M1) (hs : ∀ vs H Q, PromN ps [] O [] vs H Q → sp vs H Q X) : EvN (tCall sp [] X tr) Γ M O M1 := fun E F σ H a b Q k =>
  h E F σ H a b _ fun vs F1 H1 e1 a1 p1 => by
    show sp (vs ++ []) H1 Q X
    rw [List.append_nil]
    exact hs vs H1 Q ⟨F1, ⟨a1.ex, List.nodup_nil, fun r hr => by cases hr⟩, p1, fun q F' H' hq g => k q F' H' (a1.fresh hq) (e1.trans g.gr.ex) (a1.frameN hq g (fun _ z => by cases z) rfl fun r hr => .inl ⟨by simp [keys], hr⟩)⟩
theorem calln1 (h : EvA tr Γ M ps M1) {d : Addr} {O2 : MO} (e : M1[j]? = some (d, O2)) (hs : ∀ vs H Q, PromN ps [(d, O2)] O [(d, O2)] vs H Q → sp vs H Q X) : EvN (tCall sp [] X tr) Γ M O M1 := fun E F σ H a b Q k =>
  h E F σ H a b _ fun vs F1 H1 e1 a1 p1 => by
    show sp (vs ++ []) H1 Q X
    rw [List.append_nil]
    have hm := List.mem_of_getElem? e
    refine hs vs H1 Q ⟨F1, ⟨a1.ex, by simp [keys], fun r hr => by rw [List.mem_singleton.mp hr]; exact a1.wd.own _ hm⟩, p1, fun q F' H' hq g => k q F' H' (a1.fresh hq) (e1.trans g.gr.ex) (a1.frameN hq g (fun z hz => ?_) rfl fun r hr => ?_)⟩
    · rw [List.mem_singleton.mp hz]; exact List.mem_map_of_mem (f := (·.1)) hm
    · have hr2 : r ∈ M1.set j (d, O2) := by rw [set_same e]; exact hr
      rcases mem_set_ne a1.wd.nd e r hr2 with z | ⟨z, n⟩
      · rw [z]; exact .inr List.mem_cons_self
      · exact .inl ⟨fun w => n (List.mem_singleton.mp w), z⟩
theorem go_retO {E0 : Ent} (l : Le E E0) (h : Ev te Γ M (Own q) M1) (hq : E0.H q = none) (hM : M1 = (q, O) :: M2) (k : RtN E0 M2 O D1.rt) : Nx E Γ M (tRet te D1) := fun σ H ⟨F, a, b⟩ => h E F σ H a b _ fun v F' H' e g p => by
  have p : v = .ref q := p
  subst p
  subst hM
  exact k q F' H' hq (l.to _ _ _ g)
theorem go_retN {E0 : Ent} (l : Le E E0) (h : EvN te Γ M O M1) (k : RtN E0 M1 O D1.rt) : Nx E Γ M (tRet te D1) := fun σ H ⟨F, a, b⟩ => by
  refine h ⟨F, H, keys M⟩ F σ H a.enter b _ fun q F' H' f e g => ?_
  have gE := (a.le.trans l).to _ _ _ g
  exact k q F' H' ((l.to _ _ _ a).fresh f) gE
theorem RtN.to {f : VK} (h : RtN E M O' f) (l : ∀ F o, O.p F o → O'.p F o) : RtN E M O f := fun q F H hq a => h q F H hq (a.to (j := 0) (O' := O') l rfl)
theorem RtN.drop {f : VK} (h : RtN E M O f) (s : List.Sublist M M') : RtN E M' O f := fun q F H hq a => h q F H hq (a.drop (s.cons₂ _))
theorem nx_perm0 {f} {a b : Addr × MO} (h : Nx E Γ [a, b] f) : Nx E Γ [b, a] f := h.imp fun σ H ⟨F, x, y⟩ => ⟨F, ⟨x.gr, ⟨x.wd.ex, by
    have := x.wd.nd
    simp [keys] at this ⊢
    exact fun z => this z.symm, fun r hr => x.wd.own r (by
      rcases List.mem_cons.mp hr with e | e
      · rw [e]; exact List.mem_cons_of_mem _ List.mem_cons_self
      · rw [List.mem_singleton.mp e]; exact List.mem_cons_self)⟩, fun r hr => x.fr r (by
      rcases List.mem_cons.mp hr with e | e
      · rw [e]; exact List.mem_cons_of_mem _ List.mem_cons_self
      · rw [List.mem_singleton.mp e]; exact List.mem_cons_self)⟩, y⟩
theorem go_cut (J : Gm → Ms → Prop) (h1 : Nx E Γ M (tu { D1 with nx := JA E J })) (h2 : ∀ Γ' M', J Γ' M' → Nx E Γ' M' (tw D1)) : Nx E Γ M (Evl.tCut tu tw D1) := fun σ H a =>
  ⟨JA E J, h1 σ H a, fun σ' H' ⟨Γ', M', hJ, a'⟩ => h2 Γ' M' hJ σ' H' a'⟩
end
end Hq
namespace Hq
open PySem L2
def dT (l : List Int) : PyData := .tuple (l.map .int)
def dL (l : List Int) : PyData := .list (l.map .int)
def dTT (ls : List (List Int)) : PyData := .tuple (ls.map dT)
def dLT (ls : List (List Int)) : PyData := .list (ls.map dT)
section
variable {K : PySem.W.Frag} {E E' : Ent} {F F' H H' : Hp} {M M' Mc Mc' M1 M2 M3 : Ms} {Γ Γ' : Gm} {P P' P1 P2 : MP} {O O' : MO} {q : Addr} {σ : St} {o o' : HO} {j : Nat}
variable {te ta tb tc tl : TE} {t u : TT} {r : R2} {D1 : Ends} {tu tw tz : TS} {ps : List MP} {sp : Sp} {X : XK} {tr : TA} {C : Addr} {fps : List (Str × MP)}
theorem le_dT {l : List Int} : (D K (dT l)).le (PTu K (l.map fun n => D K (.int n))) := fun F v h => by
  have := D_PTu (K := K) (ds := l.map PyData.int) F v h
  rw [List.map_map] at this
  exact this
theorem dT_le {l : List Int} : (PTu K (l.map fun n => D K (.int n))).le (D K (dT l)) := fun F v h => PTu_D (K := K) (ds := l.map PyData.int) F v (by rw [List.map_map]; exact h)
theorem le_dL {l : List Int} : (D K (dL l)).le (PLi K (l.map fun n => D K (.int n))) := fun F v h => by
  have := D_PLi (K := K) (ds := l.map PyData.int) F v h
  rw [List.map_map] at this
  exact this
theorem dL_le {l : List Int} : (PLi K (l.map fun n => D K (.int n))).le (D K (dL l)) := fun F v h => PLi_D (K := K) (ds := l.map PyData.int) F v (by rw [List.map_map]; exact h)
theorem le_Lm {α : Type} {f : α → PyData} {l : List α} : (D K (.list (l.map f))).le (PLi K (l.map fun n => D K (f n))) := fun F v h => by
  have := D_PLi (K := K) (ds := l.map f) F v h
  rw [List.map_map] at this
  exact this
theorem Lm_le {α : Type} {f : α → PyData} {l : List α} : (PLi K (l.map fun n => D K (f n))).le (D K (.list (l.map f))) := fun F v h => PLi_D (K := K) (ds := l.map f) F v (by rw [List.map_map]; exact h)
theorem le_Tm {α : Type} {f : α → PyData} {l : List α} : (D K (.tuple (l.map f))).le (PTu K (l.map fun n => D K (f n))) := fun F v h => by
  have := D_PTu (K := K) (ds := l.map f) F v h
  rw [List.map_map] at this
  exact this
theorem Tm_le {α : Type} {f : α → PyData} {l : List α} : (PTu K (l.map fun n => D K (f n))).le (D K (.tuple (l.map f))) := fun F v h => PTu_D (K := K) (ds := l.map f) F v (by rw [List.map_map]; exact h)
theorem rv_addIn {a lo hi : Int} : RV (rI0 fun i j => .int (i + j)) (D K (.int a)) (PIn K lo hi) M (PIn K (a + lo) (a + hi)) M :=
  RV.ex2 fun x => RV.an2 fun hx => rv_i0.weak (MP.le_trans (PAn.in (φ := a + lo ≤ a + x ∧ a + x < a + hi) (by omega)) (PEx.in (R := fun z : Int => PAn (a + lo ≤ z ∧ z < a + hi) (D K (.int z))) (a + x)))
theorem q_forRX {i : Nat} {φ : Int → Prop} (h : Ev te Γ M (PEx fun z : Int => PAn (φ z) (D K (.int z))) M1) (k : ∀ z, φ z → ∀ tr', EvA tr' Γ M1 [D K (.int z)] M1 → Nx E Γ M1 (tSeq (tFor (iRng1 tr') (gName i) tu) tz D1)) : Nx E Γ M (tSeq (tFor (iRng1 (tCons te tNil)) (gName i) tu) tz D1) := fun σ H ⟨F, a, b⟩ => h E F σ H a b _ fun v F1 H1 e1 g1 ⟨z, hz, p1⟩ => by
  cases dp_int p1
  exact k z hz (tCons (tC (.int z)) tNil) (ea_cons ev_int ea_nil) σ H1 ⟨F1, g1, b.mono e1⟩
theorem ev_tupOf {φ : List Int → Prop} (h : EvN te Γ M (MX fun ns : List Int => MA (φ ns) (MInts K ns)) M1) : Ev (tCB (rTuple K) (tCons te tNil)) Γ M (PEx fun ns : List Int => PAn (φ ns) (D K (dT ns))) M1 :=
  ev_cb (ea_cons ((ev_fr h).weak (MP.le_trans fr_X (PEx.le fun x => MP.le_trans fr_A (PAn.le fun _ => fr_L (K := K))))) ea_nil) (RC.ex1 fun ns => RC.an1 fun hφ => rc_tupleL.weak (MP.le_trans dT_le (MP.le_trans (PAn.in hφ) (PEx.in (R := fun ns : List Int => PAn (φ ns) (D K (dT ns))) ns))))
theorem nx_lastM {α : Type} {f} {φ : α → Prop} {R : α → MP} (e : M[j]? = some (q, ML (ps ++ [PEx fun x => PAn (φ x) (R x)]))) (h : ∀ x, φ x → Nx E Γ (M.set j (q, ML (ps ++ [R x]))) f) : Nx E Γ M f := by
  rintro σ H ⟨F, a, b⟩
  obtain ⟨fq, o, ho, vs, rfl, s⟩ := a.at e
  have key : ∀ {ps : List MP} {vs : List V}, Ps F vs (ps ++ [PEx fun x => PAn (φ x) (R x)]) → ∃ x, φ x ∧ Ps F vs (ps ++ [R x]) := by
    intro ps
    induction ps with
    | nil =>
      intro vs s
      obtain ⟨v, rfl, x, hx, hp⟩ := ps1 s
      exact ⟨x, hx, .cons hp .nil⟩
    | cons p ps ih =>
      intro vs s
      cases s with
      | cons a t =>
        obtain ⟨x, hx, t2⟩ := ih t
        exact ⟨x, hx, .cons a t2⟩
  obtain ⟨x, hx, s2⟩ := key s
  refine h x hx σ H ⟨F, ?_, b⟩
  have g := a.mut (o' := .lst vs) (O' := ML (ps ++ [R x])) e ⟨vs, rfl, s2⟩
  have e2 : upd H q (.lst vs) = H := by
    funext z
    by_cases y : z = q
    · subst y; rw [upd_same, ho]
    · rw [upd_ne y]
  rw [e2] at g
  exact g
theorem nx_perm {f} (p : M.Perm M') (h : Nx E Γ M' f) : Nx E Γ M f := h.imp fun σ H ⟨F, x, y⟩ => ⟨F, ⟨x.gr, ⟨x.wd.ex, (p.map _).nodup_iff.mp x.wd.nd, fun r hr => x.wd.own r (p.mem_iff.mpr hr)⟩, fun r hr => x.fr r (p.mem_iff.mpr hr)⟩, y⟩
theorem q_appN {i : Nat} (ho : Ev ta Γ M (Own q) M) (h : EvN te Γ M O M1) (e0 : M[j]? = some (q, ML ps)) (e : M1[i]? = some (q, ML ps)) (hz : ps.length < 100000) (k : ∀ p, E.H p = none → Nx E Γ ((p, O) :: M1.set i (q, ML (ps ++ [Own p]))) D1.nx) :
    Nx E Γ M (tDrop (tBM K "list" rAppend ta (tCons te tNil)) D1) := fun σ H ⟨F, a, b⟩ => ho E F σ H a b _ fun v F1 H1 e1 g1 p1 => by
  have p1 : v = .ref q := p1
  subst p1
  obtain ⟨_, o, ho1, ws0, rfl, _⟩ := g1.at e0
  refine ⟨.inl ⟨rfl, ws0, SqL.of ho1⟩, ?_⟩
  refine h E F1 σ H1 g1 (b.mono e1) _ fun p F2 H2 f e2 g2 => ?_
  obtain ⟨_, o, ho2, ws, rfl, s⟩ := g2.at (j := i + 1) e
  refine ⟨q, ws, .ref p, rfl, rfl, ho2, sz_lt (by rw [paired_len s]; exact hz), ?_⟩
  exact k p f _ _ ⟨F2, g2.mut (j := i + 1) e ⟨_, rfl, paired_app s (.cons (show (Own p).p F2 (.ref p) from rfl) .nil)⟩, b.mono (e1.trans e2)⟩
/-- max(xs) -/
theorem rc_max {ns : List Int} (h0 : 0 < ns.length) : RC (rMax K) [PLi K (ns.map fun n => D K (.int n))] M (PEx fun m : Int => PAn (m ∈ ns ∧ ∀ y ∈ ns, y ≤ m) (D K (.int m))) M := fun E F H vs a h Q k => by
  obtain ⟨v, rfl, b, ws, rfl, s, p⟩ := ps1 h
  cases ints_map p
  exact ⟨b, ns, rfl, Evl.ex_l a.ex s, h0, fun m h1 h2 => k _ F H (Evl.Ex.refl _) a ⟨m, ⟨h1, h2⟩, .int m⟩⟩
/-- own lists within an own list -/
def inner (K : PySem.W.Frag) (as : List Addr) (ls : List (List Int)) : Ms := (as.zip ls).map fun p => (p.1, MInts K p.2)
theorem freeze_inner : ∀ {as : List Addr} {ls : List (List Int)} {M0 : Ms} {F H}, as.length = ls.length → (∀ a ∈ as, E.H a = none) → Pt E F (M0 ++ inner K as ls) H → ∃ F', Ex F F' ∧ Pt E F' M0 H ∧ Paired (fun a l => Dp K F' (.ref a) (dL l)) as ls
  | [], [], M0, F, H, _, _, g => ⟨F, Evl.Ex.refl _, by simpa [inner] using g, .nil⟩
  | a :: as, l :: ls, M0, F, H, hl, ha, g => by
    have at0 : (M0 ++ inner K (a :: as) (l :: ls))[M0.length]? = some (a, MInts K l) := by
      rw [List.getElem?_append_right (Nat.le_refl _), Nat.sub_self]; rfl
    obtain ⟨fq, o, ho, vs, rfl, s⟩ := g.at at0
    have g2 := g.freeze at0 (ha a List.mem_cons_self) ho
    have er : (M0 ++ inner K (a :: as) (l :: ls)).eraseIdx M0.length = M0 ++ inner K as ls := by
      rw [List.eraseIdx_append_of_length_le (Nat.le_refl _), Nat.sub_self]; rfl
    rw [er] at g2
    obtain ⟨F', e, g3, p⟩ := freeze_inner (by simpa using hl) (fun b hb => ha b (List.mem_cons_of_mem _ hb)) g2
    have ex1 : Ex F (upd F a (.lst vs)) := Evl.Ex.new fq
    refine ⟨F', ex1.trans e, g3, .cons (Dp.mono e ?_) p⟩
    exact dL_le (K := K) _ _ ⟨a, vs, rfl, SqL.of upd_same, s.mono ex1⟩
theorem nx_nested {f} {i : Nat} {as : List Addr} {ls : List (List Int)} {M0 : Ms} (hl : as.length = ls.length) (hq : E.H q = none) (ha : ∀ a ∈ as, E.H a = none) (hg : Γ[i]? = some (some (Own q))) (h : Nx E (Γ.set i (some (D K (.list (ls.map dL))))) M0 f) :
    Nx E Γ ((q, ML (as.map Own)) :: (M0 ++ inner K as ls)) f := by
  rintro σ H ⟨F, a, b⟩
  obtain ⟨F1, e1, g1, p⟩ := freeze_inner (M0 := (q, ML (as.map Own)) :: M0) hl ha a
  obtain ⟨fq, o, ho, vs, rfl, s⟩ := g1.at (j := 0) rfl
  have g2 := g1.freeze (j := 0) rfl hq ho
  have ex1 : Ex F1 (upd F1 q (.lst vs)) := Evl.Ex.new fq
  refine h σ H ⟨_, g2, (b.mono (e1.trans ex1)).upd hg fun v hv => ?_⟩
  have hv : v = .ref q := hv
  subst hv
  refine .lst (SqL.of upd_same) ?_
  have key : ∀ {as : List Addr} {ls : List (List Int)} {vs : List V}, Paired (fun a l => Dp K F1 (.ref a) (dL l)) as ls → Ps F1 vs (as.map Own) → DpAll K (upd F1 q (.lst vs)) vs (ls.map dL) → True := fun _ _ _ => trivial
  have key2 : ∀ {as : List Addr} {ls : List (List Int)} {ws : List V}, Paired (fun a l => Dp K F1 (.ref a) (dL l)) as ls → Ps F1 ws (as.map Own) → DpAll K (upd F1 q (.lst vs)) ws (ls.map dL) := by
    intro as ls ws p
    induction p generalizing ws with
    | nil => intro s; cases s; exact .nil
    | cons x t ih =>
      intro s
      cases s with
      | cons y u =>
        have y : _ = V.ref _ := y
        subst y
        exact .cons (Dp.mono ex1 x) (ih u)
  exact key2 p s
theorem q_fld {f : Str} {n : Nat} (hv : Ev tb Γ M P M1) (ho : Ev ta Γ M1 (Own q) M1) (e : M1[j]? = some (q, MIns C n fps)) (hz : n < 999) (hf : ∀ g ∈ fps, g.1 ≠ f) (hc : Cls K C) (hn : NoAttr K C f) (k : Nx E Γ (M1.set j (q, MIns C (n + 1) ((f, P) :: fps))) (tz D1)) :
    Nx E Γ M (tSeq (sFld K ta tb f) tz D1) := go_fld (D1 := { D1 with nx := tz D1 }) hv ho e hz hf hc hn k
/-! rules with the written part named -/
variable {Y : Cx}
abbrev rLn (K : PySem.W.Frag) : List V → Hp → VK → Prop := fun xs H Q => ∃ p ys, xs = [.ref p] ∧ (SqL K H p ys ∨ SqT K H p ys) ∧ Q (.int ys.length) H
theorem c_len (e : Y.K = K) : CallR Y (.builtin "len") (rLn K) := e ▸ call_len_seq
theorem c_list (e : Y.K = K) : CallR Y (.type "list") (rList K) := e ▸ call_list_of
theorem c_tuple (e : Y.K = K) : CallR Y (.type "tuple") (rTuple K) := e ▸ call_tuple_of
theorem c_ix (e : Y.K = K) : IxR Y (rIx K) := e ▸ ix_seq
theorem c_in (e : Y.K = K) : OpR Y (compareOp .In) (rIn K false) := e ▸ op_in_seq
theorem c_notIn (e : Y.K = K) : OpR Y (compareOp .NotIn) (rIn K true) := e ▸ op_notIn_seq
theorem c_eq (e : Y.K = K) (hu : Y.A.units + 64 < cLine) : OpR Y (compareOp .Eq) (rEqD K) := e ▸ op_eqD hu
theorem c_ne (e : Y.K = K) (hu : Y.A.units + 64 < cLine) : OpR Y (compareOp .NotEq) (rNeD K) := e ▸ op_neD hu
theorem c_max (e : Y.K = K) (hc : Y.calm = true) : CallR Y (.builtin "max") (rMax K) := e ▸ cr_max hc
theorem c_min (e : Y.K = K) (hc : Y.calm = true) : CallR Y (.builtin "min") (rMin K) := e ▸ cr_min hc
theorem c_sum (e : Y.K = K) (hc : Y.calm = true) : CallR Y (.builtin "sum") (rSum K) := e ▸ cr_sum hc
theorem c_sorted (e : Y.K = K) : CallR Y (.builtin "sorted") (rSortedI K) := e ▸ cr_sortedI
theorem c_sortedSet {w : World} (e : Y.w = w) (hc : Y.calm = true) : CallR Y (.builtin "sorted") (rSortedSet w) := e ▸ cr_sortedSet hc
theorem c_set {w : World} (e : Y.K = K) (e2 : Y.w = w) (hc : Y.calm = true) : CallR Y (.type "set") (rSetI K w) := by subst e; subst e2; exact cr_setI hc
theorem c_isi (e : Y.K = K) : CallR Y (.builtin "isinstance") (rIsi K) := e ▸ call_isi
theorem c_catA (e : Y.K = K) : OpR Y (binaryOp .Add) (rCatA K) := e ▸ op_catA
theorem c_slT (e : Y.K = K) : SlR Y (rSlA K) := e ▸ sl_tupA
theorem c_slL (e : Y.K = K) : SlR Y (rSlL K) := e ▸ sl_list
end
end Hq
namespace Hq
open PySem L2
/-- a way to write values of a type as data, faithfully -/
structure Enc {α : Type} [DecidableEq α] (f : α → PyData) (n : Nat) : Prop where
  eq : ∀ x y, PyData.eqv (f x) (f y) = decide (x = y)
  lay : ∀ x, PyData.canLay0 (f x) = true
  deep : ∀ x, PyData.depth (f x) ≤ n
theorem Enc.shaped {α : Type} [DecidableEq α] {f : α → PyData} {n : Nat} (e : Enc f n) (h : n ≤ 64) (x : α) : SeqAt.shaped (f x) = true := by
  unfold SeqAt.shaped
  rw [e.lay x, Bool.true_and]
  exact decide_eq_true (Nat.le_trans (e.deep x) h)
theorem enc_int : Enc PyData.int 1 := ⟨fun x y => by
    show (x == y) = decide (x = y)
    rw [Bool.eq_iff_iff]; simp, fun _ => rfl, fun _ => by show PyData.depth (.int _) ≤ 1; simp [PyData.depth]⟩
section
variable {α : Type} [DecidableEq α] {f : α → PyData} {n : Nat}
theorem eqvAll_map (e : Enc f n) : ∀ (xs ys : List α), PyData.eqvAll (xs.map f) (ys.map f) = decide (xs = ys)
  | [], [] => rfl
  | x :: xs, y :: ys => by
    show (PyData.eqv (f x) (f y) && PyData.eqvAll (xs.map f) (ys.map f)) = _
    rw [e.eq, eqvAll_map e xs ys]
    by_cases h1 : x = y <;> by_cases h2 : xs = ys <;> simp [h1, h2]
  | [], _ :: _ => rfl
  | _ :: _, [] => rfl
theorem depthAll_map (e : Enc f n) : ∀ (xs : List α), PyData.depthAll (xs.map f) ≤ n
  | [] => Nat.zero_le _
  | x :: xs => by
    have h1 := e.deep x
    have h2 := depthAll_map e xs
    simp only [List.map_cons, PyData.depthAll]
    omega
theorem enc_list (e : Enc f n) : Enc (fun xs : List α => PyData.list (xs.map f)) (n + 1) := ⟨fun x y => eqvAll_map e x y, fun xs => by
    simp only [PyData.canLay0]
    first | (rw [List.all_eq_true]; intro d hd; obtain ⟨x, _, rfl⟩ := List.mem_map.mp hd; exact e.lay x) | (induction xs with | nil => rfl | cons x xs ih => simp_all [PyData.canLay0, PyData.canLayAll0, e.lay]), fun xs => by
    have := depthAll_map e xs
    simp only [PyData.depth]
    omega⟩
theorem enc_tuple (e : Enc f n) : Enc (fun xs : List α => PyData.tuple (xs.map f)) (n + 1) := ⟨fun x y => eqvAll_map e x y, fun xs => by
    simp only [PyData.canLay0]
    first | (rw [List.all_eq_true]; intro d hd; obtain ⟨x, _, rfl⟩ := List.mem_map.mp hd; exact e.lay x) | (induction xs with | nil => rfl | cons x xs ih => simp_all [PyData.canLay0, PyData.canLayAll0, e.lay]), fun xs => by
    have := depthAll_map e xs
    simp only [PyData.depth]
    omega⟩
end
theorem enc_bool : Enc PyData.bool 1 := ⟨fun x y => by
    show (x == y) = decide (x = y)
    rw [Bool.eq_iff_iff]; simp, fun _ => rfl, fun _ => by show PyData.depth (.bool _) ≤ 1; simp [PyData.depth]⟩
theorem enc_dT : Enc dT 2 := enc_tuple enc_int
theorem enc_dL : Enc dL 2 := enc_list enc_int
theorem enc_dLT : Enc dLT 3 := enc_list enc_dT
theorem enc_dTT : Enc dTT 3 := enc_tuple enc_dT
section
variable {K : PySem.W.Frag} {M : Ms} {α : Type} [DecidableEq α] {f : α → PyData} {n : Nat}
theorem rv_eqE (e : Enc f n) (h : n ≤ 64) {x y : α} : RV (rEqD K) (D K (f x)) (D K (f y)) M (D K (.bool (decide (x = y)))) M := by
  have := rv_eqD (K := K) (M := M) (e.shaped h x) (e.shaped h y)
  rw [e.eq] at this
  exact this
theorem rv_neE (e : Enc f n) (h : n ≤ 64) {x y : α} : RV (rNeD K) (D K (f x)) (D K (f y)) M (D K (.bool (!decide (x = y)))) M := by
  have := rv_neD (K := K) (M := M) (e.shaped h x) (e.shaped h y)
  rw [e.eq] at this
  exact this
end
/-! ### a list or a tuple -/
def iOr (wi wj : TI) : TI := fun σ H R => wi σ H R ∨ wj σ H R
theorem pi_or {X : Cx} {tg l : PySem.Expr} {wi wj : TI} (h : PI X tg l wi) (h' : PI X tg l wj) : PI X tg l (iOr wi wj) := ⟨fun pins s σ H R I q => q.elim (h.run pins s σ H R I) (h'.run pins s σ H R I)⟩
section
variable {K : PySem.W.Frag} {E : Ent} {M M1 : Ms} {Γ : Gm} {O : MO} {wi wj : TI} {g : TG} {tu tz : TS} {D1 : Ends} {t : TT} {te : TE} {vs : List Nat}
theorem for_or1 (h : Nx E Γ M (tFor wi g tu D1)) : Nx E Γ M (tFor (iOr wi wj) g tu D1) := fun σ H a => .inl (h σ H a)
theorem for_or2 (h : Nx E Γ M (tFor wj g tu D1)) : Nx E Γ M (tFor (iOr wi wj) g tu D1) := fun σ H a => .inr (h σ H a)
theorem qfor_or1 (h : Nx E Γ M (tSeq (tFor wi g tu) tz D1)) : Nx E Γ M (tSeq (tFor (iOr wi wj) g tu) tz D1) := fun σ H a => .inl (h σ H a)
theorem qfor_or2 (h : Nx E Γ M (tSeq (tFor wj g tu) tz D1)) : Nx E Γ M (tSeq (tFor (iOr wi wj) g tu) tz D1) := fun σ H a => .inr (h σ H a)
theorem lc_or1 (h : EvN (tLc wi g t te vs) Γ M O M1) : EvN (tLc (iOr wi wj) g t te vs) Γ M O M1 := fun E F σ H a b Q k => .inl (h E F σ H a b Q k)
theorem lc_or2 (h : EvN (tLc wj g t te vs) Γ M O M1) : EvN (tLc (iOr wi wj) g t te vs) Γ M O M1 := fun E F σ H a b Q k => .inr (h E F σ H a b Q k)
end
/-- the word as a tuple or as a list -/
def dW (b : Bool) (l : List Int) : PyData := if b then dT l else dL l
section
variable {K : PySem.W.Frag} {E : Ent} {M M1 : Ms} {Γ : Gm} {O : MO} {P : MP} {wi wj : TI} {g : TG} {tu tz : TS} {D1 : Ends} {t : TT} {te ta tb : TE} {vs : List Nat} {l : List Int} {b : Bool} {v i : Nat}
theorem go_forW (e : Γ[v]? = some (some (D K (dW b l)))) (J : Nat → Gm → Ms → Prop) (h0 : J 0 Γ M)
    (hs : ∀ E', Le E' E → ∀ n x, l[n]? = some x → ∀ Γ' M', J n Γ' M' → Nx E' (Γ'.set i (some (D K (.int x)))) M' (tu { D1 with nx := JA E' (J (n + 1)), ct := JA E' (J (n + 1)), bk := D1.nx }))
    (hd : ∀ Γ' M', J l.length Γ' M' → Nx E Γ' M' D1.nx) : Nx E Γ M (tFor (iOr (iTup K (tVar v)) (iList K (tVar v))) (gName i) tu D1) := by
  have hs2 : ∀ E', Le E' E → ∀ n P, (l.map fun x => D K (.int x))[n]? = some P → ∀ Γ' M', J n Γ' M' → Nx E' (Γ'.set i (some P)) M' (tu { D1 with nx := JA E' (J (n + 1)), ct := JA E' (J (n + 1)), bk := D1.nx }) := fun E' hE n P hP Γ' M' hJ => by
    rw [List.getElem?_map] at hP
    obtain ⟨x, hx, rfl⟩ := Option.map_eq_some_iff.mp hP
    exact hs E' hE n x hx Γ' M' hJ
  have hd2 : ∀ Γ' M', J (l.map fun x => D K (.int x)).length Γ' M' → Nx E Γ' M' D1.nx := by rw [List.length_map]; exact hd
  cases b with
  | true => exact for_or1 (go_forT ((ev_var (P := D K (dT l)) e).weak le_dT) J h0 hs2 hd2)
  | false => exact for_or2 (go_forL ((ev_var (P := D K (dL l)) e).weak le_dL) J h0 hs2 hd2)
theorem q_forW (e : Γ[v]? = some (some (D K (dW b l)))) (J : Nat → Gm → Ms → Prop) (h0 : J 0 Γ M)
    (hs : ∀ E', Le E' E → ∀ n x, l[n]? = some x → ∀ Γ' M', J n Γ' M' → Nx E' (Γ'.set i (some (D K (.int x)))) M' (tu { D1 with nx := JA E' (J (n + 1)), ct := JA E' (J (n + 1)), bk := tz D1 }))
    (hd : ∀ Γ' M', J l.length Γ' M' → Nx E Γ' M' (tz D1)) : Nx E Γ M (tSeq (tFor (iOr (iTup K (tVar v)) (iList K (tVar v))) (gName i) tu) tz D1) := go_forW (D1 := { D1 with nx := tz D1 }) e J h0 hs hd
theorem evn_lcW {G : Int → MP} (f : Int → Bool) (e : Γ[v]? = some (some (D K (dW b l)))) (hz : l.length ≤ 50000)
    (ht : ∀ x ∈ l, EvT t ((Γ.set i none).set i (some (D K (.int x)))) M (· = f x) M) (he : ∀ x ∈ l, f x = true → Ev te ((Γ.set i none).set i (some (D K (.int x)))) M (G x) M) :
    EvN (tLc (iOr (iTup K (tVar v)) (iList K (tVar v))) (gName i) t te [i]) Γ M (ML ((l.filter f).map G)) M := by
  cases b with
  | true => exact lc_or1 (evn_lcT f ((ev_var (P := D K (dT l)) e).weak le_dT) hz ht he)
  | false => exact lc_or2 (evn_lcL f ((ev_var (P := D K (dL l)) e).weak le_dL) hz ht he)
/-- [x] * n -/
theorem evn_rep {z : Int} (h : EvN ta Γ M (ML [P]) M1) (hb : ∀ M, Ev tb Γ M (D K (.int z)) M) (hz : 0 ≤ z ∧ z ≤ 1000) : EvN (tOp rRep ta tb) Γ M (ML (List.replicate z.toNat P)) M1 := fun E F σ H a c Q k =>
  h E F σ H a c _ fun q F1 H1 f1 e1 g1 => hb _ E F1 σ H1 g1 (c.mono e1) _ fun y F2 H2 e2 g2 p2 => by
    cases dp_int p2
    obtain ⟨_, o, ho, ws, rfl, s⟩ := g2.at (j := 0) rfl
    obtain ⟨x, rfl, px⟩ := ps1 s
    refine ⟨q, z, [x], rfl, rfl, ho, by omega, by omega, sz_of (by simp; omega), fun p hp => ?_⟩
    have g3 := (g2.new (O := ML (List.replicate z.toNat P)) (o := .lst (List.replicate z.toNat [x]).flatten) hp ⟨_, rfl, ?_⟩).drop (List.Sublist.cons₂ _ (List.sublist_cons_self _ _))
    · exact k p F2 _ (g2.fresh hp) (e1.trans e2) g3
    · generalize z.toNat = m
      induction m with
      | zero => exact .nil
      | succ m ih => exact .cons px ih
end
/-! ### a, b = e -/
section
variable {K : PySem.W.Frag} {E : Ent} {M M1 : Ms} {Γ : Gm} {D1 : Ends} {tz : TS} {te : TE} {i j : Nat}
theorem q_unp2 {α : Type} {φ : α → Prop} {R1 R2 : α → MP} (h : Ev te Γ M (PEx fun x => PAn (φ x) (PTu K [R1 x, R2 x])) M1) (k : ∀ x, φ x → Nx E ((Γ.set i (some (R1 x))).set j (some (R2 x))) M1 (tz D1)) :
    Nx E Γ M (tSeq (tAsg te (gTup K 2 (gCons (gName i) (gCons (gName j) gNil)))) tz D1) := fun σ H ⟨F, a, b⟩ => h E F σ H a b _ fun v F1 H1 e1 g1 ⟨x, hx, p, vs, ev, s, q⟩ => by
  obtain ⟨y, z, rfl, hy, hz⟩ := ps2 q
  exact ⟨p, [y, z], ev, Evl.ex_t g1.ex s, rfl, y, [z], rfl, z, [], rfl, rfl, k x hx _ _ ⟨F1, g1, ((b.mono e1).set i hy).set j hz⟩⟩
theorem rv_catT {a b : List Int} (h : a.length + b.length ≤ 100000) : RV (rCatA K) (D K (dT a)) (D K (dT b)) M (D K (dT (a ++ b))) M := fun E F H x y g p1 p2 Q k => by
  obtain ⟨p, vs, rfl, s, q⟩ := le_dT _ _ p1
  obtain ⟨p', vs', rfl, s', q'⟩ := le_dT _ _ p2
  have e1 := ints_map q; have e2 := ints_map q'
  subst e1; subst e2
  refine ⟨p, p', _, _, rfl, rfl, Evl.ex_t g.ex s, Evl.ex_t g.ex s', sz_of (by simpa using h), fun e => ?_, fun _ e => ?_, fun _ _ r hr => ?_⟩
  · have : a = [] := by simpa using e
    subst this
    exact k _ F H (Evl.Ex.refl _) g (dT_le _ _ ⟨p', _, rfl, s', q'⟩)
  · have : b = [] := by simpa using e
    subst this
    rw [List.append_nil] at k
    exact k _ F H (Evl.Ex.refl _) g (dT_le _ _ ⟨p, _, rfl, s, q⟩)
  · refine k _ _ _ (Evl.Ex.new (Evl.fresh_back g.ex hr)) (g.laid hr) (dT_le _ _ ⟨r, _, rfl, SqT.of upd_same, ?_⟩)
    rw [← List.map_append]
    exact map_ints _
end
section
variable {M M' : Ms} {P P1 : MP} {ps : List MP}
theorem RC.ex2 {α : Type} {rc : List V → Hp → VK → Prop} {R : α → MP} (h : ∀ x, RC rc (P1 :: R x :: ps) M P M') : RC rc (P1 :: PEx R :: ps) M P M' := fun E F H vs a p Q k => by
  cases p with
  | cons b t => cases t with
    | cons c t => obtain ⟨x, c⟩ := c; exact h x E F H _ a (.cons b (.cons c t)) Q k
theorem RC.an2 {φ : Prop} {rc : List V → Hp → VK → Prop} {R : MP} (h : φ → RC rc (P1 :: R :: ps) M P M') : RC rc (P1 :: PAn φ R :: ps) M P M' := fun E F H vs a p Q k => by
  cases p with
  | cons b t => cases t with
    | cons c t => exact h c.1 E F H _ a (.cons b (.cons c.2 t)) Q k
end
section
variable {K : PySem.W.Frag} {M M1 : Ms} {Γ : Gm} {te : TE} {α : Type} {f : α → PyData} {xs : List α}
theorem ev_lenM (h : Ev te Γ M (D K (.list (xs.map f))) M1) : Ev (tCB (rLn K) (tCons te tNil)) Γ M (D K (.int xs.length)) M1 := by
  have := ev_cb (ea_cons h ea_nil) (rc_lenD (K := K) (ds := xs.map f) (M := M1))
  rw [List.length_map] at this
  exact this
theorem ev_lenMT (h : Ev te Γ M (D K (.tuple (xs.map f))) M1) : Ev (tCB (rLn K) (tCons te tNil)) Γ M (D K (.int xs.length)) M1 := by
  have := ev_cb (ea_cons h ea_nil) (rc_lenDT (K := K) (ds := xs.map f) (M := M1))
  rw [List.length_map] at this
  exact this
end
end Hq
namespace Hq
open PySem L2
section
variable {K : PySem.W.Frag} {E E' : Ent} {F F' H H' : Hp} {M M' Mc Mc' M0 M1 M2 M3 : Ms} {Γ Γ' : Gm} {P P' P1 P2 : MP} {O O' : MO} {q : Addr} {σ : St} {o o' : HO} {j i : Nat}
variable {te ta tb tc tl : TE} {t u : TT} {r : R2} {D1 : Ends} {tu tw tz : TS} {ps qs : List MP} {sp : Sp} {X : XK} {tr : TA}
theorem evn_cat {Ps1 : Ms → Prop} (h1 : EvN ta Γ M (ML ps) M1) (h2 : ∀ M, Ps1 M → EvN tb Γ M (ML qs) M) (hp : ∀ q, Ps1 ((q, ML ps) :: M1)) (hz : ps.length + qs.length ≤ 100000) : EvN (tOp rCat ta tb) Γ M (ML (ps ++ qs)) M1 := fun E F σ H a b Q k =>
  h1 E F σ H a b _ fun x F1 H1 f1 e1 g1 => h2 _ (hp x) E F1 σ H1 g1 (b.mono e1) _ fun y F2 H2 f2 e2 g2 => by
    obtain ⟨_, o, ho, vs, rfl, s⟩ := g2.at (j := 1) rfl
    obtain ⟨_, o, ho', ws, rfl, s'⟩ := g2.at (j := 0) rfl
    refine ⟨x, y, vs, ws, rfl, rfl, ho, ho', sz_of (by rw [paired_len s, paired_len s']; exact hz), fun p hp => ?_⟩
    have g3 := (g2.new (O := ML (ps ++ qs)) (o := .lst (vs ++ ws)) hp ⟨_, rfl, paired_app s s'⟩).drop (List.Sublist.cons₂ _ ((List.sublist_cons_self _ _).trans (List.sublist_cons_self _ _)))
    exact k p F2 _ (g2.fresh hp) (e1.trans e2) g3
/-- for i in reversed(range(n)) -/
theorem q_forRev {z : Int} (h : Ev te Γ M (D K (.int z)) M1) (hz : 0 ≤ z ∧ z ≤ 1000000) (J : Nat → Gm → Ms → Prop) (h0 : J 0 Γ M1)
    (hs : ∀ n : Nat, (n : Int) < z → ∀ Γ' M', J n Γ' M' → Nx E (Γ'.set i (some (D K (.int (z - 1 - n))))) M' (tu { D1 with nx := JA E (J (n + 1)), ct := JA E (J (n + 1)), bk := tz D1 }))
    (hd : ∀ Γ' M', J z.toNat Γ' M' → Nx E Γ' M' (tz D1)) : Nx E Γ M (tSeq (tFor (iRevR (tRg1 te)) (gName i) tu) tz D1) := fun σ H ⟨F, a, b⟩ => h E F σ H a b _ fun v F1 H1 e1 g1 p => by
  cases dp_int p
  refine ⟨z, rfl, by omega, by omega, by omega, by omega, ?_⟩
  have e0 : (z - 0).toNat = z.toNat := by rw [Int.sub_zero]
  rw [e0]
  refine L2.for_rangeC (lo := 0 + ((z.toNat : Nat) : Int) - 1) (c := -1) (n := z.toNat) (D := { D1 with nx := tz D1 }) (fun n σ H => JA E (J n) σ H) ⟨Γ, M1, h0, F1, g1, b.mono e1⟩ (fun n σ2 H2 hn hJ => ?_) (fun σ2 H2 hJ => ?_)
  · obtain ⟨Γ', M', hJ, F2, g2, b2⟩ := hJ
    refine hs n (by omega) Γ' M' hJ _ _ ⟨F2, g2, b2.set i ?_⟩
    have e : (0 : Int) + ((z.toNat : Nat) : Int) - 1 + (n : Int) * (-1) = z - 1 - n := by omega
    show Dp K F2 (.int _) _
    rw [e]
    exact .int _
  · obtain ⟨Γ', M', hJ, at2⟩ := hJ
    exact hd Γ' M' hJ _ _ at2
/-! ### lists of own lists -/
def innerE {α : Type} (K : PySem.W.Frag) (f : α → PyData) (as : List Addr) (ls : List (List α)) : Ms := (as.zip ls).map fun p => (p.1, ML (p.2.map fun x => D K (f x)))
section
variable {α : Type} {f : α → PyData}
theorem ie_snoc {as : List Addr} {rs : List (List α)} {p : Addr} {l : List α} (h : as.length = rs.length) : innerE K f (as ++ [p]) (rs ++ [l]) = innerE K f as rs ++ [(p, ML (l.map fun x => D K (f x)))] := by
  unfold innerE
  rw [List.zip_append h, List.map_append]; rfl
theorem ie_set {as : List Addr} {rs : List (List α)} {n : Nat} {l : List α} (h : as.length = rs.length) (hn : n < as.length) : (innerE K f as rs).set n (as[n], ML (l.map fun x => D K (f x))) = innerE K f as (rs.set n l) := by
  unfold innerE
  apply List.ext_getElem
  · simp [h]
  · intro i h1 h2
    simp at h1 h2
    rw [List.getElem_set]
    by_cases e : n = i
    · subst e; simp
    · rw [if_neg e]; simp [List.getElem_set, e]
theorem ie_at {as : List Addr} {rs : List (List α)} {n : Nat} (h : as.length = rs.length) (hn : n < as.length) : (innerE K f as rs)[n]? = some (as[n], ML ((rs.getD n []).map fun x => D K (f x))) := by
  unfold innerE
  have : n < rs.length := by omega
  simp [List.getElem?_eq_getElem, hn, this, h]
theorem freezeE : ∀ {as : List Addr} {ls : List (List α)} {M0 : Ms} {F H}, as.length = ls.length → (∀ a ∈ as, E.H a = none) → Pt E F (M0 ++ innerE K f as ls) H → ∃ F', Ex F F' ∧ Pt E F' M0 H ∧ Paired (fun a l => Dp K F' (.ref a) (.list (l.map f))) as ls
  | [], [], M0, F, H, _, _, g => ⟨F, Evl.Ex.refl _, by simpa [innerE] using g, .nil⟩
  | a :: as, l :: ls, M0, F, H, hl, ha, g => by
    have at0 : (M0 ++ innerE K f (a :: as) (l :: ls))[M0.length]? = some (a, ML (l.map fun x => D K (f x))) := by
      rw [List.getElem?_append_right (Nat.le_refl _), Nat.sub_self]; rfl
    obtain ⟨fq, o, ho, vs, rfl, s⟩ := g.at at0
    have g2 := g.freeze at0 (ha a List.mem_cons_self) ho
    have er : (M0 ++ innerE K f (a :: as) (l :: ls)).eraseIdx M0.length = M0 ++ innerE K f as ls := by
      rw [List.eraseIdx_append_of_length_le (Nat.le_refl _), Nat.sub_self]; rfl
    rw [er] at g2
    obtain ⟨F', e, g3, p⟩ := freezeE (by simpa using hl) (fun b hb => ha b (List.mem_cons_of_mem _ hb)) g2
    have ex1 : Ex F (upd F a (.lst vs)) := Evl.Ex.new fq
    refine ⟨F', ex1.trans e, g3, .cons (Dp.mono e ?_) p⟩
    exact Lm_le (K := K) _ _ ⟨a, vs, rfl, SqL.of upd_same, s.mono ex1⟩
theorem nx_nestedE {g : St → Hp → Prop} {i : Nat} {as : List Addr} {ls : List (List α)} {M0 : Ms} (hl : as.length = ls.length) (hq : E.H q = none) (ha : ∀ a ∈ as, E.H a = none) (hg : Γ[i]? = some (some (Own q))) (h : Nx E (Γ.set i (some (D K (.list (ls.map fun l => .list (l.map f)))))) M0 g) :
    Nx E Γ ((q, ML (as.map Own)) :: (M0 ++ innerE K f as ls)) g := by
  rintro σ H ⟨F, a, b⟩
  obtain ⟨F1, e1, g1, p⟩ := freezeE (M0 := (q, ML (as.map Own)) :: M0) hl ha a
  obtain ⟨fq, o, ho, vs, rfl, s⟩ := g1.at (j := 0) rfl
  have g2 := g1.freeze (j := 0) rfl hq ho
  have ex1 : Ex F1 (upd F1 q (.lst vs)) := Evl.Ex.new fq
  refine h σ H ⟨_, g2, (b.mono (e1.trans ex1)).upd hg fun v hv => ?_⟩
  have hv : v = .ref q := hv
  subst hv
  refine .lst (SqL.of upd_same) ?_
  have key2 : ∀ {as : List Addr} {ls : List (List α)} {ws : List V}, Paired (fun a l => Dp K F1 (.ref a) (.list (l.map f))) as ls → Ps F1 ws (as.map Own) → DpAll K (upd F1 q (.lst vs)) ws (ls.map fun l => .list (l.map f)) := by
    intro as ls ws p
    induction p generalizing ws with
    | nil => intro s; cases s; exact .nil
    | cons x t ih =>
      intro s
      cases s with
      | cons y u =>
        have y : _ = V.ref _ := y
        subst y
        exact .cons (Dp.mono ex1 x) (ih u)
  exact key2 p s
end
end
section
variable {K : PySem.W.Frag} {E : Ent} {M : Ms} {Γ : Gm} {O : Nat → MO} {D1 : Ends} {tz : TS} {te : TE} {tr : TA} {i j : Nat}
theorem Pt.perm {F H : Hp} {M M' : Ms} (h : Pt E F M H) (p : M.Perm M') : Pt E F M' H := ⟨h.gr, ⟨h.wd.ex, (p.map _).nodup_iff.mp h.wd.nd, fun r hr => h.wd.own r (p.mem_iff.mpr hr)⟩, fun r hr => h.fr r (p.mem_iff.mpr hr)⟩
def zipR (O : Nat → MO) (as : List Addr) (n : Nat) : Ms := (as.zip (List.range n)).map fun p => (p.1, O p.2)
theorem zipR_snoc {as : List Addr} {n : Nat} {q : Addr} (h : as.length = n) : zipR O (as ++ [q]) (n + 1) = zipR O as n ++ [(q, O n)] := by
  unfold zipR
  rw [List.range_succ, List.zip_append (by rw [List.length_range]; exact h), List.map_append]; rfl
theorem q_lcOwn {z : Int} (h : EvA tr Γ M [D K (.int z)] M) (hz : z ≤ 50000 ∧ 0 ≤ z) (he : ∀ x : Nat, (x : Int) < z → EvN te ((Γ.set i none).set i (some (D K (.int x)))) M (O x) M)
    (k : ∀ q as, E.H q = none → (∀ a ∈ as, E.H a = none) → as.length = z.toNat → Nx E (Γ.set j (some (Own q))) ((q, ML (as.map Own)) :: (M ++ zipR O as z.toNat)) (tz D1)) :
    Nx E Γ M (tSeq (tAsg (tLc (iRng1 tr) (gName i) tYes te [i]) (gName j)) tz D1) := fun σ H ⟨F, a, b⟩ => h E F σ H a b _ fun vs F1 H1 e1 g1 p => by
  obtain ⟨v, rfl, hv⟩ := ps1 p
  cases dp_int hv
  refine ⟨z, rfl, by omega, by omega, fun D2 hD => ?_⟩
  have gn : Pt E F1 ((D2, ML []) :: M) (upd H1 D2 (.lst [])) := g1.new hD ⟨[], rfl, .nil⟩
  refine lc_range (lo := 0) (n := z.toNat) (fun n H' => ∃ F' as, Pt E F' ((D2, ML (as.map Own)) :: (M ++ zipR O as n)) H' ∧ Ex F1 F' ∧ as.length = n ∧ ∀ a ∈ as, E.H a = none) ⟨F1, [], by simpa [zipR] using gn, Evl.Ex.refl _, rfl, fun _ h => by cases h⟩ (fun n H2 hn ⟨F2, as, g2, e2, hl, hf⟩ => ⟨wipe_one, ?_⟩) (fun H2 ⟨F2, as, g2, e2, hl, hf⟩ => ?_)
  · have e0 : (0 : Int) + (n : Int) = (n : Int) := Int.zero_add _
    rw [e0]
    have sub : List.Sublist M ((D2, ML (as.map Own)) :: (M ++ zipR O as n)) := (List.sublist_append_left _ _).trans (List.sublist_cons_self _ _)
    show te _ H2 _
    refine he n (by omega) ⟨F2, H2, keys M⟩ F2 _ H2 (Pt.start (g2.drop sub).wd) ((env_wipe (b.mono (e1.trans e2))).set i (P := D K (.int n)) (.int _)) _ fun q F3 H3 hq e3 g3 => ?_
    have g4 : Pt E F3 ((q, O n) :: (D2, ML (as.map Own)) :: (M ++ zipR O as n)) H3 := g2.frameN hq g3 (fun x hx => by
      obtain ⟨r, hr, e⟩ := List.mem_map.mp hx
      exact List.mem_map.mpr ⟨r, sub.subset hr, e⟩) rfl fun r hr => by
        by_cases hm : r.1 ∈ keys M
        · obtain ⟨s, hs, e⟩ := List.mem_map.mp hm
          -- one entry for each address
          have one : ∀ {L : Ms}, (keys L).Nodup → ∀ r ∈ L, ∀ s ∈ L, r.1 = s.1 → r = s := by
            intro L
            induction L with
            | nil => intro _ r hr; cases hr
            | cons m L ih =>
              intro nd r hr s hs e
              have nd' := List.nodup_cons.mp (show (m.1 :: keys L).Nodup from nd)
              rcases List.mem_cons.mp hr with e1 | hr <;> rcases List.mem_cons.mp hs with e2 | hs
              · rw [e1, e2]
              · exact absurd (show m.1 ∈ keys L by rw [← e1, e]; exact List.mem_map_of_mem (f := (·.1)) hs) nd'.1
              · exact absurd (show m.1 ∈ keys L by rw [← e2, ← e]; exact List.mem_map_of_mem (f := (·.1)) hr) nd'.1
              · exact ih nd'.2 r hr s hs e
          have := one g2.wd.nd r hr s (sub.subset hs) e.symm
          rw [this]; exact .inr hs
        · exact .inl ⟨hm, hr⟩
    obtain ⟨_, o, ho, ws, rfl, s⟩ := g4.at (j := 1) rfl
    refine ⟨ws, ho, sz_lt (by rw [paired_len s, List.length_map]; omega), F3, as ++ [q], ?_, e2.trans e3, by rw [List.length_append, hl]; rfl, fun x hx => ?_⟩
    · have g5 := g4.mut (j := 1) (O' := ML ((as ++ [q]).map Own)) (o' := .lst (ws ++ [.ref q])) rfl ⟨_, rfl, by rw [List.map_append]; exact paired_app s (.cons (show (Own q).p F3 (.ref q) from rfl) .nil)⟩
      rw [zipR_snoc hl]
      refine g5.perm ?_
      show ((q, O n) :: (D2, ML ((as ++ [q]).map Own)) :: (M ++ zipR O as n)).Perm _
      refine (List.Perm.swap _ _ _).trans (List.Perm.cons _ ?_)
      rw [← List.append_assoc]
      exact (List.perm_append_singleton _ _).symm
    · rcases List.mem_append.mp hx with h1 | h1
      · exact hf x h1
      · rw [List.mem_singleton.mp h1]; exact g2.fresh hq
  · exact k D2 as (g1.fresh hD) hf hl _ _ ⟨F2, g2, (b.mono (e1.trans e2)).set j (P := Own D2) rfl⟩
end
section
variable {K : PySem.W.Frag} {M M1 : Ms} {Γ : Gm} {te : TE} {b : Bool} {l ns : List Int} {q : Addr} {j : Nat}
theorem rv_ixW {i x : Int} (h0 : 0 ≤ i) (h : (l.map PyData.int)[i.toNat]? = some (.int x)) : RV (rIx K) (D K (dW b l)) (D K (.int i)) M (D K (.int x)) M := by
  cases b with
  | true => exact rv_ixDT (ds := l.map PyData.int) h0 h
  | false => exact rv_ixDL (ds := l.map PyData.int) h0 h
theorem ev_lenW (h : Ev te Γ M (D K (dW b l)) M1) : Ev (tCB (rLn K) (tCons te tNil)) Γ M (D K (.int l.length)) M1 := by
  cases b with
  | true => exact ev_lenMT (f := PyData.int) h
  | false => exact ev_lenM (f := PyData.int) h
theorem rcn_sortedO (e : M[j]? = some (q, MInts K ns)) : RCN (rSortedI K) [Own q] M (MX fun ns' : List Int => MA (ns'.Perm ns ∧ ns'.Pairwise (· ≤ ·)) (MInts K ns')) M := fun E F H vs a h Q k => by
  obtain ⟨v, rfl, hv⟩ := ps1 h
  have hv : v = .ref q := hv
  subst hv
  obtain ⟨_, o, ho, ws, rfl, s⟩ := a.at e
  cases ints_map s
  exact ⟨q, ns, rfl, SqL.of ho, fun ns' l h1 h2 hl => k l F _ (a.fresh hl) (Evl.Ex.refl _) (a.new hl ⟨ns', ⟨h1, h2⟩, _, rfl, map_ints ns'⟩)⟩
end
theorem pi_listK {Y : Cx} {K : PySem.W.Frag} {tg l : PySem.Expr} {tl : TE} (e : Y.K = K) (hl : PE Y l tl) : PI Y tg l (iList K tl) := e ▸ pi_list hl
theorem pi_tupK {Y : Cx} {K : PySem.W.Frag} {tg l : PySem.Expr} {tl : TE} (e : Y.K = K) (hl : PE Y l tl) : PI Y tg l (iTup K tl) := e ▸ pi_tup hl
end Hq
namespace Hq
open PySem L2
/-! ### xs.index(y, lo): an item of a list of ints from a place on -/
def rIndex3 (K : PySem.W.Frag) : V → List V → Hp → VK → Prop := fun x xs H Q => ∃ (a : Addr) (ns : List Int) (y lo : Int) (j : Nat), x = .ref a ∧ xs = [.int y, .int lo] ∧ SqL K H a (ns.map V.int) ∧ (0 ≤ lo ∧ lo.toNat ≤ j) ∧ ns[j]? = some y ∧
  (∀ m : Nat, lo.toNat ≤ m → m < j → ns[m]? ≠ some y) ∧ Q (.int (j : Nat)) H
theorem flatI {ns : List Int} : (ns.map V.int).all flatV = true := by
  rw [List.all_map, List.all_eq_true]
  intro x _; rfl
theorem mt_index3 {X : Cx} : MtR X "list.index" (rIndex3 X.K) := by
  intro pn st sg H x args v us Q I rx rargs h
  obtain ⟨a, ns, y, lo, j, rfl, rfl, hs, ⟨h0, hlo⟩, hj, hno, q⟩ := h
  cases rx
  obtain ⟨u1, u2, rfl, r1, r2⟩ := rargs.two
  obtain ⟨t, rfl⟩ := r2
  obtain ⟨its, rv, ⟨⟨cls, dd, dt, sl⟩, n, ho, hc, hdn, hd⟩, hz⟩ := I.list hs
  simp only at hc hd
  subst hc hd
  have hvl : ns.length = its.length := by have := rv.length; rwa [List.length_map] at this
  have hjl : j < ns.length := (List.getElem?_eq_some_iff.mp hj).1
  have szl := sizeLine_eq
  have hzn : ns.length ≤ sizeLine := by simpa using hz
  have gv : ∀ m (hm : m < its.length), eqU (.int y) its[m] = decide (ns[m]'(by omega) = y) := fun m hm => by
    have e0 : (ns.map V.int)[m]? = some (.int (ns[m]'(by omega))) := by rw [List.getElem?_map, List.getElem?_eq_getElem (by omega)]; rfl
    obtain ⟨w, hw, rw'⟩ := rv.get e0
    have e1 : its[m] = w := by
      rw [List.getElem?_eq_getElem hm] at hw
      exact Option.some.inj hw
    rw [e1, eqU_of rw' rfl]
    rfl
  refine call_meets PySem.F.slot_list_index ⟨_, ho, rfl⟩ PySem.F.entry_list_index (PySem.F.args_list_index_3 _ _ _)
    (SeqAt.list_index3_found a its.toArray n dd sl u1 (fun m => eqU (.int y) (its.toArray.getD m .none)) lo t j (by rw [List.size_toArray]; omega) (by rw [SeqAt.searchFrom_nonneg h0]; exact hlo) (by omega) ?_ ?_) ⟨ho, fun m hm => ?_, ?_⟩
  · have hj2 : j < its.length := by omega
    have : its.toArray.getD j .none = its[j] := by simp [Array.getD, hj2]
    show eqU _ _ = true
    rw [this, gv j hj2, decide_eq_true_iff]
    exact (List.getElem?_eq_some_iff.mp hj).2
  · intro m hm hl2 hmj
    have hm2 : m < its.length := by simpa using hm
    have : its.toArray.getD m .none = its[m] := by simp [Array.getD, hm2]
    show eqU _ _ = false
    rw [this, gv m hm2, decide_eq_false_iff_not]
    intro e
    rw [SeqAt.searchFrom_nonneg h0] at hl2
    exact hno m hl2 hmj (by rw [List.getElem?_eq_getElem (by omega), e])
  · have hm2 : m < its.length := by simpa using hm
    have : its.toArray.getD m .none = its.toArray[m] := by simp [Array.getD, hm2]
    rw [this]
    exact mem_eqAt r1 rfl rv flatI _ (by simp)
  · exact ⟨.int (j : Nat), H, I.tok _, ⟨_, rfl⟩, q⟩
section
variable {K : PySem.W.Frag} {E : Ent} {M M1 M2 : Ms} {Γ : Gm} {P : MP} {O : MO} {q : Addr} {j : Nat} {te ta tb ta2 tb2 tl : TE} {tr : TA} {D1 : Ends} {tz : TS}
/-- an owned list's index -/
theorem ev_index3 {ns : List Int} {y lo : Int} {k : Nat} (ho : Ev ta Γ M (Own q) M) (h : EvA tr Γ M [D K (.int y), D K (.int lo)] M) (e : M[j]? = some (q, MInts K ns)) (h0 : 0 ≤ lo ∧ lo.toNat ≤ k) (hk : ns[k]? = some y) (hno : ∀ m : Nat, lo.toNat ≤ m → m < k → ns[m]? ≠ some y) :
    Ev (tBM K "list" (rIndex3 K) ta tr) Γ M (D K (.int k)) M := fun E F σ H a b Q kk => ho E F σ H a b _ fun v F1 H1 e1 g1 p1 => by
  have p1 : v = .ref q := p1
  subst p1
  obtain ⟨_, o, ho1, ws0, rfl, _⟩ := g1.at e
  refine ⟨.inl ⟨rfl, ws0, SqL.of ho1⟩, ?_⟩
  refine h E F1 σ H1 g1 (b.mono e1) _ fun vs F2 H2 e2 g2 p2 => ?_
  obtain ⟨x1, x2, rfl, h1, h2⟩ := ps2 p2
  cases dp_int h1; cases dp_int h2
  obtain ⟨_, o, ho2, ws, rfl, s⟩ := g2.at e
  have es := ints_map s
  subst es
  exact ⟨q, ns, y, lo, k, rfl, rfl, SqL.of ho2, h0, hk, hno, kk _ _ _ (e1.trans e2) g2 (.int _)⟩
/-! ### xs[i] += e -/
def rGetL (K : PySem.W.Frag) : V → V → Hp → VK → Prop := fun o i H Q => ∃ p xs k v, o = .ref p ∧ i = .int k ∧ SqL K H p xs ∧ (0 ≤ k ∧ k < 1000000) ∧ xs[k.toNat]? = some v ∧ Q v H
theorem get_list {X : Cx} : PGet X (rGetL X.K) := by
  intro pn st sg H x y v u Q I rx ry h
  obtain ⟨p, xs, k, z, rfl, rfl, hs, ⟨h0, h1⟩, hz, q⟩ := h
  cases rx
  obtain ⟨t, rfl⟩ := ry
  obtain ⟨its, rv, pl, hl⟩ := I.list hs
  obtain ⟨w, hw, rw'⟩ := rv.get hz
  exact wpAny_getItem_list pl.isList h0 (by omega) (by simpa using hw) ⟨z, H, I, rw', q⟩
theorem c_fld {Y : Cx} {e : PySem.Expr} {f : Str} {pos : Pos} (e2 : Y.K = K) (he : PE Y e ta) (hb : attributeBase e f Y.env (eval e Y.env) = eval e Y.env) : PE Y (.Attribute e f pos) (tFld K ta f) := e2 ▸ pe_fld he hb
theorem c_getL {Y : Cx} (e : Y.K = K) : PGet Y (rGetL K) := e ▸ get_list
theorem go_augS {ns : List Int} {f : Int → Int → Int} {i x y : Int} (ho : Ev ta Γ M (Own q) M) (hi : Ev tb Γ M (D K (.int i)) M) (h : Ev te Γ M (D K (.int y)) M) (e : M[j]? = some (q, MInts K ns)) (h0 : 0 ≤ i ∧ i < 1000000) (hx : ns[i.toNat]? = some x)
    (k : Nx E Γ (M.set j (q, MInts K (ns.set i.toNat (f x y)))) D1.nx) : Nx E Γ M (tAugS ta tb te (rGetL K) (ipI f) rSetL D1) := fun σ H ⟨F, a, b⟩ => ho E F σ H a b _ fun v F1 H1 e1 g1 p1 => by
  have p1 : v = .ref q := p1
  subst p1
  refine hi E F1 σ H1 g1 (b.mono e1) _ fun w F2 H2 e2 g2 p2 => ?_
  cases dp_int p2
  obtain ⟨_, o, ho2, ws, rfl, s⟩ := g2.at e
  have es := ints_map s
  subst es
  refine ⟨q, _, i, .int x, rfl, rfl, SqL.of ho2, h0, by rw [List.getElem?_map, hx]; rfl, ?_⟩
  refine h E F2 σ H2 g2 (b.mono (e1.trans e2)) _ fun w F3 H3 e3 g3 p3 => ?_
  cases dp_int p3
  refine ⟨x, y, rfl, rfl, ?_⟩
  obtain ⟨_, o, ho3, ws, rfl, s3⟩ := g3.at e
  have hn : i.toNat < ns.length := (List.getElem?_eq_some_iff.mp hx).1
  obtain ⟨n, rfl⟩ := Int.eq_ofNat_of_zero_le h0.1
  refine ⟨q, ws, n, n, rfl, rfl, ho3, Evl.ixN_nat (by rw [paired_len s3, List.length_map]; exact hn), ?_⟩
  have es := ints_map s3
  subst es
  refine k _ _ ⟨F3, g3.mut e ⟨_, rfl, ?_⟩, b.mono ((e1.trans e2).trans e3)⟩
  rw [← List.map_set]
  exact map_ints _
theorem q_augS {ns : List Int} {f : Int → Int → Int} {i x y : Int} (ho : Ev ta Γ M (Own q) M) (hi : Ev tb Γ M (D K (.int i)) M) (h : Ev te Γ M (D K (.int y)) M) (e : M[j]? = some (q, MInts K ns)) (h0 : 0 ≤ i ∧ i < 1000000) (hx : ns[i.toNat]? = some x)
    (k : Nx E Γ (M.set j (q, MInts K (ns.set i.toNat (f x y)))) (tz D1)) : Nx E Γ M (tSeq (tAugS ta tb te (rGetL K) (ipI f) rSetL) tz D1) := go_augS (D1 := { D1 with nx := tz D1 }) ho hi h e h0 hx k
/-! ### xs[i], xs[i2] = x, y -/
theorem go_setL2 {ns : List Int} {i i2 x y : Int} (h : Ev te Γ M (PTu K [D K (.int x), D K (.int y)]) M1) (ho : ∀ M, Ev ta Γ M (Own q) M) (hi : ∀ M, Ev tb Γ M (D K (.int i)) M) (ho2 : ∀ M, Ev ta2 Γ M (Own q) M) (hi2 : ∀ M, Ev tb2 Γ M (D K (.int i2)) M)
    (e : M1[j]? = some (q, MInts K ns)) (h0 : 0 ≤ i ∧ i.toNat < ns.length) (h2 : 0 ≤ i2 ∧ i2.toNat < ns.length) (k : Nx E Γ (M1.set j (q, MInts K ((ns.set i.toNat x).set i2.toNat y))) D1.nx) :
    Nx E Γ M (tAsg te (gTup K 2 (gCons (gSub ta tb rSetL) (gCons (gSub ta2 tb2 rSetL) gNil))) D1) := fun σ H ⟨F, a, b⟩ => h E F σ H a b _ fun v F1 H1 e1 g1 ⟨p, vs, ev, s, qq⟩ => by
  obtain ⟨w1, w2, rfl, p1, p2⟩ := ps2 qq
  cases dp_int p1; cases dp_int p2
  refine ⟨p, [.int x, .int y], ev, Evl.ex_t g1.ex s, rfl, .int x, [.int y], rfl, ?_⟩
  refine ho _ E F1 σ H1 g1 (b.mono e1) _ fun v F2 H2 e2 g2 p1 => ?_
  have p1 : v = .ref q := p1
  subst p1
  refine hi _ E F2 σ H2 g2 (b.mono (e1.trans e2)) _ fun w F3 H3 e3 g3 p3 => ?_
  cases dp_int p3
  obtain ⟨_, o, ho3, ws, rfl, s3⟩ := g3.at e
  have es := ints_map s3
  subst es
  obtain ⟨n, rfl⟩ := Int.eq_ofNat_of_zero_le h0.1
  refine ⟨q, _, n, n, rfl, rfl, ho3, Evl.ixN_nat (by rw [List.length_map]; exact h0.2), ?_⟩
  have g4 := g3.mut (o' := .lst ((ns.map V.int).set n (.int x))) e (O' := MInts K (ns.set n x)) ⟨_, rfl, by rw [← List.map_set]; exact map_ints _⟩
  have e4 : (M1.set j (q, MInts K (ns.set n x)))[j]? = some (q, MInts K (ns.set n x)) := by rw [List.getElem?_set_self (List.getElem?_eq_some_iff.mp e).1]
  refine ⟨.int y, [], rfl, ?_⟩
  refine ho2 _ E F3 σ _ g4 (b.mono ((e1.trans e2).trans e3)) _ fun v F5 H5 e5 g5 p1 => ?_
  have p1 : v = .ref q := p1
  subst p1
  refine hi2 _ E F5 σ H5 g5 (b.mono (((e1.trans e2).trans e3).trans e5)) _ fun w F6 H6 e6 g6 p6 => ?_
  cases dp_int p6
  obtain ⟨_, o, ho6, ws, rfl, s6⟩ := g6.at e4
  have es := ints_map s6
  subst es
  obtain ⟨m, rfl⟩ := Int.eq_ofNat_of_zero_le h2.1
  refine ⟨q, _, m, m, rfl, rfl, ho6, Evl.ixN_nat (by rw [List.length_map, List.length_set]; exact h2.2), rfl, ?_⟩
  have g7 := g6.mut (o' := .lst (((ns.set n x).map V.int).set m (.int y))) e4 (O' := MInts K ((ns.set n x).set m y)) ⟨_, rfl, by rw [← List.map_set]; exact map_ints _⟩
  rw [List.set_set] at g7
  exact k _ _ ⟨F6, g7, b.mono ((((e1.trans e2).trans e3).trans e5).trans e6)⟩
theorem q_setL2 {ns : List Int} {i i2 x y : Int} (h : Ev te Γ M (PTu K [D K (.int x), D K (.int y)]) M1) (ho : ∀ M, Ev ta Γ M (Own q) M) (hi : ∀ M, Ev tb Γ M (D K (.int i)) M) (ho2 : ∀ M, Ev ta2 Γ M (Own q) M) (hi2 : ∀ M, Ev tb2 Γ M (D K (.int i2)) M)
    (e : M1[j]? = some (q, MInts K ns)) (h0 : 0 ≤ i ∧ i.toNat < ns.length) (h2 : 0 ≤ i2 ∧ i2.toNat < ns.length) (k : Nx E Γ (M1.set j (q, MInts K ((ns.set i.toNat x).set i2.toNat y))) (tz D1)) :
    Nx E Γ M (tSeq (tAsg te (gTup K 2 (gCons (gSub ta tb rSetL) (gCons (gSub ta2 tb2 rSetL) gNil)))) tz D1) := go_setL2 (D1 := { D1 with nx := tz D1 }) h ho hi ho2 hi2 e h0 h2 k
theorem call1m {ps : List MP} {O O' : MO} {sp : Sp} {X : XK} (h : EvA tr Γ M ps M1) (e : M1[j]? = some (q, O)) (hs : ∀ vs H Q, Prom ps [(q, O)] P [(q, O')] vs H Q → sp vs H Q X) : Ev (tCall sp [] X tr) Γ M P (M1.set j (q, O')) := ev_call h (rc_prom1 e fun vs H Q z => by rw [List.append_nil]; exact hs vs H Q z)
/-! ### t[lo:hi] -/
def EvP (to : TO) (Γ : Gm) (M : Ms) (o : Option Int) : Prop := ∀ E F σ H, Pt E F M H → EnvOk F σ Γ → ∀ Q : Option Int → Hp → Prop, (∀ F' H', Ex F F' → Pt E F' M H' → Q o H') → to σ H Q
theorem ep_none : EvP tNoPart Γ M none := fun E F σ H a b Q k => k F H (Evl.Ex.refl _) a
theorem ep_some {i : Int} (h : Ev te Γ M (D K (.int i)) M) : EvP (tPart te) Γ M (some i) := fun E F σ H a b Q k => h E F σ H a b _ fun v F1 H1 e1 g1 p1 => by
  cases dp_int p1
  exact ⟨i, rfl, k _ _ e1 g1⟩
def cutI (l : List Int) (lo hi : Option Int) : List Int := (l.drop (HT.sIx l.length 0 lo)).take (HT.sIx l.length l.length hi - HT.sIx l.length 0 lo)
theorem ev_slT {l : List Int} {lo hi : Option Int} {tl th : TO} (h : Ev te Γ M (D K (dT l)) M1) (h1 : EvP tl Γ M1 lo) (h2 : EvP th Γ M1 hi) : Ev (tSl (rSlA K) te tl th) Γ M (D K (dT (cutI l lo hi))) M1 := fun E F σ H a b Q k =>
  h E F σ H a b _ fun v F1 H1 e1 g1 p1 => h1 E F1 σ H1 g1 (b.mono e1) _ fun F2 H2 e2 g2 => h2 E F2 σ H2 g2 (b.mono (e1.trans e2)) _ fun F3 H3 e3 g3 => by
    have e23 := e2.trans e3
    obtain ⟨p, vs, rfl, s, qq⟩ := le_dT _ _ ((D K (dT l)).mono e23 p1)
    have es := ints_map qq
    subst es
    have hl : (l.map V.int).length = l.length := List.length_map _
    refine ⟨p, _, rfl, Evl.ex_t g3.ex s, fun hw => ?_, fun hw r hr => ?_⟩
    · rw [hl] at hw
      have : cutI l lo hi = l := by unfold cutI; rw [hw.1, hw.2]; simp
      rw [this] at k
      exact k _ _ _ (e1.trans e23) g3 (dT_le _ _ ⟨p, _, rfl, s, map_ints _⟩)
    · have ex := Evl.Ex.new (o := .tup (cutV (l.map V.int) lo hi)) (Evl.fresh_back g3.ex hr)
      refine k _ _ _ ((e1.trans e23).trans ex) (g3.laid hr) (dT_le _ _ ⟨r, (cutI l lo hi).map V.int, rfl, ?_, map_ints _⟩)
      have : cutV (l.map V.int) lo hi = (cutI l lo hi).map V.int := by
        unfold cutV cutI
        rw [hl, List.map_take, List.map_drop]
      rw [this]
      exact SqT.of upd_same
theorem cut_take {l : List Int} {a : Nat} : cutI l none (some (a : Int)) = l.take a := by
  unfold cutI
  rw [HT.sIx_none, HT.sIx_nat]
  simp
theorem cut_drop {l : List Int} {a : Nat} : cutI l (some (a : Int)) none = l.drop a := by
  unfold cutI
  rw [HT.sIx_none, HT.sIx_nat]
  by_cases h : a ≤ l.length
  · rw [Nat.min_eq_left h]
    apply List.take_of_length_le
    rw [List.length_drop]; omega
  · rw [List.drop_of_length_le (by omega : l.length ≤ min a l.length), List.drop_of_length_le (by omega : l.length ≤ a)]; simp
/-! ### x is None -/
abbrev rIs0 : R2 := fun x y H Q => y = .non ∧ Q (.bl (decide (x = .non))) H
abbrev rNot0 : R2 := fun x y H Q => y = .non ∧ Q (.bl (!decide (x = .non))) H
theorem rv_isN1 : RV rIs0 (D K .none) (D K .none) M (D K (.bool true)) M := rv_val (z := .bl true) (fun _ => .bl _) fun F H x y p1 p2 _ Q q => by
  cases dp_non p1; cases dp_non p2
  exact ⟨rfl, q⟩
theorem rv_isN0 {ds : List PyData} : RV rIs0 (D K (.list ds)) (D K .none) M (D K (.bool false)) M := rv_val (z := .bl false) (fun _ => .bl _) fun F H x y p1 p2 _ Q q => by
  obtain ⟨a, xs, rfl, _, _⟩ := dp_lst p1
  cases dp_non p2
  exact ⟨rfl, q⟩
theorem rv_notN1 : RV rNot0 (D K .none) (D K .none) M (D K (.bool false)) M := rv_val (z := .bl false) (fun _ => .bl _) fun F H x y p1 p2 _ Q q => by
  cases dp_non p1; cases dp_non p2
  exact ⟨rfl, q⟩
theorem rv_notN0 {ds : List PyData} : RV rNot0 (D K (.list ds)) (D K .none) M (D K (.bool true)) M := rv_val (z := .bl true) (fun _ => .bl _) fun F H x y p1 p2 _ Q q => by
  obtain ⟨a, xs, rfl, _, _⟩ := dp_lst p1
  cases dp_non p2
  exact ⟨rfl, q⟩
end
end Hq
namespace Hq
open PySem L2
section
variable {K : PySem.W.Frag} {E : Ent} {M M1 M2 : Ms} {Γ : Gm} {P : MP} {O : MO} {q : Addr} {j : Nat} {te ta tb ta2 tb2 tl : TE} {tr : TA} {D1 : Ends} {tz : TS} {t u : TT}
theorem units65 {k : Nat} {A : Around} (r : Room k A) : A.units + 65 < cLine := by have := r.un; omega
/-! ### l.index(x), nested data -/
theorem c_indexD {Y : Cx} (e : Y.K = K) (hu : Y.A.units + 65 < cLine) : MtR Y "list.index" (rIndexD K) := e ▸ mt_indexD hu
theorem c_bm {Y : Cx} {o e : PySem.Expr} {es : List PySem.Expr} {to : TE} {t : TA} {name : Str} {apos cpos : Pos} {T id : String} {r : V → List V → Hp → VK → Prop} (eK : Y.K = K) (pa : PlainAttrs T) (slot : Slot T name id) (hty : typeOf (.builtin id) = pure (.type "method_descriptor")) (hm : MtR Y id r) (ho : PE Y o to) (ha : PA Y (e :: es) t)
    (hbase : attributeBase o name Y.env (eval o Y.env) = eval o Y.env := by rfl)
    (hf : ((backTo cpos (starEach (e :: es) Y.env)).all (fun x => !x.1) && (backToKw cpos (keywordEach [] Y.env)).all (fun x => x.1.isSome) && decide ((e :: es).length + ([] : List Keyword).length + (if ([] : List Keyword).isEmpty then 0 else 1) < 30)) = true := by rfl)
    (hline : (apos.endLine == cpos.line) = true := by rfl) (hs : starEach (e :: es) Y.env = (false, eval e Y.env) :: starEach es Y.env := by rfl) (hp : (backTo cpos (starEach es Y.env)).any (·.1) = false := by rfl) :
    PE Y (.Call (.Attribute o name apos) (e :: es) [] cpos) (tBM K T r to t) := by
  subst eK
  exact pe_bm pa slot hty hm ho ha hbase hf hline hs hp
theorem Enc.all_shaped {α : Type} [DecidableEq α] {f : α → PyData} {n : Nat} (e : Enc f n) (h : n + 1 ≤ 64) (l : List α) : SeqAt.shaped (.list (l.map f)) = true := (enc_list e).shaped h l
theorem ev_indexD {α : Type} [DecidableEq α] [BEq α] [LawfulBEq α] {f : α → PyData} {n : Nat} (en : Enc f n) (hn : n + 1 ≤ 64) {l : List α} {x : α} (ho : Ev ta Γ M (D K (.list (l.map f))) M) (h : Ev te Γ M (D K (f x)) M) (hx : x ∈ l) :
    Ev (tBM K "list" (rIndexD K) ta (tCons te tNil)) Γ M (D K (.int ((l.idxOf x : Nat) : Int))) M := fun E F σ H a b Q kk => ho E F σ H a b _ fun v F1 H1 e1 g1 p1 => by
  obtain ⟨p, ws, rfl, s, dp⟩ := dp_lst p1
  refine ⟨.inl ⟨rfl, ws, Evl.ex_l g1.ex s⟩, ?_⟩
  refine h E F1 σ H1 g1 (b.mono e1) _ fun w F2 H2 e2 g2 p2 => ?_
  have hl := List.idxOf_lt_length_of_mem hx
  refine ⟨p, w, f x, l.map f, l.idxOf x, f x, rfl, rfl, Dp.mono g2.ex ((D K (.list (l.map f))).mono e2 p1), Dp.mono g2.ex p2, en.all_shaped hn l, en.shaped (by omega) x, ?_, ?_, ?_, kk _ _ _ (e1.trans e2) g2 (.int _)⟩
  · rw [List.getElem?_map, List.getElem?_eq_getElem hl, List.getElem_idxOf hl]; rfl
  · rw [en.eq]; simp
  · intro m z hm hz
    rw [List.getElem?_map] at hz
    obtain ⟨y, hy, rfl⟩ := Option.map_eq_some_iff.mp hz
    rw [en.eq, decide_eq_false_iff_not]
    rintro rfl
    have hm2 : m < l.length := by omega
    have : l.idxOf y ≤ m := by
      rw [List.getElem?_eq_getElem hm2] at hy
      have hy := Option.some.inj hy
      apply Nat.le_of_not_lt
      intro hlt
      have := List.not_of_lt_findIdx hlt
      rw [hy] at this
      simp at this
    omega
/-! ### max of two, int of a truth value -/
theorem rc_max2 {a b : Int} : RC (fun xs H Q => ∃ i j, xs = [.int i, .int j] ∧ Q (.int (if j > i then j else i)) H) [D K (.int a), D K (.int b)] M (D K (.int (if b > a then b else a))) M := fun E F H vs g h Q k => by
  obtain ⟨x, y, rfl, h1, h2⟩ := ps2 h
  cases dp_int h1; cases dp_int h2
  exact ⟨a, b, rfl, k _ F H (Evl.Ex.refl _) g (.int _)⟩
theorem rc_intB {b : Bool} : RC rInt [D K (.bool b)] M (D K (.int (if b then 1 else 0))) M := fun E F H vs g h Q k => by
  obtain ⟨x, rfl, h1⟩ := ps1 h
  cases dp_bl h1
  exact .inr ⟨b, rfl, k _ F H (Evl.Ex.refl _) g (.int _)⟩
theorem et_andL {a : Bool} (h1 : EvT t Γ M (· = a) M1) (h2 : a = true → EvT u Γ M1 (fun _ => True) M1) : EvT (tAnd t u) Γ M (fun z => z = true → a = true) M1 := fun E F σ H x c Q k => h1 E F σ H x c _ fun z F1 H1 e1 g1 hz => by
  subst hz
  cases z with
  | true => exact h2 rfl E F1 σ H1 g1 (c.mono e1) _ fun z F2 H2 e2 g2 hz => k z F2 H2 (e1.trans e2) g2 fun _ => rfl
  | false => exact k false F1 H1 e1 g1 fun h => h
theorem ev_cbX1 {α : Type} {φ : α → Prop} {R : α → MP} {rc : List V → Hp → VK → Prop} (h : Ev te Γ M (PEx fun x => PAn (φ x) (R x)) M1) (hr : ∀ x, φ x → RC rc [R x] M1 P M2) : Ev (tCB rc (tCons te tNil)) Γ M P M2 := ev_cbX h fun x => RC.an1 fun hx => hr x hx
end
end Hq
namespace Hq
open PySem L2
theorem units1 {k : Nat} {A : Around} (r : Room k A) : A.units + 1 < cLine := by have := r.un; omega
/-! ### {t: e} with a tuple as key -/
def tDispT (tk tv : TE) : TE := fun σ H Q => ∀ p, H p = none → tk σ (upd H p (.dT [])) fun x H1 => tv σ H1 fun y H2 => ∃ (b : Addr) (ks : List Key), x = .ref b ∧ H2 p = some (.dT []) ∧ H2 b = some (.tup (ks.map kV)) ∧ Q (.ref p) (upd H2 p (.dT [(ks, y)]))
theorem pe_disp1T {X : Cx} {pos : Pos} {k v : PySem.Expr} {tk tv : TE} (hu : X.A.units + 64 < cLine) (hk : PE X k tk) (hv : PE X v tv) : PE X (.Dict [some k] [v] pos) (tDispT tk tv) := by
  refine ⟨fun pn st sg H Q I q => ?_⟩
  have hn := I.hok.fresh (Nat.le_refl st.heap.objs.size)
  have I1 := I.laid (a := st.heap.objs.size) (o := .dT []) (h' := st.heap.push { cls := .type "dict", data := .dict #[] }) (t' := st.toks) (fun _ _ z => Heap.get?_push_of_some _ z) (Nat.le_refl _) (dt_empty st.heap I.big)
  refine wpAny_Dict_any (keys := [some k]) (values := [v]) rfl rfl (by simp) (by simp) (pairTrees_cons_walk (thn (hk.run pn _ sg _ _ I1 (q _ hn)) fun u s1 ⟨x, H1, J1, rx, q1⟩ => thn (hv.run pn s1 sg H1 _ J1 q1) fun w2 s2 ⟨y, H2, I2, ry, q2⟩ => pairTrees_nil_walk ?_))
  obtain ⟨b, ks, rfl, e, eb, qq⟩ := q2
  cases (show u = Value.ref b from rx)
  obtain ⟨z, hd, xs, rel, dd⟩ := dt_of I2.hok e
  cases rel
  unfold storeAll
  refine wpAny_storeAllH (d := st.heap.objs.size) (knd := tupleKind (mixKind X.prog X.w)) (show (tupleKind (mixKind X.prog X.w)).room X.A from (show X.A.units < cLine by omega)) [(.ref b, w2)] [(ks, b, w2)] [] s2 _ ⟨rfl, rfl, key_of I2.hok eb, trivial⟩ dd (by show 1 ≤ sizeLine; rw [sizeLine_eq]; omega) fun h' tk dd' hs => ?_
  obtain ⟨o, es, ep, hq, h2, h3, h4, _, h5⟩ := dd'
  refine ⟨.ref _, upd H2 st.heap.objs.size (.dT [(ks, y)]), d_write I2 (by rw [e]; exact True.intro) hs ⟨o, hq⟩ ⟨by show 1 ≤ sizeLine; rw [sizeLine_eq]; omega, hd, [(ks, b, w2)], ?_, o, es, ep, hq, h2, h3, h4, h5⟩, rfl, qq⟩
  exact .cons ⟨rfl, by rw [upd_ne (ne_of eb e (fun z => nomatch z))]; exact eb, ry⟩ .nil
/-! ### tuples made here; a dict with them as keys -/
/-- a tuple of ints that stands in the heap itself -/
def NT (l : List Int) : MP := ⟨fun F v => ∃ b, v = .ref b ∧ F b = some (.tup (l.map V.int)), fun e ⟨b, h1, h2⟩ => ⟨b, h1, e _ _ h2⟩⟩
section
variable {K : PySem.W.Frag} {E : Ent} {F H : Hp} {M M1 M2 : Ms} {Γ : Gm} {P : MP} {O : MO} {q : Addr} {j : Nat} {te ta tb tk tv td : TE} {tr : TA} {D1 : Ends} {tz : TS} {t u : TT} {l a b : List Int} {L : List (List Int)}
theorem nt_T : (NT l).le (PTu K (l.map fun n => D K (.int n))) := fun F v ⟨p, h1, h2⟩ => ⟨p, l.map V.int, h1, SqT.of h2, map_ints l⟩
theorem nt_D : (NT l).le (D K (dT l)) := MP.le_trans nt_T dT_le
theorem kv_ints : (l.map Sum.inl : List Key).map kV = l.map V.int := by rw [List.map_map]; rfl
/-- the dict whose keys are these tuples, in this order -/
def MDct (L : List (List Int)) : MO := ⟨fun _ o => ∃ kvs : List (List Key × V), o = .dT kvs ∧ kvs.map (·.1) = L.map fun l => l.map Sum.inl, fun _ h => h, fun ⟨kvs, h, _⟩ xs z => by rw [h] at z; cases z⟩
theorem inl_inj {a b : List Int} : (a.map Sum.inl : List Key) = b.map Sum.inl ↔ a = b :=
  ⟨fun h => (List.map_inj_right (fun _ _ e => Sum.inl.inj e)).mp h, fun h => by rw [h]⟩
theorem dct_has {kvs : List (List Key × V)} (h : kvs.map (·.1) = L.map fun l => l.map Sum.inl) : (valV kvs (l.map Sum.inl)).isSome = decide (l ∈ L) := by
  rw [← valV_any, Bool.eq_iff_iff, List.any_eq_true, decide_eq_true_iff]
  constructor
  · rintro ⟨p, hp, e⟩
    have e : p.1 = l.map Sum.inl := by simpa using e
    have : p.1 ∈ L.map fun l => (l.map Sum.inl : List Key) := by rw [← h]; exact List.mem_map.mpr ⟨p, hp, rfl⟩
    obtain ⟨m, hm, e2⟩ := List.mem_map.mp this
    rw [e] at e2
    rw [← inl_inj.mp e2]; exact hm
  · intro hl
    have : (l.map Sum.inl : List Key) ∈ kvs.map (·.1) := by rw [h]; exact List.mem_map.mpr ⟨l, hl, rfl⟩
    obtain ⟨p, hp, e⟩ := List.mem_map.mp this
    exact ⟨p, hp, by simpa using e⟩
theorem evn_dispT (hk : ∀ M, Ev tk Γ M (NT l) M) (hv : ∀ M, Ev tv Γ M P M) : EvN (tDispT tk tv) Γ M (MDct [l]) M := fun E F σ H a b Q k p hp => by
  have g0 := a.new (q := p) (O := MDct []) (o := .dT []) hp ⟨[], rfl, rfl⟩
  refine hk _ E F σ _ g0 b _ fun x F1 H1 e1 g1 ⟨bb, ex, hb⟩ => hv _ E F1 σ H1 g1 (b.mono e1) _ fun y F2 H2 e2 g2 p2 => ?_
  subst ex
  obtain ⟨fq, o, ho, kvs, rfl, hkv⟩ := g2.at (j := 0) rfl
  have : kvs = [] := List.map_eq_nil_iff.mp hkv
  subst this
  refine ⟨bb, l.map Sum.inl, rfl, ho, by rw [kv_ints]; exact g2.ex _ _ (e2 _ _ hb), ?_⟩
  exact k p F2 _ (a.fresh hp) (e1.trans e2) (g2.mut (j := 0) rfl ⟨[(l.map Sum.inl, y)], rfl, rfl⟩)
theorem ev_dnotin (hk : Ev tk Γ M (NT l) M1) (hd : Ev td Γ M1 (Own q) M2) (e : M2[j]? = some (q, MDct L)) : Ev (tDNotIn tk td) Γ M (D K (.bool (!decide (l ∈ L)))) M2 := fun E F σ H a b Q k => by
  refine hk E F σ H a b _ fun x F1 H1 e1 g1 ⟨bb, ex, hb⟩ => hd E F1 σ H1 g1 (b.mono e1) _ fun y F2 H2 e2 g2 p2 => ?_
  subst ex
  have p2 : y = .ref q := p2
  subst p2
  obtain ⟨fq, o, ho, kvs, rfl, hkv⟩ := g2.at e
  refine ⟨q, _, rfl, DGet.t ho (by rw [kv_ints]; exact g2.ex _ _ (e2 _ _ hb)), ?_⟩
  rw [dct_has hkv]
  exact k _ F2 H2 (e1.trans e2) g2 (.bl _)
theorem go_dput (hv : Ev tv Γ M P M1) (hd : Ev td Γ M1 (Own q) M1) (hk : Ev tk Γ M1 (NT l) M1) (e : M1[j]? = some (q, MDct L)) (hl : l ∉ L) (hz : L.length < 100000) (k : Nx E Γ (M1.set j (q, MDct (L ++ [l]))) D1.nx) : Nx E Γ M (sDPut td tk tv D1) := fun σ H ⟨F, a, b⟩ => by
  refine hv E F σ H a b _ fun y F1 H1 e1 g1 p1 => hd E F1 σ H1 g1 (b.mono e1) _ fun x F2 H2 e2 g2 p2 => hk E F2 σ H2 g2 (b.mono (e1.trans e2)) _ fun z F3 H3 e3 g3 ⟨bb, ez, hb⟩ => ?_
  subst ez
  have p2 : x = .ref q := p2
  subst p2
  obtain ⟨fq, o, ho, kvs, rfl, hkv⟩ := g3.at e
  have hlen : kvs.length = L.length := by have := congrArg List.length hkv; simpa using this
  refine ⟨q, _, rfl, DPut.t ho (k := l.map Sum.inl) (by rw [kv_ints]; exact g3.ex _ _ hb) (sz_lt (by omega)), ?_⟩
  have hn : valV kvs (l.map Sum.inl) = none := by
    have := dct_has (l := l) hkv
    rw [decide_eq_false hl] at this
    cases z : valV kvs (l.map Sum.inl) with
    | none => rfl
    | some _ => rw [z] at this; cases this
  refine k _ _ ⟨F3, g3.mut e ⟨_, rfl, ?_⟩, b.mono ((e1.trans e2).trans e3)⟩
  rw [putK_new _ hn, List.map_append, List.map_append, hkv]; rfl
theorem q_dput (hv : Ev tv Γ M P M1) (hd : Ev td Γ M1 (Own q) M1) (hk : Ev tk Γ M1 (NT l) M1) (e : M1[j]? = some (q, MDct L)) (hl : l ∉ L) (hz : L.length < 100000) (k : Nx E Γ (M1.set j (q, MDct (L ++ [l]))) (tz D1)) : Nx E Γ M (tSeq (sDPut td tk tv) tz D1) :=
  go_dput (D1 := { D1 with nx := tz D1 }) hv hd hk e hl hz k
/-! made here: tuple(t), (x, y), t[a:b], t + u -/
theorem rc_tupleNT : RC (rTuple K) [NT l] M (NT l) M := fun E F H vs g h Q k => by
  obtain ⟨v, rfl, b, e, hb⟩ := ps1 h
  exact ⟨b, _, e ▸ rfl, .inr ⟨SqT.of (g.ex _ _ hb), k _ F H (Evl.Ex.refl _) g ⟨b, rfl, hb⟩⟩⟩
theorem rc_tupleNO {l : List Int} (e : M[j]? = some (q, MInts K l)) : RC (rTuple K) [Own q] M (NT l) M := fun E F H vs g h Q k => by
  obtain ⟨v, rfl, hv⟩ := ps1 h
  have hv : v = .ref q := hv
  subst hv
  obtain ⟨fq, o, ho, ws, rfl, s⟩ := g.at e
  have es := ints_map s
  subst es
  refine ⟨q, _, rfl, .inl ⟨SqL.of ho, fun p hp => ?_⟩⟩
  exact k _ _ _ (Evl.Ex.new (Evl.fresh_back g.ex hp)) (g.laid hp) ⟨p, rfl, upd_same⟩
theorem rc_tupleNL {l : List Int} : RC (rTuple K) [PLi K (l.map fun n => D K (.int n))] M (NT l) M := fun E F H vs g h Q k => by
  obtain ⟨v, rfl, b, ws, rfl, s, p⟩ := ps1 h
  have es := ints_map p
  subst es
  refine ⟨b, _, rfl, .inl ⟨Evl.ex_l g.ex s, fun r hr => ?_⟩⟩
  exact k _ _ _ (Evl.Ex.new (Evl.fresh_back g.ex hr)) (g.laid hr) ⟨r, rfl, upd_same⟩
theorem ev_tupNOf {φ : List Int → Prop} (h : EvN te Γ M (MX fun ns : List Int => MA (φ ns) (MInts K ns)) M1) : Ev (tCB (rTuple K) (tCons te tNil)) Γ M (PEx fun ns : List Int => PAn (φ ns) (NT ns)) M1 :=
  ev_cb (ea_cons ((ev_fr h).weak (MP.le_trans fr_X (PEx.le fun x => MP.le_trans fr_A (PAn.le fun _ => fr_L (K := K))))) ea_nil) (RC.ex1 fun ns => RC.an1 fun hφ => rc_tupleNL.weak (MP.le_trans (PAn.in hφ) (PEx.in (R := fun ns : List Int => PAn (φ ns) (NT ns)) ns)))
theorem ev_tupN2 {x y : Int} (h : EvA tr Γ M [D K (.int x), D K (.int y)] M1) : Ev (tTup tr) Γ M (NT [x, y]) M1 := fun E F σ H a b Q k =>
  h E F σ H a b _ fun vs F1 H1 e1 g1 p1 => by
    obtain ⟨v, w, rfl, h1, h2⟩ := ps2 p1
    cases dp_int h1; cases dp_int h2
    exact ⟨sz_of (by simp), fun p hp => k _ _ _ (e1.trans (Evl.Ex.new (Evl.fresh_back g1.ex hp))) (g1.laid hp) ⟨p, rfl, upd_same⟩⟩
theorem rv_catNT (h : a.length + b.length ≤ 100000) : RV (rCatA K) (NT a) (NT b) M (NT (a ++ b)) M := fun E F H x y g p1 p2 Q k => by
  obtain ⟨p, rfl, hp⟩ := p1
  obtain ⟨p', rfl, hp'⟩ := p2
  refine ⟨p, p', _, _, rfl, rfl, SqT.of (g.ex _ _ hp), SqT.of (g.ex _ _ hp'), sz_of (by simpa using h), fun e => ?_, fun _ e => ?_, fun _ _ r hr => ?_⟩
  · have : a = [] := by simpa using e
    subst this
    exact k _ F H (Evl.Ex.refl _) g ⟨p', rfl, hp'⟩
  · have : b = [] := by simpa using e
    subst this
    rw [List.append_nil] at k
    exact k _ F H (Evl.Ex.refl _) g ⟨p, rfl, hp⟩
  · refine k _ _ _ (Evl.Ex.new (Evl.fresh_back g.ex hr)) (g.laid hr) ⟨r, rfl, ?_⟩
    rw [List.map_append]
    exact upd_same
theorem ev_slNT {lo hi : Option Int} {tl th : TO} (h : Ev te Γ M (NT l) M1) (h1 : EvP tl Γ M1 lo) (h2 : EvP th Γ M1 hi) : Ev (tSl (rSlA K) te tl th) Γ M (NT (cutI l lo hi)) M1 := fun E F σ H a b Q k =>
  h E F σ H a b _ fun v F1 H1 e1 g1 p1 => h1 E F1 σ H1 g1 (b.mono e1) _ fun F2 H2 e2 g2 => h2 E F2 σ H2 g2 (b.mono (e1.trans e2)) _ fun F3 H3 e3 g3 => by
    have e23 := e2.trans e3
    obtain ⟨p, rfl, hp⟩ := (NT l).mono e23 p1
    have hl : (l.map V.int).length = l.length := List.length_map _
    refine ⟨p, _, rfl, SqT.of (g3.ex _ _ hp), fun hw => ?_, fun hw r hr => ?_⟩
    · rw [hl] at hw
      have : cutI l lo hi = l := by unfold cutI; rw [hw.1, hw.2]; simp
      rw [this] at k
      exact k _ _ _ (e1.trans e23) g3 ⟨p, rfl, hp⟩
    · refine k _ _ _ ((e1.trans e23).trans (Evl.Ex.new (Evl.fresh_back g3.ex hr))) (g3.laid hr) ⟨r, rfl, ?_⟩
      have : cutV (l.map V.int) lo hi = (cutI l lo hi).map V.int := by
        unfold cutV cutI
        rw [hl, List.map_take, List.map_drop]
      rw [this]
      exact upd_same
theorem ev_takeNT {n : Nat} {ti : TE} (h : Ev te Γ M (NT l) M1) (hi : Ev ti Γ M1 (D K (.int (n : Int))) M1) : Ev (tSl (rSlA K) te tNoPart (tPart ti)) Γ M (NT (l.take n)) M1 :=
  (ev_slNT h ep_none (ep_some hi)).is (by rw [cut_take])
theorem ev_dropNT {n : Nat} {ti : TE} (h : Ev te Γ M (NT l) M1) (hi : Ev ti Γ M1 (D K (.int (n : Int))) M1) : Ev (tSl (rSlA K) te (tPart ti) tNoPart) Γ M (NT (l.drop n)) M1 :=
  (ev_slNT h (ep_some hi) ep_none).is (by rw [cut_drop])
end
end Hq
namespace Hq
open PySem L2
/-! ### sorted(xs) of tuples of ints, none of them empty -/
open PySem.W in
theorem le_tups {β : Type} (x : β → List Int) : dataLe false (fun b => dT (x b)) = fun p q => decide (x p ≤ x q) := by
  funext p q
  show (!dataLt (.tuple ((x q).map .int)) (.tuple ((x p).map .int))) = _
  rw [dataLt_tuple]
  show (!rowLt ((x q).map .int) ((x p).map .int)) = _
  rw [dataLt_ints]
  rw [Bool.eq_iff_iff]
  simp [List.not_lt]
def rSortD (K : PySem.W.Frag) : List V → Hp → VK → Prop := fun vs H Q => ∃ (a : Addr) (xs : List V) (L : List (List Int)), vs = [.ref a] ∧ SqL K H a xs ∧ Paired (fun x l => Dp K H x (dT l)) xs L ∧ ((∀ l ∈ L, l ≠ []) ∨ L.length ≤ 1) ∧
  ∀ (B : List (V × List Int)) (p : Addr), B.Perm (xs.zip L) → (B.map (·.2)).Pairwise (· ≤ ·) → H p = none → Q (.ref p) (upd H p (.lst (B.map (·.1))))
theorem each_of {K : PySem.W.Frag} {H : Hp} : ∀ {xs : List V} {its : List Value} {L : List (List Int)}, Vals xs its → Paired (fun x l => Dp K H x (dT l)) xs L → PySem.W.EachIs (fun (v : Value) (b : V × List Int) => RelV b.1 v ∧ Dp K H b.1 (dT b.2)) its (xs.zip L)
  | _, _, _, .nil, .nil => .nil
  | _, _, _, .cons a t, .cons b u => .cons ⟨a, b⟩ (each_of t u)
theorem each_vals {K : PySem.W.Frag} {H : Hp} : ∀ {out : List Value} {B : List (V × List Int)}, PySem.W.EachIs (fun (v : Value) (b : V × List Int) => RelV b.1 v ∧ Dp K H b.1 (dT b.2)) out B → Vals (B.map (·.1)) out ∧ Paired (fun x l => Dp K H x (dT l)) (B.map (·.1)) (B.map (·.2))
  | _, _, .nil => ⟨.nil, .nil⟩
  | _, _, .cons a t => ⟨.cons a.1 (each_vals t).1, .cons a.2 (each_vals t).2⟩
theorem perm_short {α : Type} : ∀ {l m : List α}, l.length ≤ 1 → m.Perm l → m = l
  | [], _, _, p => p.eq_nil
  | [x], _, _, p => List.perm_singleton.mp p
  | _ :: _ :: _, _, h, _ => absurd h (by simp)
theorem pw_short {α : Type} {r : α → α → Prop} : ∀ {l : List α}, l.length ≤ 1 → l.Pairwise r
  | [], _ => .nil
  | [x], _ => List.pairwise_singleton _ _
  | _ :: _ :: _, h => absurd h (by simp)
theorem cr_sortD {X : Cx} (hu : X.A.units + 64 < cLine) : CallR X (.builtin "sorted") (rSortD X.K) := by
  intro pn st sg H vs us Q I r h
  obtain ⟨a, xs, L, rfl, hs, hp, hne, q⟩ := h
  obtain ⟨its, rv, hl, hz⟩ := I.list hs
  rw [Vals.ref1 r]
  have hlen : xs.length = L.length := paired_len hp
  have e := each_of rv hp
  rcases hne with hne | hne
  case inr =>
    refine SrtO.sorted_ord SrtO.swo_int hl.isList (by rw [← rv.length]; exact hz) (fun h2 => absurd h2 (by have := rv.length; omega)) fun out h1 h2 => ?_
    have hpm : out.Perm its := h2.perm
    have ho : out = its := perm_short (by have := rv.length; omega) hpm
    subst ho
    obtain ⟨ep, he⟩ := PyProof.Rows.sortedAll_at st.heap out out.toArray
    have hx : (xs.zip L).map (·.1) = xs := List.map_fst_zip (by omega)
    have hy : (xs.zip L).map (·.2) = L := List.map_snd_zip (by omega)
    refine ⟨.ref _, upd H (st.heap.objs.size + 1) (.lst xs), I.laid (t' := st.toks) (fun _ _ => PyProof.Rows.sortedAll_old) (Nat.le_succ _) ⟨hz, out, ep, rv, he⟩, rfl, ?_⟩
    have := q (xs.zip L) _ (.refl _) (by rw [hy]; exact pw_short hne) (I.hok.fresh (Nat.le_succ _))
    rw [hx] at this
    exact this
  refine PySem.W.sorted_data (β := V × List Int) (enc := fun b => dT b.2) hl.isList e (e.mono fun v b ⟨h1, h2⟩ => Dp.reads I _ _ _ h2 h1) (PySem.W.AllAlike.of fun b b' => ?_) (.inl fun d hd => ?_) ?_ (fun b _ => ?_) fun out ho eo => ?_
  · show PySem.W.alike (.tuple _) (.tuple _) = true
    simp only [PySem.W.alike]
    exact PySem.W.alike_ints _ _
  · obtain ⟨b, hb, rfl⟩ := List.mem_map.mp hd
    have hm : b.2 ∈ L := (List.of_mem_zip hb).2
    cases z : b.2 with
    | nil => exact absurd z (hne _ hm)
    | cons i t => exact ⟨.int i, t.map .int, rfl⟩
  · rw [List.length_zip, hlen, Nat.min_self, ← hlen]; exact hz
  · have := enc_dT.deep b.2
    omega
  · rw [le_tups (fun b : V × List Int => b.2)] at eo
    obtain ⟨v1, v2⟩ := each_vals eo
    have pm : ((xs.zip L).mergeSort fun p q => decide (p.2 ≤ q.2)).Perm (xs.zip L) := List.mergeSort_perm _ _
    have pw : ((xs.zip L).mergeSort fun p q => decide (p.2 ≤ q.2)).Pairwise fun p q => decide (p.2 ≤ q.2) = true := List.pairwise_mergeSort (fun x y z h1 h2 => by
      simp only [decide_eq_true_eq] at *
      exact List.le_trans h1 h2) (fun x y => by
      simp only [Bool.or_eq_true, decide_eq_true_eq]
      exact List.le_total _ _) _
    obtain ⟨ep, he⟩ := PyProof.Rows.sortedAll_at st.heap its out.toArray
    have hl2 : (((xs.zip L).mergeSort fun p q => decide (p.2 ≤ q.2)).map (·.1)).length ≤ sizeLine := by
      rw [List.length_map, pm.length_eq, List.length_zip, hlen, Nat.min_self, ← hlen]; exact hz
    refine ⟨.ref _, upd H (st.heap.objs.size + 1) (.lst (((xs.zip L).mergeSort fun p q => decide (p.2 ≤ q.2)).map (·.1))), I.laid (t' := st.toks) (fun _ _ => PyProof.Rows.sortedAll_old) (Nat.le_succ _) ⟨hl2, out, ep, v1, he⟩, rfl, ?_⟩
    refine q _ _ pm ?_ (I.hok.fresh (Nat.le_succ _))
    rw [List.pairwise_map]
    exact pw.imp fun h => by simpa using h
theorem c_sortD {K : PySem.W.Frag} {Y : Cx} (e : Y.K = K) (hu : Y.A.units + 64 < cLine) : CallR Y (.builtin "sorted") (rSortD K) := e ▸ cr_sortD hu
theorem nts_dp {K : PySem.W.Frag} {F H : Hp} (x : Ex F H) : ∀ {ws : List V} {L : List (List Int)}, Ps F ws (L.map NT) → Paired (fun x l => Dp K H x (dT l)) ws L
  | [], [], _ => .nil
  | _ :: _, [], h => by cases h
  | [], _ :: _, h => by cases h
  | w :: ws, l :: L, h => by
    cases h with
    | cons a t => exact .cons (Dp.mono x (nt_D (K := K) _ _ a)) (nts_dp x t)
theorem nts_zip {F : Hp} : ∀ {ws : List V} {L : List (List Int)}, Ps F ws (L.map NT) → ∀ b ∈ ws.zip L, (NT b.2).p F b.1
  | [], _, _, b, hb => by cases hb
  | _ :: _, [], _, b, hb => by cases hb
  | w :: ws, l :: L, h, b, hb => by
    cases h with
    | cons a t =>
      rcases List.mem_cons.mp hb with rfl | hb
      · exact a
      · exact nts_zip t b hb
theorem nts_of {F : Hp} : ∀ {B : List (V × List Int)}, (∀ b ∈ B, (NT b.2).p F b.1) → Ps F (B.map (·.1)) ((B.map (·.2)).map NT)
  | [], _ => .nil
  | b :: B, h => .cons (h b List.mem_cons_self) (nts_of fun c hc => h c (List.mem_cons_of_mem _ hc))
theorem rcn_sortD {K : PySem.W.Frag} {M : Ms} {q : Addr} {j : Nat} {L : List (List Int)} (e : M[j]? = some (q, ML (L.map NT))) (hne : (∀ l ∈ L, l ≠ []) ∨ L.length ≤ 1) : RCN (rSortD K) [Own q] M (MX fun L' : List (List Int) => MA (L'.Perm L ∧ L'.Pairwise (· ≤ ·)) (ML (L'.map NT))) M := fun E F H vs a h Q k => by
  obtain ⟨v, rfl, hv⟩ := ps1 h
  have hv : v = .ref q := hv
  subst hv
  obtain ⟨_, o, ho, ws, rfl, s⟩ := a.at e
  have hl : ws.length = L.length := by have := paired_len s; rwa [List.length_map] at this
  refine ⟨q, ws, L, rfl, SqL.of ho, nts_dp a.ex s, hne, fun B p hp hs hf => ?_⟩
  have hz := nts_zip s
  refine k p F _ (a.fresh hf) (Evl.Ex.refl _) (a.new hf ⟨B.map (·.2), ⟨?_, hs⟩, _, rfl, nts_of fun b hb => hz b (hp.subset hb)⟩)
  have := hp.map (·.2)
  rwa [List.map_snd_zip (by omega)] at this
theorem dps_ps {K : PySem.W.Frag} {F : Hp} : ∀ {ws : List V} {L : List (List Int)}, Paired (fun x l => Dp K F x (dT l)) ws L → Ps F ws (L.map fun l => D K (dT l))
  | _, _, .nil => .nil
  | _, _, .cons a t => .cons a (dps_ps t)
end Hq
namespace Hq
open PySem L2
theorem nts_list {K : PySem.W.Frag} {L : List (List Int)} : (PLi K (L.map NT)).le (PLi K (L.map fun l => D K (dT l))) := fun F v ⟨p, vs, h1, h2, h3⟩ => ⟨p, vs, h1, h2, by
  have : ∀ {L : List (List Int)} {vs : List V}, Ps F vs (L.map NT) → Ps F vs (L.map fun l => D K (dT l)) := by
    intro L
    induction L with
    | nil => intro vs h; cases h; exact .nil
    | cons l L ih => intro vs h; cases h with | cons a t => exact .cons (nt_D (K := K) _ _ a) (ih t)
  exact this h3⟩
theorem rv_isB {K : PySem.W.Frag} {M : Ms} {a b : Bool} : RV rIsB (D K (.bool a)) (D K (.bool b)) M (D K (.bool (decide (a = b)))) M := rv_val (z := .bl _) (fun _ => .bl _) fun F H x y p1 p2 _ Q q => by
  cases dp_bl p1; cases dp_bl p2
  exact ⟨a, b, rfl, rfl, q⟩
end Hq
namespace Hq
open PySem L2
section
variable {K : PySem.W.Frag} {E : Ent} {F H : Hp} {M M1 M2 : Ms} {Γ : Gm} {P : MP} {O : MO} {q : Addr} {j : Nat} {te ta tb tk tv td : TE} {tr : TA} {D1 : Ends} {tz : TS} {t u : TT} {l a b : List Int} {L : List (List Int)} {ps : List MP}
/-- xs[i] = x, both drawn -/
theorem go_setLX {lo hi : Int} (h : Ev te Γ M (PIn K lo hi) M1) (ho : Ev ta Γ M1 (Own q) M1) (hb : Ev tb Γ M1 (PIn K 0 l.length) M2) (e : M2[j]? = some (q, MInts K l))
    (k : ∀ (i : Nat) (x : Int), i < l.length → lo ≤ x → x < hi → Nx E Γ (M2.set j (q, MInts K (l.set i x))) D1.nx) : Nx E Γ M (tAsg te (gSub ta tb rSetL) D1) := fun σ H ⟨F, a, b⟩ => h E F σ H a b _ fun w F0 H0 e0 g0 ⟨x, hx, p0⟩ => ho E F0 σ H0 g0 (b.mono e0) _ fun v F1 H1 e1 g1 p1 => by
  have p1 : v = .ref q := p1
  subst p1
  cases dp_int p0
  refine hb E F1 σ H1 g1 (b.mono (e0.trans e1)) _ fun z F2 H2 e2 g2 ⟨i, hi, p2⟩ => ?_
  cases dp_int p2
  obtain ⟨_, o, ho2, ws, rfl, s⟩ := g2.at e
  have es := ints_map s
  subst es
  obtain ⟨n, rfl⟩ := Int.eq_ofNat_of_zero_le hi.1
  have hn : n < l.length := by omega
  refine ⟨q, _, n, n, rfl, rfl, ho2, Evl.ixN_nat (by rw [List.length_map]; exact hn), ?_⟩
  exact k n x hn hx.1 hx.2 _ _ ⟨F2, g2.mut e ⟨_, rfl, by rw [← List.map_set]; exact map_ints _⟩, b.mono ((e0.trans e1).trans e2)⟩
/-- a slice of an own list of ints -/
theorem evn_slLO {lo hi : Option Int} {tl th : TO} (ho : Ev ta Γ M (Own q) M) (h1 : EvP tl Γ M lo) (h2 : EvP th Γ M hi) (e : M[j]? = some (q, MInts K l)) : EvN (tSl (rSlL K) ta tl th) Γ M (MInts K (cutI l lo hi)) M := fun E F σ H a b Q k =>
  ho E F σ H a b _ fun v F1 H1 e1 g1 p1 => h1 E F1 σ H1 g1 (b.mono e1) _ fun F2 H2 e2 g2 => h2 E F2 σ H2 g2 (b.mono (e1.trans e2)) _ fun F3 H3 e3 g3 => by
    have p1 : v = .ref q := p1
    subst p1
    obtain ⟨_, o, ho2, ws, rfl, s⟩ := g3.at e
    have es := ints_map s
    subst es
    refine ⟨q, _, rfl, SqL.of ho2, fun p hp => ?_⟩
    refine k p F3 _ (g3.fresh hp) ((e1.trans e2).trans e3) (g3.new hp ⟨(cutI l lo hi).map V.int, ?_, map_ints _⟩)
    unfold cutV cutI
    rw [List.length_map, List.map_take, List.map_drop]
/-- in, over a list of tuples -/
theorem c_inD {Y : Cx} (e : Y.K = K) (hu : Y.A.units + 65 < cLine) : OpR Y (compareOp .In) (rInD K) := e ▸ op_inD hu
theorem c_notInD {Y : Cx} (e : Y.K = K) (hu : Y.A.units + 65 < cLine) : OpR Y (compareOp .NotIn) (rNotInD K) := e ▸ op_notInD hu
theorem any_enc {α : Type} [DecidableEq α] {f : α → PyData} {n : Nat} (en : Enc f n) (x : α) : ∀ l : List α, ((l.map f).any fun z => PyData.eqv z (f x)) = decide (x ∈ l)
  | [] => rfl
  | y :: l => by
    rw [List.map_cons, List.any_cons, en.eq, any_enc en x l]
    by_cases h1 : y = x
    · subst h1; simp
    · have h2 : ¬ x = y := fun e => h1 e.symm
      by_cases h3 : x ∈ l <;> simp [h1, h2, h3]
theorem rv_inD {α : Type} [DecidableEq α] {f : α → PyData} {n : Nat} (en : Enc f n) (hn : n + 1 ≤ 64) {x : α} {l : List α} : RV (rInD K) (D K (f x)) (D K (.list (l.map f))) M (D K (.bool (decide (x ∈ l)))) M := rv_val (z := .bl _) (fun _ => .bl _) fun F H y z p1 p2 ex Q k =>
  ⟨_, _, Dp.mono ex p1, Dp.mono ex p2, en.shaped (by omega) x, (enc_list en).shaped hn l, by rw [any_enc en]; exact k⟩
theorem rv_notInD {α : Type} [DecidableEq α] {f : α → PyData} {n : Nat} (en : Enc f n) (hn : n + 1 ≤ 64) {x : α} {l : List α} : RV (rNotInD K) (D K (f x)) (D K (.list (l.map f))) M (D K (.bool (!decide (x ∈ l)))) M := rv_val (z := .bl _) (fun _ => .bl _) fun F H y z p1 p2 ex Q k =>
  ⟨_, _, Dp.mono ex p1, Dp.mono ex p2, en.shaped (by omega) x, (enc_list en).shaped hn l, by rw [any_enc en]; exact k⟩
theorem rv_inB {α : Type} [DecidableEq α] {f : α → PyData} {n : Nat} {b : Bool} (en : Enc f n) (hn : n + 1 ≤ 64) {x : α} {l : List α} (hb : b = true ↔ x ∈ l) : RV (rInD K) (D K (f x)) (D K (.list (l.map f))) M (D K (.bool b)) M :=
  (rv_inD en hn).weak (fun F v h => by
    have : decide (x ∈ l) = b := by rw [Bool.eq_iff_iff, decide_eq_true_iff, hb]
    rwa [this] at h)
theorem rv_notInB {α : Type} [DecidableEq α] {f : α → PyData} {n : Nat} {b : Bool} (en : Enc f n) (hn : n + 1 ≤ 64) {x : α} {l : List α} (hb : b = true ↔ x ∉ l) : RV (rNotInD K) (D K (f x)) (D K (.list (l.map f))) M (D K (.bool b)) M :=
  (rv_notInD en hn).weak (fun F v h => by
    have : (!decide (x ∈ l)) = b := by rw [Bool.eq_iff_iff, hb]; simp
    rwa [this] at h)
theorem ev_lenI (h : Ev te Γ M (Own q) M1) (e : M1[j]? = some (q, MInts K l)) : Ev (tCB (rLn K) (tCons te tNil)) Γ M (D K (.int l.length)) M1 := by
  have := ev_cb (ea_cons h ea_nil) (rc_lenO (K := K) e)
  rw [List.length_map] at this
  exact this
theorem evn_cbX1 {α : Type} {φ : α → Prop} {R : α → MP} {rc : List V → Hp → VK → Prop} (h : Ev te Γ M (PEx fun x => PAn (φ x) (R x)) M1) (hr : ∀ x, φ x → RCN rc [R x] M1 O M2) : EvN (tCB rc (tCons te tNil)) Γ M O M2 := evn_cb (ea_cons h ea_nil) (RCN.ex1 fun x => RCN.an1 fun hx => hr x hx)
theorem mxa_in {φ : List Int → Prop} (h : φ l) : ∀ F o, (MInts K l).p F o → (MX fun l : List Int => MA (φ l) (MInts K l)).p F o := fun F o p => ⟨l, h, p⟩
theorem MP.of_eq {P P' : MP} (h : P = P') : P.le P' := fun _ _ p => h ▸ p
end
end Hq
namespace Hq
open PySem PySem.Spec PyProof.Rows L2
/-! ### enumerate(t), a tuple -/
set_option maxHeartbeats 1000000 in
theorem enumNew1 {v : Value} {o : Obj} {Hh : Heap → Prop} (B : Begins v o Hh) :
    Meets (Builtin.«enumerate.__new__» ⟨[.type "enumerate", v], []⟩) (fun _ R s => Hh s.heap ∧
      R (.ok (.ret (.ref (s.heap.push o).objs.size))) { s with heap := (s.heap.push o).push { cls := .type "enumerate", data := .fields #[.none, .bool false, .ref s.heap.objs.size, rawInt 0, .none, .none] } }) :=
  .of_wp fun prog w A R s hh => by
    obtain ⟨hp, g, d, tk, os⟩ := s
    obtain ⟨h1, hr⟩ := hh
    have sb := sub_enumerate
    have q1 : ∀ {A' : Around} {E : Value → Shared → Prop} {Q : Value → Shared → Prop}, Q (.ref hp.objs.size) ⟨hp.push o, g, d, tk, os⟩ → wpAny (model prog w) A' (pyIter v) Q E ⟨hp, g, d, tk, os⟩ :=
      fun q => B.iter prog w _ _ ⟨hp, g, d, tk, os⟩ _ h1 q
    wp_walk using q1
    refine wpAny_stack_any fun st => wpAny_pure ?_
    split
    · rename_i c _ _ _ _ _
      cases (c == Value.type "enumerate") <;> (wp_walk using q1; exact ⟨_, rfl, hr⟩)
    · wp_walk using q1
      exact ⟨_, rfl, hr⟩
section
variable {prog : Program} {w : World} {A : Around} {E : Value → Shared → Prop} {s : Shared}
theorem enumBegins1 {v : Value} {o : Obj} {Hh : Heap → Prop} {Q : Value → Shared → Prop} (B : Begins v o Hh) (h1 : Hh s.heap)
    (h : ∀ h', IsEnum h' (s.heap.objs.size + 1) s.heap.objs.size 0 .none → h'.get? s.heap.objs.size = some o → h'.objs.size = s.heap.objs.size + 2 →
      (∀ b o, s.heap.get? b = some o → h'.get? b = some o) → Q (.ref (s.heap.objs.size + 1)) { s with heap := h' }) :
    wpAny (model prog w) A (call (.type "enumerate") [v]) Q E s := by
  refine callType_new F.called_enumerate (by decide) (F.typeCall_enumerate_1 _) (F.newCall_enumerate_1 _) (fun obj => F.args_object_init_2 obj _) F.entry_enumerate_new (enumNew1 B) ⟨h1, ?_⟩
  have hz : (s.heap.push o).objs.size = s.heap.objs.size + 1 := Heap.size_push ..
  show _ ∧ _
  rw [hz]
  have he : IsEnum ((s.heap.push o).push { cls := .type "enumerate", data := .fields #[.none, .bool false, .ref s.heap.objs.size, rawInt 0, .none, .none] }) (s.heap.objs.size + 1) s.heap.objs.size 0 .none := by
    have z := Heap.get?_push_size (s.heap.push o) (o := { cls := .type "enumerate", data := .fields #[.none, .bool false, .ref s.heap.objs.size, rawInt 0, .none, .none] }) rfl
    rw [hz] at z; exact z
  exact ⟨⟨_, he, rfl⟩, h _ he (Heap.get?_push_of_some _ (Heap.get?_push_size _ B.free)) (by rw [Heap.size_push, hz]) fun b o x => Heap.get?_push_of_some _ (Heap.get?_push_of_some _ x)⟩
end
/-- the tuple at a as it stands at each turn, each item in a new pair -/
def IteT (K : PySem.W.Frag) (a : Addr) : It :=
  ⟨fun i H => ∃ (xs : List V) (x : V), SqT K H a xs ∧ xs[i]? = some x, fun i H v H' => ∃ T x, v = .ref T ∧ H T = none ∧ H' = upd H T (.tup [.int (i : Nat), x]) ∧ ∀ xs, SqT K H a xs → xs[i]? = some x, fun i H => ∃ xs : List V, SqT K H a xs ∧ xs.length ≤ i⟩
theorem turnEnumT {P : Program} {w : World} {K : PySem.W.Frag} {elts : List Expr} {kk : Nat} {tpos : Pos} (a e it : Addr) (hai : a ≠ it) (hae : a ≠ e) :
    Turn P w K (.Tuple elts kk tpos) (IteT K a) [e, it] e (fun i h => (∃ old, IsEnum h e it ((i : Nat) : Int) old) ∧ h.IsTupleIter it a i ∧ e ≠ it) where
  mem := by simp
  obj := fun i h st b hb => by
    obtain ⟨⟨old, he⟩, ⟨o, ho, hc, hd⟩, _⟩ := st
    have e' : b = e ∨ b = it := by simpa using hb
    rcases e' with z | z
    · rw [z]; exact ⟨_, he, fun v q => nomatch q⟩
    · rw [z]; exact ⟨o, ho, fun v q => by rw [hd] at q; cases q⟩
  keep := fun i h h' st k => by
    obtain ⟨⟨old, he⟩, hi, hne⟩ := st
    exact ⟨⟨old, k e (by simp) _ he⟩, hi.at fun o q => k it (by simp) o q, hne⟩
  item := by
    intro X hP hw hK hc i pins s σ H E I hf st hg
    subst hP hw hK
    obtain ⟨⟨old, he⟩, hit, hne⟩ := st
    obtain ⟨xs, x, hq, hx⟩ := hg
    obtain ⟨its, rv, p, hz⟩ := I.tuple hq
    obtain ⟨u, hu, ru⟩ := rv.get hx
    have p : s.heap.IsTuple a its.toArray := p
    have hel : e < s.heap.objs.size := Heap.lt_size he
    have hil : it < s.heap.objs.size := by obtain ⟨_, q, _⟩ := hit; exact Heap.lt_size q
    have hlt : i < its.toArray.size := by
      have := (List.getElem?_eq_some_iff.mp hu).1
      simpa using this
    have DD := Draws.tuple (prog := X.prog) (w := X.w) (A := X.A.in1) (I.ok.hd hc) it a hai its.toArray
    refine wpAny_pyNext_enum_itemD DD he (show s.heap.IsTupleIter it a i ∧ s.heap.IsTuple a its.toArray from ⟨hit, p⟩) hlt hne (by simp only [List.mem_cons, List.not_mem_nil, or_false, not_or]; exact ⟨hne, fun q => hae q.symm⟩) fun x2 h' tk hP ho hst' hT hsz hk => ?_
    have ex2 : u = x2 := by
      have hu2 : its.toArray[i]? = some u := by simpa using hu
      rw [hu2] at hP
      exact Option.some.inj hP
    subst ex2
    refine ⟨_, rfl, wpAny_letOwnedTupleGo_enum (s := { s with heap := h', toks := tk + 1 }) ho fun h'' he' sb => ?_⟩
    have hT2 : h''.get? s.heap.objs.size = some { cls := .type "tuple", data := .seq #[.int i tk, u] } := (sb.2 _ (Nat.ne_of_gt hel)).trans hT
    have new : ObjOk X.prog X.w (upd H s.heap.objs.size (.tup [.int (i : Nat), x])) h'' s.heap.objs.size (.tup [.int (i : Nat), x]) :=
      ⟨by show 2 ≤ sizeLine; decide, [.int i tk, u], .cons ⟨_, rfl⟩ (.cons ru .nil), ⟨_, hT2, rfl, _, rfl⟩⟩
    have I1 : Inv X pins σ (upd H s.heap.objs.size (.tup [.int (i : Nat), x])) { s with heap := h'', toks := tk + 1 } :=
      I.turnedNew (ch := [e, it]) (fun b ob hb q => (sb.2 b (fun z => hb (by simp [z]))).trans (hk b ob (fun z => hb (by simp [z])) (fun z => hb (by simp [z])) q)) hf (Nat.le_refl _) new
    refine ⟨.ref s.heap.objs.size, _, I1, rfl, ⟨_, x, rfl, I.hok.fresh (Nat.le_refl _), rfl, fun ys hy => by rw [I.tuple_inj hy hq]; exact hx⟩, ⟨⟨u, ?_⟩, hst'.1.at fun o q => (sb.2 it (Ne.symm hne)).trans q, hne⟩, fun b hb => ?_⟩
    · have e1 : ((i + 1 : Nat) : Int) = (i : Int) + 1 := by omega
      rw [e1]; exact he'
    · have hb' : b < s.heap.objs.size := by
        have e' : b = e ∨ b = it := by simpa using hb
        rcases e' with z | z
        · rw [z]; exact hel
        · rw [z]; exact hil
      rw [upd_ne (Nat.ne_of_lt hb')]
      exact (hf b hb).1
  done := by
    intro X hP hw hK hc i pins s σ H E I hf st hg
    subst hP hw hK
    obtain ⟨⟨old, he⟩, hit, hne⟩ := st
    obtain ⟨xs, hq, hx⟩ := hg
    obtain ⟨its, rv, p, hz⟩ := I.tuple hq
    obtain ⟨f0, f1, f2, f3, f4, f5⟩ := hf it (by simp)
    have hl := rv.length
    have p : s.heap.IsTuple a its.toArray := p
    have hT : s.TypeIs (.ref e) "enumerate" := ⟨_, he, rfl⟩
    unfold pyNext
    refine wpAny_bind (wpAny_attempt (wpAny_callSpecial?_slot (name := Str.ofString "__next__") hT F.slot_enumerate_next
      (wpAny_call_entry F.slot_enumerate_next hT F.entry_enumerate_next ?_ (F.args_enumerate_next_1 _))))
    show wpAny _ _ (field (.ref e) 2 >>= fun _ => _) _ _ s
    refine wpAny_bind (wpAny_field he rfl (x := .ref it) rfl ?_)
    refine wpAny_bind (wpAny_nextOf_tuple_end (A := X.A.in1) (I.ok.hd hc) hit p (by simp; omega) fun h' x he' hx' => ?_)
    obtain ⟨o, ho, hcl⟩ := hx'
    refine wpAny_bind (wpAny_isInstance (T := "StopIteration") (b := true) ⟨o, ho, hcl⟩ isSubtype_stop ?_)
    exact wpAny_pure ⟨rfl, I.turned (t' := s.toks) (fun b o hb q => he' b o hb q) f0 f1 f3 f4 f5⟩
  self := fun A i s Q E st h => let ⟨⟨_, he⟩, _⟩ := st; wpAny_pyIter_enum he h
def iEnumT (K : PySem.W.Frag) (ta : TA) : TI := fun σ H R => ta σ H fun vs H1 => ∃ a xs, vs = [.ref a] ∧ SqT K H1 a xs ∧ R (IteT K a) H1
theorem pi_enumT {X : Cx} {e : PySem.Expr} {ta : TA} {p pos tpos : Pos} {elts : List PySem.Expr} {kk : Nat} (hg : Gl X "enumerate") (hm : X.mg "enumerate" = none) (ha : PA X [e] ta) (hs : starEach [e] X.env = [(false, eval e X.env)] := by rfl) :
    PI X (.Tuple elts kk tpos) (.Call (.Name "enumerate" p) [e] [] pos) (iEnumT X.K ta) := by
  refine ⟨fun pins s σ H R I h => ?_⟩
  refine Call_ (ld_blt I hg hm boot_enumerate (PyProof.Rows.callWith_type1 (thn (ha.run pos pins s σ H _ I h) fun us s1 ⟨vs, H1, I1, r1, q1⟩ => ?_) hs rfl))
  obtain ⟨a, xs, ex, hq, q⟩ := q1
  subst ex
  cases r1 with
  | cons r rr =>
    cases rr
    cases r
    obtain ⟨its, rv, p', hz⟩ := I1.tuple hq
    have p' : s1.heap.IsTuple a its.toArray := p'
    have hal : a < s1.heap.objs.size := by obtain ⟨o, q, _⟩ := id p'; exact Heap.lt_size q
    refine enumBegins1 (begins_tuple a its.toArray) p' fun h' he hit hsz hk => wpAny_pyIter_enum he ?_
    have I2 : Inv X pins σ H1 { s1 with heap := h' } := I1.kept (t' := s1.toks) hk
    refine ⟨s1.heap.objs.size + 1, [s1.heap.objs.size + 1, s1.heap.objs.size], _, _, H1, rfl, I2, turnEnumT a (s1.heap.objs.size + 1) s1.heap.objs.size (Nat.ne_of_lt hal) (Nat.ne_of_lt (Nat.lt_succ_of_lt hal)), ⟨⟨.none, he⟩, ⟨_, hit, rfl, rfl⟩, Nat.succ_ne_self _⟩, fun b hb => ?_, q⟩
    have e' : b = s1.heap.objs.size + 1 ∨ b = s1.heap.objs.size := by simpa using hb
    have hle : s1.heap.objs.size ≤ b := by
      rcases e' with z | z
      · rw [z]; exact Nat.le_add_right _ _
      · rw [z]; exact Nat.le_refl _
    exact I1.fpOk hle (I1.hok.fresh hle)
theorem pi_enumK {X : Cx} {K : PySem.W.Frag} {e : PySem.Expr} {ta : TA} {p pos tpos : Pos} {elts : List PySem.Expr} {kk : Nat} (eK : X.K = K) (hg : Gl X "enumerate") (hm : X.mg "enumerate" = none) (ha : PA X [e] ta) (hs : starEach [e] X.env = [(false, eval e X.env)] := by rfl) :
    PI X (.Tuple elts kk tpos) (.Call (.Name "enumerate" p) [e] [] pos) (iEnum K ta) := eK ▸ pi_enum hg hm ha hs
theorem pi_enumTK {X : Cx} {K : PySem.W.Frag} {e : PySem.Expr} {ta : TA} {p pos tpos : Pos} {elts : List PySem.Expr} {kk : Nat} (eK : X.K = K) (hg : Gl X "enumerate") (hm : X.mg "enumerate" = none) (ha : PA X [e] ta) (hs : starEach [e] X.env = [(false, eval e X.env)] := by rfl) :
    PI X (.Tuple elts kk tpos) (.Call (.Name "enumerate" p) [e] [] pos) (iEnumT K ta) := eK ▸ pi_enumT hg hm ha hs
end Hq
namespace Hq
open PySem L2
section
variable {K : PySem.W.Frag} {E : Ent} {F H : Hp} {M M1 M2 : Ms} {Γ : Gm} {P : MP} {O : MO} {q : Addr} {te ta tb tl tk : TE} {tr : TA} {D1 : Ends} {tu tz : TS} {t u : TT} {ps : List MP} {i j : Nat}
abbrev gPair (K : PySem.W.Frag) (i j : Nat) : TG := gTup K 2 (gCons (gName i) (gCons (gName j) gNil))
theorem wipe_two {σ : St} {x y : V} (h : i ≠ j) : wipe (((wipe σ [i, j]).set i (some x)).set j (some y)) [i, j] = wipe σ [i, j] := by
  show ((((((σ.set j none).set i none).set i (some x)).set j (some y)).set j none).set i none) = (σ.set j none).set i none
  apply List.ext_getElem?
  intro k
  simp only [List.getElem?_set, List.length_set]
  by_cases h1 : j = k <;> by_cases h2 : i = k <;> simp [h1, h2]
theorem env_wipe2 {σ : St} (h : EnvOk F σ Γ) : EnvOk F (wipe σ [i, j]) ((Γ.set j none).set i none) := (h.forget j).forget i
section
variable {γ : Type} {zs : List γ} {RA RB G : γ → MP} {f : γ → Bool} {J : It} {Gd : Hp → Prop} {us vs : List V}
/-- a comprehension over pairs -/
theorem lc_pairs {F1 H1 : Hp} {σ : St} {Q : VK} (hij : i ≠ j) (w : Walk J zs.length Gd (YPair (fun i => us[i]?) (fun i => vs[i]?))) (hz : zs.length ≤ 50000)
    (g1 : Pt E F1 M1 H1) (b : EnvOk F1 σ Γ) (hu : Ps F1 us (zs.map RA)) (hv : Ps F1 vs (zs.map RB)) (hG : ∀ F' H', Ex F1 F' → Ex F' H' → Gd H')
    (ht : ∀ z ∈ zs, EvT t ((((Γ.set j none).set i none).set i (some (RA z))).set j (some (RB z))) M1 (· = f z) M1)
    (he : ∀ z ∈ zs, f z = true → Ev te ((((Γ.set j none).set i none).set i (some (RA z))).set j (some (RB z))) M1 (G z) M1)
    (k : ContN E F1 (ML ((zs.filter f).map G)) M1 Q) : ∀ D, H1 D = none → ∃ W : Nat → Nat → Hp → Prop, (∃ m, W 0 m (upd H1 D (.lst []))) ∧ ∀ n m H, W n m H →
      (J.stop n H ∧ Q (.ref D) H) ∨ (J.go n H ∧ ∃ Nx : Hp → Prop, (∀ H', Nx H' → ∃ m', m' < m ∧ W (n + 1) m' H') ∧ ∀ x H', J.yld n H x H' → gPair K i j x (wipe σ [i, j]) H' fun σ2 H2 => wipe σ2 [i, j] = wipe σ [i, j] ∧ t σ2 H2 fun b H3 =>
        if b = true then te σ2 H3 fun y H4 => ∃ acc, H4 D = some (.lst acc) ∧ acc.length < sizeLine ∧ Nx (upd H4 D (.lst (acc ++ [y]))) else Nx H3) := by
  intro D2 hD
  have gn : Pt ⟨F1, H1, keys M1⟩ F1 ((D2, ML []) :: M1) (upd H1 D2 (.lst [])) := g1.enter.new hD ⟨[], rfl, .nil⟩
  refine lc_it w (fun n H' => ∃ F', Pt ⟨F1, H1, keys M1⟩ F' ((D2, ML (((zs.take n).filter f).map G)) :: M1) H') ⟨F1, gn⟩ (fun n H2 _ ⟨F2, g2⟩ => hG F2 H2 g2.gr.ex g2.ex) (fun n x H2 H3 hn ⟨F2, g2⟩ y => ?_) (fun H2 ⟨F2, g2⟩ => ?_)
  · obtain ⟨T, x1, y1, rfl, hT, rfl, hx1, hy1⟩ := y
    obtain ⟨PA, hPA, hxA⟩ := paired_get' hu hx1
    obtain ⟨PB, hPB, hyB⟩ := paired_get' hv hy1
    have hzn : zs[n]? = some zs[n] := List.getElem?_eq_getElem hn
    rw [List.getElem?_map, hzn] at hPA hPB
    have hPA : RA zs[n] = PA := Option.some.inj hPA
    have hPB : RB zs[n] = PB := Option.some.inj hPB
    subst hPA; subst hPB
    generalize zs[n] = z at *
    have hm := List.mem_of_getElem? hzn
    have g3 : Pt ⟨F1, H1, keys M1⟩ F2 ((D2, ML (((zs.take n).filter f).map G)) :: M1) (upd H2 T (.tup [x1, y1])) := g2.junk hT
    refine ⟨T, [x1, y1], rfl, SqT.of upd_same, rfl, x1, [y1], rfl, y1, [], rfl, rfl, wipe_two hij, ?_⟩
    refine lc_turn g3 (((env_wipe2 (b.mono g2.gr.ex)).set i ((RA z).mono g2.gr.ex hxA)).set j ((RB z).mono g2.gr.ex hyB)) (ht z hm) (he z hm) ?_ _ fun F3 H3 e3 g4 => ⟨F3, ?_⟩
    · rw [List.length_map]
      exact Nat.lt_of_le_of_lt (Nat.le_trans (List.length_filter_le _ _) (by rw [List.length_take]; omega)) (by omega : zs.length < 100000)
    · rw [take_filter zs f n z hzn, List.map_append]
      cases hf : f z
      · rw [hf] at g4; simpa using g4
      · rw [hf] at g4; simpa using g4
  · rw [List.take_length] at g2
    exact k D2 F2 H2 (g1.fresh hD) g2.gr.ex (g1.back g2)
/-- a loop over pairs -/
theorem for_pairs {F1 H1 : Hp} {σ : St} {Q : Prop} (w : Walk J zs.length Gd (YPair (fun i => us[i]?) (fun i => vs[i]?)))
    (g1 : Pt E F1 M1 H1) (b : EnvOk F1 σ Γ) (hu : Ps F1 us (zs.map RA)) (hv : Ps F1 vs (zs.map RB)) (hG : ∀ F' H', Ex F1 F' → Ex F' H' → Gd H')
    (Jv : Nat → Gm → Ms → Prop) (h0 : Jv 0 Γ M1)
    (hs : ∀ E', Le E' E → ∀ n z, zs[n]? = some z → ∀ Γ' M', Jv n Γ' M' → Nx E' ((Γ'.set i (some (RA z))).set j (some (RB z))) M' (tu { D1 with nx := JA E' (Jv (n + 1)), ct := JA E' (Jv (n + 1)), bk := D1.nx }))
    (hd : ∀ Γ' M', Jv zs.length Γ' M' → Nx E Γ' M' D1.nx) :
    ∃ W : Nat → Nat → St → Hp → Prop, (∃ m, W 0 m σ H1) ∧ ∀ n m σ H, W n m σ H →
      (J.stop n H ∧ D1.nx σ H) ∨ (J.go n H ∧ ∃ N : St → Hp → Prop, (∀ σ' H', N σ' H' → ∃ m', m' < m ∧ W (n + 1) m' σ' H') ∧ ∀ x H', J.yld n H x H' → gPair K i j x σ H' fun σ2 H2 => tu { D1 with nx := N, ct := N, bk := D1.nx } σ2 H2) := by
  refine for_it w (fun n σ H => JA ⟨F1, H1, keys M1⟩ (Jv n) σ H) ⟨Γ, M1, h0, F1, g1.enter, b⟩ (fun n σ2 H2 _ ⟨Γ', M', _, F2, g2, _⟩ => hG F2 H2 g2.gr.ex g2.ex) (fun n x σ2 H2 H3 hn ⟨Γ', M', hJ, F2, g2, b2⟩ y => ?_) (fun σ2 H2 ⟨Γ', M', hJ, at2⟩ => hd Γ' M' hJ _ _ (at2.le g1.le))
  obtain ⟨T, x1, y1, rfl, hT, rfl, hx1, hy1⟩ := y
  obtain ⟨PA, hPA, hxA⟩ := paired_get' hu hx1
  obtain ⟨PB, hPB, hyB⟩ := paired_get' hv hy1
  have hzn : zs[n]? = some zs[n] := List.getElem?_eq_getElem hn
  rw [List.getElem?_map, hzn] at hPA hPB
  have hPA : RA zs[n] = PA := Option.some.inj hPA
  have hPB : RB zs[n] = PB := Option.some.inj hPB
  subst hPA; subst hPB
  exact ⟨T, [x1, y1], rfl, SqT.of upd_same, rfl, x1, [y1], rfl, y1, [], rfl, rfl, hs ⟨F1, H1, keys M1⟩ g1.le n _ hzn Γ' M' hJ _ _ ⟨F2, g2.junk hT, (b2.set i ((RA zs[n]).mono g2.gr.ex hxA)).set j ((RB zs[n]).mono g2.gr.ex hyB)⟩⟩
end
theorem pg_tupK {X : Cx} {es : List PySem.Expr} {k : Nat} {t : TGs} {n : Nat} {pos : Pos} (eK : X.K = K) (hc : X.calm = true) (h : PGs X es t)
    (hn : (assignEach es X.env).length = n := by rfl) (hst : (assignEach es X.env).findIdx? (·.1) = none := by rfl) : PG X (.Tuple es k pos) (gTup K n t) := eK ▸ pg_tup hc h hn hst
/-! the walks, told over what stands -/
theorem walk_enumP {a : Addr} {xs : List V} : Walk (Ite K a) xs.length (fun H => SqL K H a xs) (YPair (fun i => ((List.range xs.length).map fun n : Nat => V.int n)[i]?) (fun i => xs[i]?)) :=
  walk_enum.mono (fun _ h => h) fun n H x H' hn _ ⟨T, x1, y1, h1, h2, h3, h4, h5⟩ => ⟨T, x1, y1, h1, h2, h3, by show ((List.range xs.length).map fun n : Nat => V.int n)[n]? = some x1; rw [List.getElem?_map, List.getElem?_range hn]; exact h4, h5⟩
theorem walk_enumTP {a : Addr} {xs : List V} : Walk (IteT K a) xs.length (fun H => SqT K H a xs) (YPair (fun i => ((List.range xs.length).map fun n : Nat => V.int n)[i]?) (fun i => xs[i]?)) := by
  refine ⟨fun n _ hn q => ⟨xs, xs[n], q, by simp [hn]⟩, fun _ q => ⟨xs, q, Nat.le_refl _⟩, fun n H v H' hn q y => ?_⟩
  obtain ⟨T, x, h1, h2, h3, h4⟩ := y
  exact ⟨T, .int (n : Nat), x, h1, h2, h3, by show ((List.range xs.length).map fun n : Nat => V.int n)[n]? = _; rw [List.getElem?_map, List.getElem?_range hn]; rfl, h4 xs q⟩
theorem range_ints (n : Nat) : Ps F ((List.range n).map fun n : Nat => V.int n) ((List.range n).map fun n : Nat => D K (.int n)) := by
  generalize List.range n = l
  induction l with
  | nil => exact .nil
  | cons a l ih => exact .cons (.int _) ih
variable {α : Type} {xs : List α} {R : α → MP}
theorem zipIdx_fst {xs : List α} {R : α → MP} : (xs.zipIdx.map fun p => R p.1) = xs.map R := by
  rw [show (fun p : α × Nat => R p.1) = R ∘ Prod.fst from rfl, ← List.map_map, List.zipIdx_map_fst]
theorem zipIdx_snd {xs : List α} {K : PySem.W.Frag} : (xs.zipIdx.map fun p => D K (.int p.2)) = (List.range xs.length).map fun n : Nat => D K (.int n) := by
  rw [show (fun p : α × Nat => D K (.int p.2)) = (fun n : Nat => D K (.int n)) ∘ Prod.snd from rfl, ← List.map_map, List.zipIdx_map_snd, List.range_eq_range']
theorem evn_lcEnumT {G : α × Nat → MP} (f : α × Nat → Bool) (hij : i ≠ j) (h : Ev tl Γ M (PTu K (xs.map R)) M1) (hz : xs.length ≤ 50000)
    (ht : ∀ z ∈ xs.zipIdx, EvT t ((((Γ.set j none).set i none).set i (some (D K (.int z.2)))).set j (some (R z.1))) M1 (· = f z) M1)
    (he : ∀ z ∈ xs.zipIdx, f z = true → Ev te ((((Γ.set j none).set i none).set i (some (D K (.int z.2)))).set j (some (R z.1))) M1 (G z) M1) :
    EvN (tLc (iEnumT K (tCons tl tNil)) (gPair K i j) t te [i, j]) Γ M (ML ((xs.zipIdx.filter f).map G)) M1 := fun E F σ H a b Q k => h E F σ H a b _ fun v F1 H1 e1 g1 ⟨p, vs, hp, s, q⟩ => by
  have hl : xs.zipIdx.length = vs.length := by rw [List.length_zipIdx, paired_len q, List.length_map]
  refine ⟨p, vs, by rw [hp], Evl.ex_t g1.ex s, ?_⟩
  refine lc_pairs (K := K) (zs := xs.zipIdx) (RA := fun z => D K (.int z.2)) (RB := fun z => R z.1) (us := (List.range vs.length).map fun n : Nat => V.int n) (vs := vs) hij (by rw [hl]; exact walk_enumTP) (by rw [List.length_zipIdx]; exact hz) g1 (b.mono e1) (by rw [zipIdx_snd, ← List.length_zipIdx (l := xs), hl]; exact range_ints _) (by rw [zipIdx_fst]; exact q) (fun F' H' e e' => Evl.ex_t (e.trans e') s) ht he fun q F' H' f e g => k q F' H' f (e1.trans e) g
theorem evn_lcEnumL {G : α × Nat → MP} (f : α × Nat → Bool) (hij : i ≠ j) (h : Ev tl Γ M (PLi K (xs.map R)) M1) (hz : xs.length ≤ 50000)
    (ht : ∀ z ∈ xs.zipIdx, EvT t ((((Γ.set j none).set i none).set i (some (D K (.int z.2)))).set j (some (R z.1))) M1 (· = f z) M1)
    (he : ∀ z ∈ xs.zipIdx, f z = true → Ev te ((((Γ.set j none).set i none).set i (some (D K (.int z.2)))).set j (some (R z.1))) M1 (G z) M1) :
    EvN (tLc (iEnum K (tCons tl tNil)) (gPair K i j) t te [i, j]) Γ M (ML ((xs.zipIdx.filter f).map G)) M1 := fun E F σ H a b Q k => h E F σ H a b _ fun v F1 H1 e1 g1 ⟨p, vs, hp, s, q⟩ => by
  have hl : xs.zipIdx.length = vs.length := by rw [List.length_zipIdx, paired_len q, List.length_map]
  refine ⟨p, vs, by rw [hp], Evl.ex_l g1.ex s, ?_⟩
  refine lc_pairs (K := K) (zs := xs.zipIdx) (RA := fun z => D K (.int z.2)) (RB := fun z => R z.1) (us := (List.range vs.length).map fun n : Nat => V.int n) (vs := vs) hij (by rw [hl]; exact walk_enumP) (by rw [List.length_zipIdx]; exact hz) g1 (b.mono e1) (by rw [zipIdx_snd, ← List.length_zipIdx (l := xs), hl]; exact range_ints _) (by rw [zipIdx_fst]; exact q) (fun F' H' e e' => Evl.ex_l (e.trans e') s) ht he fun q F' H' f e g => k q F' H' f (e1.trans e) g
theorem go_forEnumL (h : Ev tl Γ M (PLi K (xs.map R)) M1) (Jv : Nat → Gm → Ms → Prop) (h0 : Jv 0 Γ M1)
    (hs : ∀ E', Le E' E → ∀ n x, xs[n]? = some x → ∀ Γ' M', Jv n Γ' M' → Nx E' ((Γ'.set i (some (D K (.int n)))).set j (some (R x))) M' (tu { D1 with nx := JA E' (Jv (n + 1)), ct := JA E' (Jv (n + 1)), bk := D1.nx }))
    (hd : ∀ Γ' M', Jv xs.length Γ' M' → Nx E Γ' M' D1.nx) : Nx E Γ M (tFor (iEnum K (tCons tl tNil)) (gPair K i j) tu D1) := fun σ H ⟨F, a, b⟩ => h E F σ H a b _ fun v F1 H1 e1 g1 ⟨p, vs, hp, s, q⟩ => by
  have hl : xs.zipIdx.length = vs.length := by rw [List.length_zipIdx, paired_len q, List.length_map]
  refine ⟨p, vs, by rw [hp], Evl.ex_l g1.ex s, ?_⟩
  refine for_pairs (K := K) (zs := xs.zipIdx) (RA := fun z => D K (.int z.2)) (RB := fun z => R z.1) (us := (List.range vs.length).map fun n : Nat => V.int n) (vs := vs) (Q := True) (by rw [hl]; exact walk_enumP) g1 (b.mono e1) (by rw [zipIdx_snd, ← List.length_zipIdx (l := xs), hl]; exact range_ints _) (by rw [zipIdx_fst]; exact q) (fun F' H' e e' => Evl.ex_l (e.trans e') s) Jv h0 (fun E' hE n z hz Γ' M' hJ => ?_) (by rw [List.length_zipIdx]; exact hd)
  have : xs[n]? = some z.1 ∧ z.2 = n := by
    rw [List.getElem?_zipIdx] at hz
    obtain ⟨x, hx, rfl⟩ := Option.map_eq_some_iff.mp hz
    exact ⟨hx, by simp⟩
  rw [this.2]
  exact hs E' hE n z.1 this.1 Γ' M' hJ
theorem go_forEnumT (h : Ev tl Γ M (PTu K (xs.map R)) M1) (Jv : Nat → Gm → Ms → Prop) (h0 : Jv 0 Γ M1)
    (hs : ∀ E', Le E' E → ∀ n x, xs[n]? = some x → ∀ Γ' M', Jv n Γ' M' → Nx E' ((Γ'.set i (some (D K (.int n)))).set j (some (R x))) M' (tu { D1 with nx := JA E' (Jv (n + 1)), ct := JA E' (Jv (n + 1)), bk := D1.nx }))
    (hd : ∀ Γ' M', Jv xs.length Γ' M' → Nx E Γ' M' D1.nx) : Nx E Γ M (tFor (iEnumT K (tCons tl tNil)) (gPair K i j) tu D1) := fun σ H ⟨F, a, b⟩ => h E F σ H a b _ fun v F1 H1 e1 g1 ⟨p, vs, hp, s, q⟩ => by
  have hl : xs.zipIdx.length = vs.length := by rw [List.length_zipIdx, paired_len q, List.length_map]
  refine ⟨p, vs, by rw [hp], Evl.ex_t g1.ex s, ?_⟩
  refine for_pairs (K := K) (zs := xs.zipIdx) (RA := fun z => D K (.int z.2)) (RB := fun z => R z.1) (us := (List.range vs.length).map fun n : Nat => V.int n) (vs := vs) (Q := True) (by rw [hl]; exact walk_enumTP) g1 (b.mono e1) (by rw [zipIdx_snd, ← List.length_zipIdx (l := xs), hl]; exact range_ints _) (by rw [zipIdx_fst]; exact q) (fun F' H' e e' => Evl.ex_t (e.trans e') s) Jv h0 (fun E' hE n z hz Γ' M' hJ => ?_) (by rw [List.length_zipIdx]; exact hd)
  have : xs[n]? = some z.1 ∧ z.2 = n := by
    rw [List.getElem?_zipIdx] at hz
    obtain ⟨x, hx, rfl⟩ := Option.map_eq_some_iff.mp hz
    exact ⟨hx, by simp⟩
  rw [this.2]
  exact hs E' hE n z.1 this.1 Γ' M' hJ
end
end Hq
namespace Hq
open PySem L2
section
variable {K : PySem.W.Frag} {E : Ent} {F H : Hp} {M M1 M2 : Ms} {Γ : Gm} {P P1 : MP} {O : MO} {q : Addr} {te ta tb tl tk : TE} {tr : TA} {D1 : Ends} {tu tz : TS} {t u : TT} {ps : List MP} {i j : Nat} {l : List Int}
theorem rc_sum {ns : List Int} : RC (rSum K) [PLi K (ns.map fun n => D K (.int n))] M (D K (.int ns.sum)) M := fun E F H vs a h Q k => by
  obtain ⟨v, rfl, b, ws, rfl, s, p⟩ := ps1 h
  have es := ints_map p
  subst es
  exact ⟨b, ns, rfl, Evl.ex_l a.ex s, k _ F H (Evl.Ex.refl _) a (.int _)⟩
/-- a slice of a list that stands -/
def cutG {α : Type} (l : List α) (lo hi : Option Int) : List α := (l.drop (HT.sIx l.length 0 lo)).take (HT.sIx l.length l.length hi - HT.sIx l.length 0 lo)
theorem cutG_take {α : Type} {l : List α} {a : Nat} : cutG l none (some (a : Int)) = l.take a := by
  unfold cutG
  rw [HT.sIx_none, HT.sIx_nat]
  simp
theorem cutG_drop {α : Type} {l : List α} {a : Nat} : cutG l (some (a : Int)) none = l.drop a := by
  unfold cutG
  rw [HT.sIx_none, HT.sIx_nat]
  by_cases h : a ≤ l.length
  · rw [Nat.min_eq_left h]
    apply List.take_of_length_le
    rw [List.length_drop]; omega
  · rw [List.drop_of_length_le (by omega : l.length ≤ min a l.length), List.drop_of_length_le (by omega : l.length ≤ a)]; simp
theorem paired_drop {α β : Type} {R : α → β → Prop} : ∀ {xs : List α} {ys : List β} (n : Nat), Paired R xs ys → Paired R (xs.drop n) (ys.drop n)
  | _, _, 0, h => h
  | _, _, n + 1, .nil => .nil
  | _, _, n + 1, .cons _ t => paired_drop n t
theorem paired_take {α β : Type} {R : α → β → Prop} : ∀ {xs : List α} {ys : List β} (n : Nat), Paired R xs ys → Paired R (xs.take n) (ys.take n)
  | _, _, 0, _ => .nil
  | _, _, n + 1, .nil => .nil
  | _, _, n + 1, .cons a t => .cons a (paired_take n t)
theorem evn_slM {α : Type} {R : α → MP} {xs : List α} {lo hi : Option Int} {tl th : TO} (h : Ev ta Γ M (PLi K (xs.map R)) M1) (h1 : EvP tl Γ M1 lo) (h2 : EvP th Γ M1 hi) : EvN (tSl (rSlL K) ta tl th) Γ M (ML ((cutG xs lo hi).map R)) M1 := fun E F σ H a b Q k =>
  h E F σ H a b _ fun v F1 H1 e1 g1 p1 => h1 E F1 σ H1 g1 (b.mono e1) _ fun F2 H2 e2 g2 => h2 E F2 σ H2 g2 (b.mono (e1.trans e2)) _ fun F3 H3 e3 g3 => by
    obtain ⟨p, vs, rfl, s, qq⟩ := (PLi K (xs.map R)).mono (e2.trans e3) p1
    refine ⟨p, vs, rfl, Evl.ex_l g3.ex s, fun r hr => ?_⟩
    refine k r F3 _ (g3.fresh hr) ((e1.trans e2).trans e3) (g3.new hr ⟨cutV vs lo hi, rfl, ?_⟩)
    have hl : vs.length = xs.length := by have := paired_len qq; rwa [List.length_map] at this
    unfold cutV cutG
    rw [hl, List.map_take, List.map_drop]
    exact paired_take _ (paired_drop _ qq)
theorem rep_ps {x : V} : ∀ n : Nat, P.p F x → Ps F (List.replicate n [x]).flatten (List.replicate n P)
  | 0, _ => .nil
  | n + 1, h => .cons h (rep_ps n h)
/-- [x] * n, n drawn -/
theorem evn_repX {lo hi : Int} (h : EvN ta Γ M (ML [P]) M1) (hb : ∀ p, Ev tb Γ ((p, ML [P]) :: M1) (PIn K lo hi) ((p, ML [P]) :: M1)) (hz : 0 ≤ lo ∧ hi ≤ 1000) : EvN (tOp rRep ta tb) Γ M (MX fun z : Nat => MA (lo ≤ z ∧ (z : Int) < hi) (ML (List.replicate z P))) M1 := fun E F σ H a c Q k =>
  h E F σ H a c _ fun q F1 H1 f1 e1 g1 => hb q E F1 σ H1 g1 (c.mono e1) _ fun y F2 H2 e2 g2 ⟨z, hzz, p2⟩ => by
    cases dp_int p2
    obtain ⟨_, o, ho, ws, rfl, s⟩ := g2.at (j := 0) rfl
    obtain ⟨x, rfl, px⟩ := ps1 s
    obtain ⟨n, rfl⟩ := Int.eq_ofNat_of_zero_le (Int.le_trans hz.1 hzz.1)
    refine ⟨q, n, [x], rfl, rfl, ho, by omega, by omega, sz_of (by simp; omega), fun p hp => ?_⟩
    have g3 := (g2.new (O := ML (List.replicate n P)) (o := .lst (List.replicate (n : Int).toNat [x]).flatten) hp ⟨_, rfl, ?_⟩).drop (List.Sublist.cons₂ _ (List.sublist_cons_self _ _))
    · exact k p F2 _ (g2.fresh hp) (e1.trans e2) (g3.to (j := 0) (O' := MX fun z : Nat => MA (lo ≤ z ∧ (z : Int) < hi) (ML (List.replicate z P))) (fun F o p => ⟨n, hzz, p⟩) rfl)
    · rw [Int.toNat_natCast]
      exact rep_ps n px
/-- a + b, both made here, of something drawn -/
theorem evn_catX {α β : Type} {R : α → List MP} {S : β → List MP} {φ : α → Prop} {ψ : β → Prop} {Ps1 : Ms → Prop} (h1 : EvN ta Γ M (MX fun x => MA (φ x) (ML (R x))) M1) (h2 : ∀ M, Ps1 M → EvN tb Γ M (MX fun y => MA (ψ y) (ML (S y))) M) (hp : ∀ q O, Ps1 ((q, O) :: M1)) (hz : ∀ x y, φ x → ψ y → (R x).length + (S y).length ≤ 100000) :
    EvN (tOp rCat ta tb) Γ M (MX fun z : α × β => MA (φ z.1 ∧ ψ z.2) (ML (R z.1 ++ S z.2))) M1 := fun E F σ H a b Q k =>
  h1 E F σ H a b _ fun x F1 H1 f1 e1 g1 => h2 _ (hp x _) E F1 σ H1 g1 (b.mono e1) _ fun y F2 H2 f2 e2 g2 => by
    obtain ⟨_, o, ho, u, hu, vs, rfl, s⟩ := g2.at (j := 1) rfl
    obtain ⟨_, o, ho', u', hu', ws, rfl, s'⟩ := g2.at (j := 0) rfl
    refine ⟨x, y, vs, ws, rfl, rfl, ho, ho', sz_of (by rw [paired_len s, paired_len s']; exact hz u u' hu hu'), fun p hp => ?_⟩
    have g3 := (g2.new (O := MX fun z : α × β => MA (φ z.1 ∧ ψ z.2) (ML (R z.1 ++ S z.2))) (o := .lst (vs ++ ws)) hp ⟨(u, u'), ⟨hu, hu'⟩, _, rfl, paired_app s s'⟩).drop (List.Sublist.cons₂ _ ((List.sublist_cons_self _ _).trans (List.sublist_cons_self _ _)))
    exact k p F2 _ (g2.fresh hp) (e1.trans e2) g3
theorem evn_u (h : EvN te Γ M (ML ps) M1) : EvN te Γ M (MX fun _ : Unit => MA True (ML ps)) M1 := h.weak fun F o p => ⟨(), trivial, p⟩
/-- the last list is given away, named -/
theorem nx_own {f} {q : Addr} {l : List Int} (e : M[j]? = some (q, MInts K l)) (hq : E.H q = none) (hg : Γ[i]? = some (some (Own q))) (h : Nx E (Γ.set i (some (D K (dL l)))) (M.eraseIdx j) f) : Nx E Γ M f :=
  nx_freeze (K := K) (i := i) j e hq hg (nx_le (i := i) (P := PLi K (l.map fun n => D K (.int n))) (by
    have hi := (List.getElem?_eq_some_iff.mp hg).1
    rw [List.getElem?_set_self hi]) dL_le (by rw [List.set_set]; exact h))
end
end Hq
namespace Hq
open PySem L2
section
variable {K : PySem.W.Frag} {E : Ent} {F H : Hp} {M M1 M2 : Ms} {Γ : Gm} {P P1 : MP} {O : MO} {q : Addr} {te ta tb tl tk : TE} {tr : TA} {D1 : Ends} {tu tz : TS} {t u : TT} {ps qs : List MP} {i j v : Nat} {l : List Int} {b : Bool}
/-- *xs among arguments -/
theorem ea_starT (h : Ev te Γ M (PTu K qs) M1) (hr : EvA tr Γ M1 ps M2) : EvA (StX.tStar K te tr) Γ M (qs ++ ps) M2 := fun E F σ H a b Q k =>
  h E F σ H a b _ fun x F1 H1 e1 a1 ⟨p, vs, ex, s, q⟩ => ⟨p, vs, ex, .inl (Evl.ex_t a1.ex s), hr E F1 σ H1 a1 (b.mono e1) _ fun ws F2 H2 e2 a2 p2 => k _ F2 H2 (e1.trans e2) a2 (paired_app (q.mono e2) p2)⟩
theorem ea_starL (h : Ev te Γ M (PLi K qs) M1) (hr : EvA tr Γ M1 ps M2) : EvA (StX.tStar K te tr) Γ M (qs ++ ps) M2 := fun E F σ H a b Q k =>
  h E F σ H a b _ fun x F1 H1 e1 a1 ⟨p, vs, ex, s, q⟩ => ⟨p, vs, ex, .inr (Evl.ex_l a1.ex s), hr E F1 σ H1 a1 (b.mono e1) _ fun ws F2 H2 e2 a2 p2 => k _ F2 H2 (e1.trans e2) a2 (paired_app (q.mono e2) p2)⟩
theorem ea_starW (h : Ev te Γ M (D K (dW b l)) M1) (hr : EvA tr Γ M1 ps M2) : EvA (StX.tStar K te tr) Γ M (l.map (fun n => D K (.int n)) ++ ps) M2 := by
  cases b with
  | true => exact ea_starT (Ev.weak (P := D K (dT l)) h le_dT) hr
  | false => exact ea_starL (Ev.weak (P := D K (dL l)) h le_dL) hr
/-- [*a, *b] -/
theorem evn_star2 {l m : List Int} {c : Bool} (h : Ev ta Γ M (D K (dW b l)) M1) (h2 : Ev tb Γ M1 (D K (dW c m)) M2) (hz : l.length + m.length ≤ 100000) : EvN (tLst (StX.tStar K ta (StX.tStar K tb tNil))) Γ M (MInts K (l ++ m)) M2 :=
  (evn_lst (ea_starW h (ea_starW h2 ea_nil)) (by simp only [List.length_append, List.length_map, List.length_nil]; omega)).is (by rw [MInts, List.map_append, List.append_nil])
theorem evn_star3 {l m n : List Int} {c d : Bool} {tc : TE} {M3 : Ms} (h : Ev ta Γ M (D K (dW b l)) M1) (h2 : Ev tb Γ M1 (D K (dW c m)) M2) (h3 : Ev tc Γ M2 (D K (dW d n)) M3) (hz : l.length + m.length + n.length ≤ 100000) : EvN (tLst (StX.tStar K ta (StX.tStar K tb (StX.tStar K tc tNil)))) Γ M (MInts K (l ++ (m ++ n))) M3 :=
  (evn_lst (ea_starW h (ea_starW h2 (ea_starW h3 ea_nil))) (by simp only [List.length_append, List.length_map, List.length_nil]; omega)).is (by rw [MInts, List.map_append, List.map_append, List.append_nil])
theorem go_forEnumW (e : Γ[v]? = some (some (D K (dW b l)))) (Jv : Nat → Gm → Ms → Prop) (h0 : Jv 0 Γ M)
    (hs : ∀ E', Le E' E → ∀ n x, l[n]? = some x → ∀ Γ' M', Jv n Γ' M' → Nx E' ((Γ'.set i (some (D K (.int n)))).set j (some (D K (.int x)))) M' (tu { D1 with nx := JA E' (Jv (n + 1)), ct := JA E' (Jv (n + 1)), bk := D1.nx }))
    (hd : ∀ Γ' M', Jv l.length Γ' M' → Nx E Γ' M' D1.nx) : Nx E Γ M (tFor (iOr (iEnumT K (tCons (tVar v) tNil)) (iEnum K (tCons (tVar v) tNil))) (gPair K i j) tu D1) := by
  cases b with
  | true => exact for_or1 (go_forEnumT (R := fun x => D K (.int x)) ((ev_var (P := D K (dT l)) e).weak le_dT) Jv h0 hs hd)
  | false => exact for_or2 (go_forEnumL (R := fun x => D K (.int x)) ((ev_var (P := D K (dL l)) e).weak le_dL) Jv h0 hs hd)
theorem q_forEnumW (e : Γ[v]? = some (some (D K (dW b l)))) (Jv : Nat → Gm → Ms → Prop) (h0 : Jv 0 Γ M)
    (hs : ∀ E', Le E' E → ∀ n x, l[n]? = some x → ∀ Γ' M', Jv n Γ' M' → Nx E' ((Γ'.set i (some (D K (.int n)))).set j (some (D K (.int x)))) M' (tu { D1 with nx := JA E' (Jv (n + 1)), ct := JA E' (Jv (n + 1)), bk := tz D1 }))
    (hd : ∀ Γ' M', Jv l.length Γ' M' → Nx E Γ' M' (tz D1)) : Nx E Γ M (tSeq (tFor (iOr (iEnumT K (tCons (tVar v) tNil)) (iEnum K (tCons (tVar v) tNil))) (gPair K i j) tu) tz D1) := go_forEnumW (D1 := { D1 with nx := tz D1 }) e Jv h0 hs hd
/-- xs[i] = e, e drawn -/
theorem go_setLE {α : Type} {φ : α → Prop} {R : α → MP} {i : Int} {j : Nat} (h : Ev te Γ M (PEx fun x => PAn (φ x) (R x)) M1) (ho : Ev ta Γ M1 (Own q) M1) (hi : Ev tb Γ M1 (D K (.int i)) M2) (e : M2[j]? = some (q, ML ps)) (h0 : 0 ≤ i) (h1 : i.toNat < ps.length) (k : ∀ x, φ x → Nx E Γ (M2.set j (q, ML (ps.set i.toNat (R x)))) D1.nx) :
    Nx E Γ M (tAsg te (gSub ta tb rSetL) D1) := fun σ H ⟨F, a, b⟩ => h E F σ H a b _ fun w F0 H0 e0 g0 ⟨x, hx, p0⟩ => ho E F0 σ H0 g0 (b.mono e0) _ fun v F1 H1 e1 g1 p1 => by
  have p1 : v = .ref q := p1
  subst p1
  refine hi E F1 σ H1 g1 (b.mono (e0.trans e1)) _ fun y F2 H2 e2 g2 p2 => ?_
  cases dp_int p2
  obtain ⟨_, o, ho2, ws, rfl, s⟩ := g2.at e
  obtain ⟨n, rfl⟩ := Int.eq_ofNat_of_zero_le h0
  have hn : n < ws.length := by rw [paired_len s]; exact h1
  exact ⟨q, ws, n, n, rfl, rfl, ho2, Evl.ixN_nat hn, k x hx _ _ ⟨F2, g2.mut e ⟨_, rfl, paired_set (R := fun (v : V) (P : MP) => P.p F2 v) ((R x).mono (e1.trans e2) p0) n s⟩, b.mono ((e0.trans e1).trans e2)⟩⟩
theorem ev_takeDT {l : List Int} {a : Nat} {te ti : TE} (h : Ev te Γ M (D K (dT l)) M1) (hi : Ev ti Γ M1 (D K (.int (a : Int))) M1) : Ev (tSl (rSlA K) te tNoPart (tPart ti)) Γ M (D K (dT (l.take a))) M1 :=
  (ev_slT h ep_none (ep_some hi)).is (by rw [cut_take])
theorem ev_dropDT {l : List Int} {a : Nat} {te ti : TE} (h : Ev te Γ M (D K (dT l)) M1) (hi : Ev ti Γ M1 (D K (.int (a : Int))) M1) : Ev (tSl (rSlA K) te (tPart ti) tNoPart) Γ M (D K (dT (l.drop a))) M1 :=
  (ev_slT h (ep_some hi) ep_none).is (by rw [cut_drop])
theorem rv_ixWd {i : Int} (h0 : 0 ≤ i) (h : i.toNat < l.length) : RV (rIx K) (D K (dW b l)) (D K (.int i)) M (D K (.int (l.getD i.toNat 0))) M :=
  rv_ixW h0 (by rw [List.getElem?_map, List.getElem?_eq_getElem h, List.getD_eq_getElem?_getD, List.getElem?_eq_getElem h]; rfl)
theorem rv_ixDLd {i : Int} (h0 : 0 ≤ i) (h : i.toNat < l.length) : RV (rIx K) (D K (dL l)) (D K (.int i)) M (D K (.int (l.getD i.toNat 0))) M := rv_ixWd (b := false) h0 h
theorem rv_ixDTd {i : Int} (h0 : 0 ≤ i) (h : i.toNat < l.length) : RV (rIx K) (D K (dT l)) (D K (.int i)) M (D K (.int (l.getD i.toNat 0))) M := rv_ixWd (b := true) h0 h
end
/-- a word, or none -/
def dOW : Option (List Int) → PyData
  | none => .none
  | some w => dT w
section
variable {K : PySem.W.Frag} {M : Ms}
theorem rv_isO {o : Option (List Int)} : RV rIs0 (D K (dOW o)) (D K .none) M (D K (.bool o.isNone)) M := by
  cases o with
  | none => exact rv_isN1
  | some w =>
    refine rv_val (z := .bl false) (fun _ => .bl _) fun F H x y p1 p2 _ Q q => ?_
    obtain ⟨a, xs, rfl, _, _⟩ := dp_tup (ds := w.map .int) p1
    cases dp_non p2
    exact ⟨rfl, q⟩
theorem rv_notO {o : Option (List Int)} : RV rNot0 (D K (dOW o)) (D K .none) M (D K (.bool o.isSome)) M := by
  cases o with
  | none => exact rv_notN1
  | some w =>
    refine rv_val (z := .bl true) (fun _ => .bl _) fun F H x y p1 p2 _ Q q => ?_
    obtain ⟨a, xs, rfl, _, _⟩ := dp_tup (ds := w.map .int) p1
    cases dp_non p2
    exact ⟨rfl, q⟩
theorem eqv_O : ∀ a b : Option (List Int), PyData.eqv (dOW a) (dOW b) = decide (a = b)
  | none, none => rfl
  | none, some _ => rfl
  | some _, none => rfl
  | some a, some b => by
    show PyData.eqv (dT a) (dT b) = _
    rw [enc_dT.eq]; simp
theorem enc_dOW : Enc dOW 2 := ⟨eqv_O, fun x => by cases x with
  | none => rfl
  | some w => exact enc_dT.lay w, fun x => by cases x with
  | none => show PyData.depth .none ≤ 2; simp [PyData.depth]
  | some w => exact enc_dT.deep w⟩
end
end Hq
namespace Hq
open PySem L2
section
variable {K : PySem.W.Frag} {E : Ent} {F H : Hp} {M M1 M2 : Ms} {Γ : Gm} {P P1 : MP} {O : MO} {q : Addr} {te ta tb tl tk : TE} {tr : TA} {D1 : Ends} {tu tz : TS} {t u : TT} {ps qs : List MP} {i j v : Nat} {l : List Int} {b : Bool}
/-- an own list is given away; that it is a list in the heap itself stays known -/
theorem nx_freezeFr {f} (j : Nat) (e : M[j]? = some (q, O)) (hq : E.H q = none) (hg : Γ[i]? = some (some (Own q))) (h : Nx E (Γ.set i (some (Fr O))) (M.eraseIdx j) f) : Nx E Γ M f := by
  rintro σ H ⟨F, a, b⟩
  obtain ⟨fq, o, ho, hO⟩ := a.at e
  have ex : Ex F (upd F q o) := Evl.Ex.new fq
  exact h σ H ⟨_, a.freeze e hq ho, (b.mono ex).upd hg fun v hv => ⟨q, o, hv, upd_same, O.mono ex hO⟩⟩
theorem evn_catFr (h1 : Ev ta Γ M (Fr (ML ps)) M1) (h2 : Ev tb Γ M1 (Fr (ML qs)) M2) (hz : ps.length + qs.length ≤ 100000) : EvN (tOp rCat ta tb) Γ M (ML (ps ++ qs)) M2 := fun E F σ H a b Q k =>
  h1 E F σ H a b _ fun x F1 H1 e1 g1 p1 => h2 E F1 σ H1 g1 (b.mono e1) _ fun y F2 H2 e2 g2 p2 => by
    obtain ⟨p, _, rfl, hp, vs, rfl, s⟩ := (Fr (ML ps)).mono e2 p1
    obtain ⟨p', _, rfl, hp', ws, rfl, s'⟩ := p2
    exact ⟨p, p', vs, ws, rfl, rfl, g2.ex _ _ hp, g2.ex _ _ hp', sz_of (by rw [paired_len s, paired_len s']; exact hz), fun r hr => k r F2 _ (g2.fresh hr) (e1.trans e2) (g2.new hr ⟨_, rfl, paired_app s s'⟩)⟩
/-- a loop over a list that is only known by something -/
theorem go_forLX {α : Type} {φ : α → Prop} {pz : α → List MP} (h : Ev tl Γ M (PEx fun x => PAn (φ x) (PLi K (pz x))) M1) (J : α → Nat → Gm → Ms → Prop) (h0 : ∀ x, φ x → J x 0 Γ M1)
    (hs : ∀ x, φ x → ∀ E', Le E' E → ∀ n P, (pz x)[n]? = some P → ∀ Γ' M', J x n Γ' M' → Nx E' (Γ'.set i (some P)) M' (tu { D1 with nx := JA E' (J x (n + 1)), ct := JA E' (J x (n + 1)), bk := D1.nx }))
    (hd : ∀ x, φ x → ∀ Γ' M', J x (pz x).length Γ' M' → Nx E Γ' M' D1.nx) : Nx E Γ M (tFor (iList K tl) (gName i) tu D1) := fun σ H ⟨F, a, b⟩ => h E F σ H a b _ fun v F1 H1 e1 g1 ⟨x, hx, p, vs, hp, s, q⟩ => by
  refine ⟨p, hp, ⟨vs, Evl.ex_l g1.ex s⟩, for_list (xs := vs) (fun n σ H => JA ⟨F1, H1, keys M1⟩ (J x n) σ H) ⟨Γ, M1, h0 x hx, F1, g1.enter, b.mono e1⟩ (fun n σ2 H2 _ ⟨Γ', M', _, F2, g2, _⟩ => Evl.ex_l (g2.gr.ex.trans g2.ex) s)
    (fun n y σ2 H2 hy ⟨Γ', M', hJ, F2, g2, b2⟩ => ?_) (fun σ2 H2 hJ => ?_)⟩
  · obtain ⟨P, hP, hy2⟩ := paired_get' q hy
    exact hs x hx ⟨F1, H1, keys M1⟩ g1.le n P hP Γ' M' hJ _ _ ⟨F2, g2, b2.set i (P.mono g2.gr.ex hy2)⟩
  · rw [paired_len q] at hJ
    obtain ⟨Γ', M', hJ, at2⟩ := hJ
    exact hd x hx Γ' M' hJ _ _ (at2.le g1.le)
theorem q_forLX {α : Type} {φ : α → Prop} {pz : α → List MP} (h : Ev tl Γ M (PEx fun x => PAn (φ x) (PLi K (pz x))) M1) (J : α → Nat → Gm → Ms → Prop) (h0 : ∀ x, φ x → J x 0 Γ M1)
    (hs : ∀ x, φ x → ∀ E', Le E' E → ∀ n P, (pz x)[n]? = some P → ∀ Γ' M', J x n Γ' M' → Nx E' (Γ'.set i (some P)) M' (tu { D1 with nx := JA E' (J x (n + 1)), ct := JA E' (J x (n + 1)), bk := tz D1 }))
    (hd : ∀ x, φ x → ∀ Γ' M', J x (pz x).length Γ' M' → Nx E Γ' M' (tz D1)) : Nx E Γ M (tSeq (tFor (iList K tl) (gName i) tu) tz D1) := go_forLX (D1 := { D1 with nx := tz D1 }) h J h0 hs hd
/-- sorted(set(xs)), as something that stands -/
theorem ev_sorts {w : World} {ns : List Int} (h : Ev te Γ M (PLi K (ns.map fun n => D K (.int n))) M1) (hn : ns.length < 63) :
    Ev (tCB (rSortedSet w) (tCons (tCB (rSetI K w) (tCons te tNil)) tNil)) Γ M (PEx fun ns' : List Int => PAn (ns'.Pairwise (· < ·) ∧ ∀ k, k ∈ ns' ↔ k ∈ ns) (PLi K (ns'.map fun n => D K (.int n)))) M1 :=
  (ev_fr (evn_sortedSet h pli_ints hn)).weak (MP.le_trans fr_X (PEx.le fun _ => MP.le_trans fr_A (PAn.le fun _ => fr_L (K := K))))
theorem ptu_ints {ns : List Int} : ∀ E F H v, Pt E F M1 H → (PTu K (ns.map fun n => D K (.int n))).p F v → ∃ a, v = .ref a ∧ (SqL K H a (ns.map V.int) ∨ SqT K H a (ns.map V.int)) := fun E F H v g ⟨a, vs, e, s, p⟩ => by
  have es := ints_map p
  subst es
  exact ⟨a, e, .inr (Evl.ex_t g.ex s)⟩
theorem ev_sortsT {w : World} {ns : List Int} (h : Ev te Γ M (PTu K (ns.map fun n => D K (.int n))) M1) (hn : ns.length < 63) :
    Ev (tCB (rSortedSet w) (tCons (tCB (rSetI K w) (tCons te tNil)) tNil)) Γ M (PEx fun ns' : List Int => PAn (ns'.Pairwise (· < ·) ∧ ∀ k, k ∈ ns' ↔ k ∈ ns) (PLi K (ns'.map fun n => D K (.int n)))) M1 :=
  (ev_fr (evn_sortedSet h ptu_ints hn)).weak (MP.le_trans fr_X (PEx.le fun _ => MP.le_trans fr_A (PAn.le fun _ => fr_L (K := K))))
theorem ps_split {F : Hp} : ∀ {qs rs : List MP} {vs : List V}, Ps F vs (qs ++ rs) → ∃ us ws, vs = us ++ ws ∧ Ps F us qs ∧ Ps F ws rs
  | [], rs, vs, h => ⟨[], vs, rfl, .nil, h⟩
  | q :: qs, rs, _, .cons a t => by
    obtain ⟨us, ws, e, h1, h2⟩ := ps_split t
    exact ⟨_ :: us, ws, by rw [e]; rfl, .cons a h1, h2⟩
theorem RC.exm {α : Type} {rc : List V → Hp → VK → Prop} {R : α → MP} {M' : Ms} {rs : List MP} (h : ∀ x, RC rc (qs ++ R x :: rs) M P M') : RC rc (qs ++ PEx R :: rs) M P M' := fun E F H vs a p Q k => by
  obtain ⟨us, ws, rfl, h1, h2⟩ := ps_split p
  cases h2 with
  | cons b t => obtain ⟨x, b⟩ := b; exact h x E F H _ a (paired_app h1 (.cons b t)) Q k
theorem RC.anm {φ : Prop} {rc : List V → Hp → VK → Prop} {R : MP} {M' : Ms} {rs : List MP} (h : φ → RC rc (qs ++ R :: rs) M P M') : RC rc (qs ++ PAn φ R :: rs) M P M' := fun E F H vs a p Q k => by
  obtain ⟨us, ws, rfl, h1, h2⟩ := ps_split p
  cases h2 with
  | cons b t => exact h b.1 E F H _ a (paired_app h1 (.cons b.2 t)) Q k
end
end Hq
namespace Hq
open PySem L2
/-! ### min(xs) of tuples of ints: where the first is a least one -/
section
open PySem.W
theorem min_at {prog : Program} {w : World} {A : Around} {E : Value → Shared → Prop} {s : Shared} {l : Addr} {vs : Array Value} {x : PyData} {xs : List PyData} {as : List Addr} {Q : Value → Shared → Prop} (hh : A.handled = none) (hl : s.heap.IsList l vs) (hr : ReadsAll s.heap vs.toList (x :: xs) as) (ha : AlikeAll (x :: xs)) (hu : A.units + 1 + PyData.depthAll (x :: xs) < cLine)
    (h : ∀ (i : Nat) v h' tk, vs[i]? = some v → (x :: xs).getD i .none = minD x xs → (∀ b o, s.heap.get? b = some o → h'.get? b = some o) → Q v { s with heap := h', toks := tk }) :
    wpAny (model prog w) A (call (.builtin "min") [.ref l]) Q E s := by
  have hn : vs.size = xs.length + 1 := readsAll_len hr
  refine call_min_walkH (iter_listW (A := A.in1) hh hl fun s₂ e W st hfp hw hk => ?_)
  refine ⟨_, _, _, _, _, _, _, s.heap, _, rfl, W, st, hfp, by omega, hw, hk, cmpIn_lt (A := A.in1) hr ha (by show A.units + 1 + _ < _; exact hu), fun v s' hP m => ?_⟩
  obtain ⟨h', tk, rfl, hk'⟩ := moved_old e rfl m
  have e1 : vs.size - 1 = xs.length := by omega
  have e2 := (argBest_fold dataLt PyData.none x xs xs.length (Nat.le_refl _)).2
  rw [List.take_length] at e2
  refine h _ v h' tk hP ?_ hk'
  unfold minD
  rw [e1, ← e2]
end
def rMinD (K : PySem.W.Frag) : List V → Hp → VK → Prop := fun vs H Q => ∃ (a : Addr) (xs : List V) (l0 : List Int) (L : List (List Int)), vs = [.ref a] ∧ SqL K H a xs ∧ Paired (fun x l => Dp K H x (dT l)) xs (l0 :: L) ∧ (∀ l ∈ L, ¬ l < l0) ∧ ∀ (i : Nat) (x : V), xs[i]? = some x → (l0 :: L)[i]? = some l0 → Q x H
theorem each_reads {X : Cx} {pn : List (Addr × Obj)} {sg : St} {H : Hp} {st : Shared} (I : Inv X pn sg H st) : ∀ {xs : List V} {its : List Value} {L : List (List Int)}, Vals xs its → Paired (fun x l => Dp X.K H x (dT l)) xs L → ∃ as, ReadsAll st.heap its (L.map dT) as
  | _, _, _, .nil, .nil => ⟨_, .nil⟩
  | _, _, _, .cons a t, .cons b u => by
    obtain ⟨as, r⟩ := Dp.reads I _ _ _ b a
    obtain ⟨bs, rs⟩ := each_reads I t u
    exact ⟨_, .cons r rs⟩
theorem vals_at {xs : List V} {its : List Value} (r : Vals xs its) : ∀ {i : Nat} {v : Value}, its[i]? = some v → ∃ x, xs[i]? = some x ∧ RelV x v := by
  induction r with
  | nil => intro i v h; simp at h
  | cons a t ih =>
    intro i v h
    cases i with
    | zero => exact ⟨_, rfl, by have := Option.some.inj (show some _ = some v from h); rw [← this]; exact a⟩
    | succ i => exact ih (i := i) (by simpa using h)
open PySem.W in
theorem ints_inj : ∀ {l m : List Int}, l.map PyData.int = m.map PyData.int → l = m
  | [], [], _ => rfl
  | [], _ :: _, h => by simp at h
  | _ :: _, [], h => by simp at h
  | a :: l, b :: m, h => by
    rw [List.map_cons, List.map_cons, List.cons.injEq] at h
    cases h.1
    rw [ints_inj h.2]
theorem dT_inj {l m : List Int} (h : dT l = dT m) : l = m := ints_inj (PyData.tuple.inj (show PyData.tuple (l.map .int) = PyData.tuple (m.map .int) from h))
open PySem.W in
theorem min_head {l0 : List Int} {L : List (List Int)} (h : ∀ l ∈ L, ¬ l < l0) : PySem.W.minD (dT l0) (L.map dT) = dT l0 := by
  unfold PySem.W.minD
  induction L with
  | nil => rfl
  | cons l L ih =>
    have e : dataLt (dT l) (dT l0) = false := by
      show dataLt (.tuple (l.map .int)) (.tuple (l0.map .int)) = false
      rw [dataLt_tuple]
      show rowLt (l.map .int) (l0.map .int) = false
      rw [dataLt_ints]
      simpa using h l List.mem_cons_self
    rw [List.map_cons, List.foldl_cons, e, if_neg (by simp)]
    exact ih fun m hm => h m (List.mem_cons_of_mem _ hm)
theorem deep_all {L : List (List Int)} : PyData.depthAll (L.map dT) ≤ 2 := by
  induction L with
  | nil => exact Nat.zero_le _
  | cons l L ih => exact Nat.max_le.mpr ⟨enc_dT.deep l, ih⟩
theorem cr_minD {X : Cx} (hc : X.calm = true) (hu : X.A.units + 64 < cLine) : CallR X (.builtin "min") (rMinD X.K) := by
  intro pn st sg H vs us Q I r h
  obtain ⟨a, xs, l0, L, rfl, hs, hp, hm, q⟩ := h
  obtain ⟨its, rv, hl, hz⟩ := I.list hs
  rw [Vals.ref1 r]
  obtain ⟨as, hr⟩ := each_reads I rv hp
  refine min_at (x := dT l0) (xs := L.map dT) (I.ok.hd hc) hl.isList (by simpa using hr) ⟨fun x hx y hy => ?_, fun x hx => ?_⟩ (by have := deep_all (L := l0 :: L); rw [List.map_cons] at this; omega) fun i v h' tk hv hd hk => ?_
  · have hx : x ∈ (l0 :: L).map dT := hx
    have hy : y ∈ (l0 :: L).map dT := hy
    obtain ⟨l, _, rfl⟩ := List.mem_map.mp hx
    obtain ⟨m, _, rfl⟩ := List.mem_map.mp hy
    show PySem.W.alike (.tuple _) (.tuple _) = true
    simp only [PySem.W.alike]
    exact PySem.W.alike_ints _ _
  · have hx : x ∈ (l0 :: L).map dT := hx
    obtain ⟨l, _, rfl⟩ := List.mem_map.mp hx
    exact fun z => by cases z
  · obtain ⟨x, hx, rx⟩ := vals_at rv (i := i) (by simpa using hv)
    have hi : i < (l0 :: L).length := by
      rw [← paired_len hp]
      exact (List.getElem?_eq_some_iff.mp hx).1
    rw [min_head hm] at hd
    have e : (l0 :: L)[i]? = some l0 := by
      rw [List.getElem?_eq_getElem hi]
      congr 1
      have e2 : ((l0 :: L).map dT).getD i .none = dT l0 := hd
      rw [List.getD_eq_getElem?_getD, List.getElem?_map, List.getElem?_eq_getElem hi] at e2
      exact dT_inj e2
    exact ⟨x, H, I.kept hk, rx, q i x hx e⟩
theorem c_minD {K : PySem.W.Frag} {Y : Cx} (e : Y.K = K) (hc : Y.calm = true) (hu : Y.A.units + 64 < cLine) : CallR Y (.builtin "min") (rMinD K) := e ▸ cr_minD hc hu
section
variable {K : PySem.W.Frag} {E : Ent} {F H : Hp} {M M1 M2 : Ms} {Γ : Gm} {P : MP} {O : MO} {q : Addr} {te ta tb tl tl1 : TE} {tr : TA} {D1 : Ends} {tu tz : TS} {t t0 u : TT} {ps : List MP} {i j : Nat}
theorem paired_dps {H : Hp} (x : Ex F H) : ∀ {ws : List V} {L : List (List Int)}, Ps F ws (L.map fun l => D K (dT l)) → Paired (fun x l => Dp K H x (dT l)) ws L
  | [], [], _ => .nil
  | _ :: _, [], h => by cases h
  | [], _ :: _, h => by cases h
  | w :: ws, l :: L, h => by
    cases h with
    | cons a t => exact .cons (Dp.mono x a) (paired_dps x t)
theorem rc_minD {l0 : List Int} {L : List (List Int)} (h : ∀ l ∈ L, ¬ l < l0) : RC (rMinD K) [PLi K ((l0 :: L).map fun l => D K (dT l))] M (D K (dT l0)) M := fun E F H vs a p Q k => by
  obtain ⟨v, rfl, b, ws, rfl, s, p⟩ := ps1 p
  refine ⟨b, ws, l0, L, rfl, Evl.ex_l a.ex s, paired_dps a.ex p, h, fun i x hx hl => ?_⟩
  obtain ⟨P, hP, hx2⟩ := paired_get' p hx
  rw [List.getElem?_map, hl] at hP
  have hP : D K (dT l0) = P := Option.some.inj hP
  subst hP
  exact k _ F H (Evl.Ex.refl _) a hx2
/-! ### a comprehension with two generators -/
theorem flat_len {α β γ : Type} {ys : List β} {f : α → β → Bool} {G : α → β → γ} : ∀ {xs : List α}, (xs.flatMap fun x => (ys.filter (f x)).map (G x)).length ≤ xs.length * ys.length
  | [] => Nat.zero_le _
  | x :: xs => by
    rw [List.flatMap_cons, List.length_append, List.length_map, List.length_cons, Nat.succ_mul]
    have h1 := List.length_filter_le (f x) ys
    have h2 := flat_len (ys := ys) (f := f) (G := G) (xs := xs)
    omega
theorem wipe_out {σ : St} {x : V} (h : i ≠ j) : wipe ((wipe σ [i, j]).set i (some x)) [i, j] = wipe σ [i, j] := by
  show ((((σ.set j none).set i none).set i (some x)).set j none).set i none = (σ.set j none).set i none
  apply List.ext_getElem?
  intro k
  simp only [List.getElem?_set, List.length_set]
  by_cases h1 : j = k <;> by_cases h2 : i = k <;> simp [h1, h2]
theorem evn_lc2 {α β : Type} {xs : List α} {ys : List β} {R : α → MP} {S : β → MP} {G : α → β → MP} (f : α → β → Bool) (hij : i ≠ j)
    (h : Ev tl Γ M (PLi K (xs.map R)) M1) (hz : xs.length * ys.length ≤ 50000) (hy : ys.length ≤ 40000)
    (h0 : ∀ x ∈ xs, ∀ M, EvT t0 (((Γ.set j none).set i none).set i (some (R x))) M (· = true) M)
    (h1 : ∀ x ∈ xs, ∀ M, Ev tl1 (((Γ.set j none).set i none).set i (some (R x))) M (PLi K (ys.map S)) M)
    (ht : ∀ x ∈ xs, ∀ y ∈ ys, EvT t (((((Γ.set j none).set i none).set i (some (R x))).set j none).set j (some (S y))) M1 (· = f x y) M1)
    (he : ∀ x ∈ xs, ∀ y ∈ ys, f x y = true → Ev te (((((Γ.set j none).set i none).set i (some (R x))).set j none).set j (some (S y))) M1 (G x y) M1) :
    EvN (tLc2 (iList K tl) (gName i) t0 (iList K tl1) (gName j) t te [i, j] [j]) Γ M (ML (xs.flatMap fun x => (ys.filter (f x)).map (G x))) M1 := fun E F σ H a b Q k => h E F σ H a b _ fun v F1 H1 e1 g1 ⟨p, vs, hp, s, q⟩ => by
  refine ⟨p, hp, ⟨vs, Evl.ex_l g1.ex s⟩, fun D2 hD => ?_⟩
  have hl : vs.length = xs.length := by have := paired_len q; rwa [List.length_map] at this
  have gn : Pt ⟨F1, H1, keys M1⟩ F1 ((D2, ML []) :: M1) (upd H1 D2 (.lst [])) := g1.enter.new hD ⟨[], rfl, .nil⟩
  refine ⟨fun n m H' => m = xs.length - n ∧ n ≤ xs.length ∧ ∃ F', Pt ⟨F1, H1, keys M1⟩ F' ((D2, ML ((xs.take n).flatMap fun x => (ys.filter (f x)).map (G x))) :: M1) H', ⟨_, rfl, Nat.zero_le _, F1, gn⟩, ?_⟩
  rintro n m H2 ⟨rfl, hn, F2, g2⟩
  have sl2 : SqL K H2 p vs := Evl.ex_l (g2.gr.ex.trans g2.ex) s
  rcases Nat.lt_or_ge n xs.length with hlt | hge
  case inr =>
    refine .inl ⟨⟨vs, sl2, by omega⟩, ?_⟩
    rw [List.take_of_length_le (by omega)] at g2
    exact k D2 F2 H2 (g1.fresh hD) (e1.trans g2.gr.ex) (g1.back g2)
  refine .inr ⟨⟨vs, vs[n], sl2, List.getElem?_eq_getElem (by omega)⟩, fun H' => n + 1 ≤ xs.length ∧ ∃ F', Pt ⟨F1, H1, keys M1⟩ F' ((D2, ML ((xs.take (n + 1)).flatMap fun x => (ys.filter (f x)).map (G x))) :: M1) H', fun H' ⟨c1, c2⟩ => ⟨_, by omega, rfl, c1, c2⟩, fun x H' y => ?_⟩
  obtain ⟨rfl, y⟩ := y
  have hx := y vs sl2
  obtain ⟨P, hP, hx2⟩ := paired_get' q hx
  have hxn : xs[n]? = some xs[n] := List.getElem?_eq_getElem hlt
  rw [List.getElem?_map, hxn] at hP
  have hP : R xs[n] = P := Option.some.inj hP
  subst hP
  have tk : xs.take (n + 1) = xs.take n ++ [xs[n]] := by rw [List.take_add_one, hxn]; rfl
  have tl : (xs.take n).length = n := by rw [List.length_take]; omega
  rw [tk]
  have xm := List.mem_of_getElem? hxn
  generalize xs[n] = z at *
  have b2 : EnvOk F2 ((wipe σ [i, j]).set i (some x)) (((Γ.set j none).set i none).set i (some (R z))) := (env_wipe2 (b.mono (e1.trans g2.gr.ex))).set i ((R z).mono g2.gr.ex hx2)
  refine ⟨wipe_out hij, ?_⟩
  refine h0 z xm _ _ F2 _ _ g2 b2 _ fun c F3 H3 e3 g3 hc => ?_
  have hc : c = true := hc
  subst hc
  rw [if_pos rfl]
  refine h1 z xm _ _ F3 _ H3 g3 (b2.mono e3) _ fun v1 F4 H4 e4 g4 ⟨p1, hp1q⟩ => ?_
  obtain ⟨vs1, hp1, s1, q1⟩ := hp1q
  have hl1 : vs1.length = ys.length := by have := paired_len q1; rwa [List.length_map] at this
  have b4 := b2.mono (e3.trans e4)
  refine ⟨p1, hp1, ⟨vs1, Evl.ex_l g4.ex s1⟩, ?_⟩
  have e14 : Ex F1 F4 := g4.gr.ex
  refine ⟨fun m k H' => k = ys.length - m ∧ m ≤ ys.length ∧ ∃ F', Ex F4 F' ∧ Pt ⟨F1, H1, keys M1⟩ F' ((D2, ML (((xs.take n).flatMap fun x => (ys.filter (f x)).map (G x)) ++ ((ys.take m).filter (f z)).map (G z))) :: M1) H', ⟨_, rfl, Nat.zero_le _, F4, Evl.Ex.refl _, by simpa using g4⟩, ?_⟩
  rintro m k2 H5 ⟨rfl, hm, F5, e5, g5⟩
  have sl5 : SqL K H5 p1 vs1 := Evl.ex_l (e5.trans g5.ex) s1
  rcases Nat.lt_or_ge m ys.length with hlt2 | hge2
  case inr =>
    refine .inl ⟨⟨vs1, sl5, by omega⟩, hlt, F5, ?_⟩
    rw [List.take_of_length_le hge2] at g5
    rw [List.flatMap_append, List.flatMap_singleton]
    exact g5
  refine .inr ⟨⟨vs1, vs1[m], sl5, List.getElem?_eq_getElem (by omega)⟩, fun H' => ∃ F', Ex F4 F' ∧ Pt ⟨F1, H1, keys M1⟩ F' ((D2, ML (((xs.take n).flatMap fun x => (ys.filter (f x)).map (G x)) ++ ((ys.take (m + 1)).filter (f z)).map (G z))) :: M1) H', fun H' c => ⟨_, by omega, rfl, hlt2, c⟩, fun x2 H' y2 => ?_⟩
  obtain ⟨e, y2⟩ := y2
  subst e
  have hx5 := y2 vs1 sl5
  obtain ⟨P, hP, hx6⟩ := paired_get' q1 hx5
  have hym : ys[m]? = some ys[m] := List.getElem?_eq_getElem hlt2
  rw [List.getElem?_map, hym] at hP
  have hP : S ys[m] = P := Option.some.inj hP
  subst hP
  have tk2 := take_filter ys (f z) m ys[m] hym
  have ym := List.mem_of_getElem? hym
  generalize ys[m] = y at *
  refine ⟨wipe_one, ?_⟩
  refine lc_turn g5 ((env_wipe (b4.mono e5)).set j ((S y).mono e5 hx6)) (ht z xm y ym) (he z xm y ym) ?_ _ fun F6 H6 e6 g6 => ⟨F6, e5.trans e6, ?_⟩
  · have l1 := flat_len (ys := ys) (f := f) (G := G) (xs := xs.take n)
    rw [tl] at l1
    have l2 : n * ys.length ≤ xs.length * ys.length := Nat.mul_le_mul_right _ hn
    have l3 := List.length_filter_le (f z) (ys.take m)
    rw [List.length_append, List.length_map]
    rw [List.length_take] at l3
    omega
  · rw [tk2, List.map_append, ← List.append_assoc]
    cases hf : f z y
    · rw [hf] at g6; simpa using g6
    · rw [hf] at g6; simpa using g6
theorem ev_str {x : Str} : Ev (tC (.str x)) Γ M (D K (.str x)) M := ev_cv fun _ => .str x
theorem le_ev {es : List Nat} : (D K (dL (es.map fun n : Nat => (n : Int)))).le (PLi K (es.map fun n : Nat => D K (.int (n : Int)))) := by
  have := le_dL (K := K) (l := es.map fun n : Nat => (n : Int))
  rw [List.map_map] at this
  exact this
theorem rv_catP {ps qs : List MP} (h : ps.length + qs.length ≤ 100000) (hp : ps ≠ []) (hq : qs ≠ []) : RV (rCatA K) (PTu K ps) (PTu K qs) M (PTu K (ps ++ qs)) M := fun E F H x y g p1 p2 Q k => by
  obtain ⟨p, vs, rfl, s, q⟩ := p1
  obtain ⟨p', vs', rfl, s', q'⟩ := p2
  have l1 := paired_len q; have l2 := paired_len q'
  refine ⟨p, p', _, _, rfl, rfl, Evl.ex_t g.ex s, Evl.ex_t g.ex s', sz_of (by omega), fun e => ?_, fun _ e => ?_, fun _ _ r hr => ?_⟩
  · exact absurd (List.eq_nil_of_length_eq_zero (by rw [← l1, e]; rfl)) hp
  · exact absurd (List.eq_nil_of_length_eq_zero (by rw [← l2, e]; rfl)) hq
  · have ex := Evl.Ex.new (Evl.fresh_back g.ex hr) (o := .tup (vs ++ vs'))
    exact k _ _ _ ex (g.laid hr) ⟨r, _, rfl, SqT.of upd_same, paired_app (Ps.mono ex q) (Ps.mono ex q')⟩
theorem eqv_tag {s : Str} {l : List PyData} (h : PyData.eqvAll l l = true) : PyData.eqv (.tuple (.str s :: l)) (.tuple (.str s :: l)) = true := by
  simp [PyData.eqv, PyData.eqvAll, h]
theorem eqv_m {s : Str} {w : List Int} : PyData.eqv (.tuple [.str s, dT w]) (.tuple [.str s, dT w]) = true := eqv_tag (by
  have := enc_dT.eq w w
  simp [PyData.eqvAll, this])
theorem eqv_c {s : Str} {l : List Int} : PyData.eqv (.tuple (.str s :: l.map .int)) (.tuple (.str s :: l.map .int)) = true := eqv_tag (by rw [eqvAll_map enc_int]; simp)
theorem shaped_m {s : Str} (hs : PyData.strOk s = true) {w : List Int} : SeqAt.shaped (.tuple [.str s, dT w]) = true := by
  have h1 := enc_dT.lay w
  have h2 := enc_dT.deep w
  unfold SeqAt.shaped
  simp [PyData.canLay0, PyData.canLayAll0, h1, PyData.depth, PyData.depthAll, hs]
  omega
theorem shaped_c {s : Str} (hs : PyData.strOk s = true) {i j : Int} : SeqAt.shaped (.tuple [.str s, .int i, .int j]) = true := by
  unfold SeqAt.shaped
  simp [PyData.canLay0, PyData.canLayAll0, PyData.depth, PyData.depthAll, hs]
end
end Hq
namespace Hq
open PySem L2
/-! ### objects with all their fields known, and their methods -/
def FieldsOk (F : Hp) (fs : List (Str × V)) (fps : List (Str × MP)) : Prop := Paired (fun (x : Str × V) (g : Str × MP) => x.1 = g.1 ∧ g.2.p F x.2) fs fps
def MOb (C : Addr) (fps : List (Str × MP)) : MO := ⟨fun F o => ∃ dx fs, o = .ins C dx fs ∧ FieldsOk F fs fps, fun e ⟨dx, fs, h, p⟩ => ⟨dx, fs, h, Paired.mapP p fun _ g q => ⟨q.1, g.2.mono e q.2⟩⟩, fun ⟨dx, fs, h, _⟩ xs z => by rw [h] at z; cases z⟩
section
variable {K : PySem.W.Frag} {E : Ent} {F H : Hp} {M M1 M2 : Ms} {Γ : Gm} {P P' P1 : MP} {O O' : MO} {q C : Addr} {te ta tb tl tk : TE} {tr : TA} {D1 : Ends} {tu tz : TS} {ps qs : List MP} {i j v : Nat} {fps : List (Str × MP)} {f m : Str} {sp : Sp} {X : XK}
theorem fo_look : ∀ {fs : List (Str × V)} {fps : List (Str × MP)} {i : Nat}, FieldsOk F fs fps → fps[i]? = some (f, P) → (∀ g ∈ fps.take i, g.1 ≠ f) → ∃ x, fs.lookup f = some x ∧ P.p F x
  | _, _, _, .nil, h, _ => by simp at h
  | (n, x) :: fs, g :: fps, 0, .cons a _, h, _ => by
    have h : g = (f, P) := by simpa using h
    subst h
    have e : n = f := a.1
    subst e
    exact ⟨x, by simp [List.lookup], a.2⟩
  | (n, x) :: fs, g :: fps, i + 1, .cons a t, h, hn => by
    obtain ⟨y, hy, py⟩ := fo_look (i := i) t h fun g' hg => hn g' (by rw [List.take_succ_cons]; exact List.mem_cons_of_mem _ hg)
    have ne : g.1 ≠ f := hn g (by rw [List.take_succ_cons]; exact List.mem_cons_self)
    have e : n = g.1 := a.1
    refine ⟨y, ?_, py⟩
    have : (f == n) = false := by rw [beq_eq_false_iff_ne]; rw [e]; exact fun z => ne z.symm
    simp only [List.lookup, this]
    exact hy
theorem fo_none : ∀ {fs : List (Str × V)} {fps : List (Str × MP)}, FieldsOk F fs fps → (∀ g ∈ fps, g.1 ≠ f) → fs.lookup f = none
  | _, _, .nil, _ => rfl
  | (n, x) :: fs, g :: fps, .cons a t, hn => by
    have ne : g.1 ≠ f := hn g List.mem_cons_self
    have e : n = g.1 := a.1
    have : (f == n) = false := by rw [beq_eq_false_iff_ne]; rw [e]; exact fun z => ne z.symm
    simp only [List.lookup, this]
    exact fo_none t fun g' hg => hn g' (List.mem_cons_of_mem _ hg)
theorem fo_new {x : V} : ∀ {fs : List (Str × V)} {fps : List (Str × MP)}, FieldsOk F fs fps → (∀ g ∈ fps, g.1 ≠ f) → P.p F x → FieldsOk F (putF f x fs) (fps ++ [(f, P)])
  | _, _, .nil, _, h => .cons ⟨rfl, h⟩ .nil
  | (n, y) :: fs, g :: fps, .cons a t, hn, h => by
    have ne : g.1 ≠ f := hn g List.mem_cons_self
    have e : n = g.1 := a.1
    unfold putF
    rw [if_neg (by rw [e]; exact ne)]
    exact .cons a (fo_new t (fun g' hg => hn g' (List.mem_cons_of_mem _ hg)) h)
theorem fo_set {x : V} : ∀ {fs : List (Str × V)} {fps : List (Str × MP)} {i : Nat}, FieldsOk F fs fps → fps[i]? = some (f, P) → (∀ g ∈ fps.take i, g.1 ≠ f) → P'.p F x → FieldsOk F (putF f x fs) (fps.set i (f, P'))
  | _, _, _, .nil, h, _, _ => by simp at h
  | (n, y) :: fs, g :: fps, 0, .cons a t, h, _, hp => by
    have h : g = (f, P) := by simpa using h
    subst h
    have e : n = f := a.1
    unfold putF
    rw [if_pos e]
    exact .cons ⟨a.1, hp⟩ t
  | (n, y) :: fs, g :: fps, i + 1, .cons a t, h, hn, hp => by
    have ne : g.1 ≠ f := hn g (by rw [List.take_succ_cons]; exact List.mem_cons_self)
    have e : n = g.1 := a.1
    unfold putF
    rw [if_neg (by rw [e]; exact ne)]
    exact .cons a (fo_set (i := i) t h (fun g' hg => hn g' (by rw [List.take_succ_cons]; exact List.mem_cons_of_mem _ hg)) hp)
/-- self.f, of an own object -/
theorem ev_fldO (ho : Ev ta Γ M (Own q) M1) (e : M1[j]? = some (q, MOb C fps)) (i : Nat) (hi : fps[i]? = some (f, P)) (hn : ∀ g ∈ fps.take i, g.1 ≠ f) (hc : Cls K C) (ha : NoAttr K C f) : Ev (tFld K ta f) Γ M P M1 := fun E F σ H a b Q k => ho E F σ H a b _ fun v F1 H1 e1 g1 p1 => by
  have p1 : v = .ref q := p1
  subst p1
  obtain ⟨_, o, ho2, dx, fs, rfl, h⟩ := g1.at e
  obtain ⟨x, hx, px⟩ := fo_look h hi hn
  exact ⟨q, C, dx, fs, x, rfl, ho2, hc, ha, hx, k x F1 H1 e1 g1 px⟩
/-- x.f, of an object that stands -/
theorem ev_fldS (ho : Ev ta Γ M (Fr (MOb C fps)) M1) (i : Nat) (hi : fps[i]? = some (f, P)) (hn : ∀ g ∈ fps.take i, g.1 ≠ f) (hc : Cls K C) (ha : NoAttr K C f) : Ev (tFld K ta f) Γ M P M1 := fun E F σ H a b Q k => ho E F σ H a b _ fun v F1 H1 e1 g1 ⟨q, o, hv, hq, dx, fs, ho, h⟩ => by
  subst hv; subst ho
  obtain ⟨x, hx, px⟩ := fo_look h hi hn
  exact ⟨q, C, dx, fs, x, rfl, g1.ex _ _ hq, hc, ha, hx, k x F1 H1 e1 g1 px⟩
theorem fo_len {fs : List (Str × V)} (h : FieldsOk F fs fps) : fs.length = fps.length := paired_len h
/-- self.f = e, a new field -/
theorem go_fldN (hv : Ev tb Γ M P M1) (ho : Ev ta Γ M1 (Own q) M1) (e : M1[j]? = some (q, MOb C fps)) (hz : fps.length < 99) (hf : ∀ g ∈ fps, g.1 ≠ f) (hc : Cls K C) (hn : NoAttr K C f) (k : Nx E Γ (M1.set j (q, MOb C (fps ++ [(f, P)]))) D1.nx) :
    Nx E Γ M (sFld K ta tb f D1) := fun σ H ⟨F, a, b⟩ => hv E F σ H a b _ fun y F1 H1 e1 g1 p1 => ho E F1 σ H1 g1 (b.mono e1) _ fun v F2 H2 e2 g2 p2 => by
  have p2 : v = .ref q := p2
  subst p2
  obtain ⟨_, o, ho1, dx, fs, rfl, h3⟩ := g2.at e
  have := fo_len h3
  exact ⟨q, C, dx, fs, rfl, ho1, hc, hn, by omega, k _ _ ⟨F2, g2.mut e ⟨dx, _, rfl, fo_new h3 hf (P.mono e2 p1)⟩, b.mono (e1.trans e2)⟩⟩
theorem q_fldN (hv : Ev tb Γ M P M1) (ho : Ev ta Γ M1 (Own q) M1) (e : M1[j]? = some (q, MOb C fps)) (hz : fps.length < 99) (hf : ∀ g ∈ fps, g.1 ≠ f) (hc : Cls K C) (hn : NoAttr K C f) (k : Nx E Γ (M1.set j (q, MOb C (fps ++ [(f, P)]))) (tz D1)) :
    Nx E Γ M (tSeq (sFld K ta tb f) tz D1) := go_fldN (D1 := { D1 with nx := tz D1 }) hv ho e hz hf hc hn k
/-- self.f = e, the field is there -/
theorem go_fldU (hv : Ev tb Γ M P' M1) (ho : Ev ta Γ M1 (Own q) M1) (e : M1[j]? = some (q, MOb C fps)) (hz : fps.length < 99) (i : Nat) (hi : fps[i]? = some (f, P)) (hf : ∀ g ∈ fps.take i, g.1 ≠ f) (hc : Cls K C) (hn : NoAttr K C f) (k : Nx E Γ (M1.set j (q, MOb C (fps.set i (f, P')))) D1.nx) :
    Nx E Γ M (sFld K ta tb f D1) := fun σ H ⟨F, a, b⟩ => hv E F σ H a b _ fun y F1 H1 e1 g1 p1 => ho E F1 σ H1 g1 (b.mono e1) _ fun v F2 H2 e2 g2 p2 => by
  have p2 : v = .ref q := p2
  subst p2
  obtain ⟨_, o, ho1, dx, fs, rfl, h3⟩ := g2.at e
  have := fo_len h3
  exact ⟨q, C, dx, fs, rfl, ho1, hc, hn, by omega, k _ _ ⟨F2, g2.mut e ⟨dx, _, rfl, fo_set h3 hi hf (P'.mono e2 p1)⟩, b.mono (e1.trans e2)⟩⟩
theorem q_fldU (hv : Ev tb Γ M P' M1) (ho : Ev ta Γ M1 (Own q) M1) (e : M1[j]? = some (q, MOb C fps)) (hz : fps.length < 99) (i : Nat) (hi : fps[i]? = some (f, P)) (hf : ∀ g ∈ fps.take i, g.1 ≠ f) (hc : Cls K C) (hn : NoAttr K C f) (k : Nx E Γ (M1.set j (q, MOb C (fps.set i (f, P')))) (tz D1)) :
    Nx E Γ M (tSeq (sFld K ta tb f) tz D1) := go_fldU (D1 := { D1 with nx := tz D1 }) hv ho e hz i hi hf hc hn k
/-- C(..) -/
theorem make0' (h : EvA tr Γ M ps M1) (hs : ∀ x vs H Q, Prom (Own x :: ps) [(x, MOb C [])] (D K .none) [(x, O)] vs H Q → sp vs H Q X) : EvN (tMake C sp [] X tr) Γ M O M1 := fun E F σ H a b Q k =>
  h E F σ H a b _ fun vs F1 H1 e1 a1 p1 => fun x dx hx hdx hne => by
    have hx2 : upd H1 dx (.own x) x = none := by rw [upd_ne hne.symm]; exact hx
    have g2 : Pt E F1 ((x, MOb C []) :: M1) (upd (upd H1 dx (.own x)) x (.ins C dx [])) := (a1.junk hdx).new hx2 ⟨dx, [], rfl, .nil⟩
    show sp (V.ref x :: (vs ++ [])) _ _ X
    rw [List.append_nil]
    refine hs x (.ref x :: vs) _ _ ⟨F1, ⟨g2.ex, by simp [keys], fun r hr => ?_⟩, .cons rfl p1, fun v F' H' g hv => ⟨dp_non hv, ?_⟩⟩
    · rw [List.mem_singleton.mp hr]; exact g2.wd.own _ List.mem_cons_self
    · refine k x F' H' (a1.fresh hx) (e1.trans g.gr.ex) (g2.frame g (fun z hz => ?_) rfl fun r hr => ?_)
      · rw [List.mem_singleton.mp hz]; exact List.mem_cons_self
      · rcases List.mem_cons.mp hr with z | z
        · rw [z]; exact .inr List.mem_cons_self
        · exact .inl ⟨fun w => (List.nodup_cons.mp (show (x :: keys M1).Nodup from g2.wd.nd)).1 (by rw [show x = r.1 from (List.mem_singleton.mp w).symm]; exact List.mem_map_of_mem (f := (·.1)) z), List.mem_cons_of_mem _ z⟩
/-- o.m(..), o an own object -/
theorem ev_methO (ho : Ev ta Γ M (Own q) M) (e0 : M[j]? = some (q, MOb C fps)) (hn : ∀ g ∈ fps, g.1 ≠ m) (h : EvA tr Γ M ps M) (hs : ∀ vs H Q, Prom (Own q :: ps) [(q, MOb C fps)] P [(q, O')] vs H Q → sp vs H Q X) : Ev (tMeth C m sp [] X ta tr) Γ M P (M.set j (q, O')) := fun E F σ H a b Q k => ho E F σ H a b _ fun v F1 H1 e1 g1 p1 => by
  have p1 : v = .ref q := p1
  subst p1
  obtain ⟨_, o, ho1, dx, fs, rfl, h3⟩ := g1.at e0
  refine ⟨q, dx, fs, rfl, ho1, fo_none h3 hn, ?_⟩
  refine h E F1 σ H1 g1 (b.mono e1) _ fun vs F2 H2 e2 g2 p2 => ?_
  have r := rc_prom1 (ps := Own q :: ps) (O' := O') (P := P) (sp := sp) (X := X) (dvs := []) e0 (fun vs H Q z => by rw [List.append_nil]; exact hs vs H Q z)
  have r2 := r E F2 H2 (V.ref q :: vs) g2 (.cons rfl p2) Q fun v F' H' e g p => k v F' H' ((e1.trans e2).trans e) g p
  exact r2
/-- o.m(..), o stands -/
theorem ev_methS (ho : Ev ta Γ M (Fr (MOb C fps)) M1) (hn : ∀ g ∈ fps, g.1 ≠ m) (h : EvA tr Γ M1 ps M2) (hs : ∀ vs H Q, Prom (Fr (MOb C fps) :: ps) [] P [] vs H Q → sp vs H Q X) : Ev (tMeth C m sp [] X ta tr) Γ M P M2 := fun E F σ H a b Q k => ho E F σ H a b _ fun v F1 H1 e1 g1 p1 => by
  obtain ⟨q, o, hv, hq, dx, fs, rfl, h3⟩ := id p1
  subst hv
  refine ⟨q, dx, fs, rfl, g1.ex _ _ hq, fo_none h3 hn, ?_⟩
  refine h E F1 σ H1 g1 (b.mono e1) _ fun vs F2 H2 e2 g2 p2 => ?_
  have r := rc_prom0 (M := M2) (ps := Fr (MOb C fps) :: ps) (P := P) (sp := sp) (X := X) (dvs := []) (fun vs H Q z => by rw [List.append_nil]; exact hs vs H Q z)
  exact r E F2 H2 (V.ref q :: vs) g2 (.cons ((Fr (MOb C fps)).mono e2 p1) p2) Q fun v F' H' e g p => k v F' H' ((e1.trans e2).trans e) g p
end
section
variable {K : PySem.W.Frag} {F : Hp}
theorem ps_nameD {β : Type} {φ : β → Int → Prop} : ∀ {l : List β} {vs : List V}, Ps F vs (l.map fun b => PEx fun m : Int => PAn (φ b m) (D K (.int m))) → ∃ ms : List Int, Paired (fun b m => φ b m) l ms ∧ Ps F vs (ms.map fun m => D K (.int m))
  | [], _, h => by cases h; exact ⟨[], .nil, .nil⟩
  | b :: l, _, h => by
    cases h with
    | cons a t =>
      obtain ⟨m, hm, p⟩ := a
      obtain ⟨ms, h1, h2⟩ := ps_nameD t
      exact ⟨m :: ms, .cons hm h1, .cons p h2⟩
/-- a list of numbers, each of which is only known by something -/
theorem ml_nameD {n : Nat} {φ : Nat → Int → Prop} : ∀ F o, (ML ((List.range n).map fun i => PEx fun m : Int => PAn (φ i m) (D K (.int m)))).p F o → (MX fun ms : List Int => MA (ms.length = n ∧ ∀ i, i < n → φ i (ms.getD i 0)) (MInts K ms)).p F o := fun F o ⟨vs, e, p⟩ => by
  obtain ⟨ms, h1, h2⟩ := ps_nameD p
  have hl := paired_len h1
  rw [List.length_range] at hl
  refine ⟨ms, ⟨hl.symm, fun i hi => ?_⟩, vs, e, h2⟩
  obtain ⟨m, hm, hp⟩ := paired_get' h1 (List.getElem?_range hi)
  rw [List.getD_eq_getElem?_getD, hm]
  exact hp
end
/-! zip -/
theorem pi_zipK {X : Cx} {K : PySem.W.Frag} {e e2 : PySem.Expr} {ta : TA} {p pos tpos : Pos} {elts : List PySem.Expr} {kk : Nat} (eK : X.K = K) (hg : Gl X "zip") (hm : X.mg "zip" = none) (ha : PA X [e, e2] ta)
    (hs : starEach [e, e2] X.env = (false, eval e X.env) :: starEach [e2] X.env := by rfl) (hpl : (backTo pos (starEach [e2] X.env)).any (·.1) = false := by rfl) :
    PI X (.Tuple elts kk tpos) (.Call (.Name "zip" p) [e, e2] [] pos) (RZ.iZipA K ta) := eK ▸ RZ.pi_zipA hg hm ha hs hpl
section
variable {K : PySem.W.Frag} {E : Ent} {F H : Hp} {M M1 M2 : Ms} {Γ : Gm} {te ta tb : TE} {D1 : Ends} {tu tz : TS} {i j : Nat} {γ : Type} {zs : List γ} {RA RB : γ → MP} {t : TT}
theorem walk_zipT {a b : Addr} {xs ys : List V} {n : Nat} (hn : n = xs.length ∧ n = ys.length) : Walk (RZ.ItzT K a b) n (fun H => SqT K H a xs ∧ SqT K H b ys) (YPair (fun i => xs[i]?) (fun i => ys[i]?)) := by
  obtain ⟨h1, h2⟩ := hn
  refine ⟨fun i _ hi q => ⟨xs, ys, xs[i]'(by omega), ys[i]'(by omega), q.1, q.2, by simp [show i < xs.length by omega], by simp [show i < ys.length by omega]⟩, fun _ q => ⟨xs, ys, q.1, q.2, by omega⟩, fun i H v H' _ q y => ?_⟩
  obtain ⟨T, x, z, h1, h2, h3, h4, h5⟩ := y
  exact ⟨T, x, z, h1, h2, h3, h4 xs q.1, h5 ys q.2⟩
/-- zip of two tuples of one length -/
theorem go_forZipT (ha : Ev ta Γ M (PTu K (zs.map RA)) M1) (hb : Ev tb Γ M1 (PTu K (zs.map RB)) M2) (Jv : Nat → Gm → Ms → Prop) (h0 : Jv 0 Γ M2)
    (hs : ∀ E', Le E' E → ∀ n z, zs[n]? = some z → ∀ Γ' M', Jv n Γ' M' → Nx E' ((Γ'.set i (some (RA z))).set j (some (RB z))) M' (tu { D1 with nx := JA E' (Jv (n + 1)), ct := JA E' (Jv (n + 1)), bk := D1.nx }))
    (hd : ∀ Γ' M', Jv zs.length Γ' M' → Nx E Γ' M' D1.nx) : Nx E Γ M (tFor (RZ.iZipA K (tCons ta (tCons tb tNil))) (gPair K i j) tu D1) := fun σ H ⟨F, a, b⟩ =>
  ha E F σ H a b _ fun v F1 H1 e1 g1 p1 => hb E F1 σ H1 g1 (b.mono e1) _ fun w F2 H2 e2 g2 p2 => by
    obtain ⟨x, us, rfl, s1, q1⟩ := (PTu K (zs.map RA)).mono e2 p1
    obtain ⟨y, vs, rfl, s2, q2⟩ := p2
    have l1 : us.length = zs.length := by have := paired_len q1; rwa [List.length_map] at this
    have l2 : vs.length = zs.length := by have := paired_len q2; rwa [List.length_map] at this
    exact ⟨x, y, us, vs, rfl, .inr ⟨Evl.ex_t g2.ex s1, Evl.ex_t g2.ex s2, for_pairs (K := K) (Q := True) (walk_zipT ⟨l1.symm, l2.symm⟩) g2 (b.mono (e1.trans e2)) q1 q2 (fun F' H' e e' => ⟨Evl.ex_t (e.trans e') s1, Evl.ex_t (e.trans e') s2⟩) Jv h0 hs hd⟩⟩
theorem q_forZipT (ha : Ev ta Γ M (PTu K (zs.map RA)) M1) (hb : Ev tb Γ M1 (PTu K (zs.map RB)) M2) (Jv : Nat → Gm → Ms → Prop) (h0 : Jv 0 Γ M2)
    (hs : ∀ E', Le E' E → ∀ n z, zs[n]? = some z → ∀ Γ' M', Jv n Γ' M' → Nx E' ((Γ'.set i (some (RA z))).set j (some (RB z))) M' (tu { D1 with nx := JA E' (Jv (n + 1)), ct := JA E' (Jv (n + 1)), bk := tz D1 }))
    (hd : ∀ Γ' M', Jv zs.length Γ' M' → Nx E Γ' M' (tz D1)) : Nx E Γ M (tSeq (tFor (RZ.iZipA K (tCons ta (tCons tb tNil))) (gPair K i j) tu) tz D1) := go_forZipT (D1 := { D1 with nx := tz D1 }) ha hb Jv h0 hs hd
end
end Hq
namespace Hq
open PySem L2
/-! ### a comprehension with two generators, the inner list by the outer item; comprehensions over zip -/
section
variable {K : PySem.W.Frag} {E : Ent} {F H : Hp} {M M1 M2 : Ms} {Γ : Gm} {P : MP} {O : MO} {q : Addr} {te ta tb tl tl1 tk td : TE} {tr : TA} {D1 : Ends} {tu tz : TS} {t t0 u : TT} {ps : List MP} {i j : Nat}
theorem flatD_len {α β γ : Type} {ys : α → List β} {f : α → β → Bool} {G : α → β → γ} {N : Nat} : ∀ {xs : List α}, (∀ x ∈ xs, (ys x).length ≤ N) → (xs.flatMap fun x => ((ys x).filter (f x)).map (G x)).length ≤ xs.length * N
  | [], _ => Nat.zero_le _
  | x :: xs, h => by
    rw [List.flatMap_cons, List.length_append, List.length_map, List.length_cons, Nat.succ_mul]
    have h1 := List.length_filter_le (f x) (ys x)
    have h2 := flatD_len (ys := ys) (f := f) (G := G) (xs := xs) fun y hy => h y (List.mem_cons_of_mem _ hy)
    have h3 := h x List.mem_cons_self
    omega
theorem evn_lc2D {α β : Type} {xs : List α} {ys : α → List β} {N : Nat} {R : α → MP} {S : β → MP} {G : α → β → MP} (f : α → β → Bool) (hij : i ≠ j)
    (h : Ev tl Γ M (PLi K (xs.map R)) M1) (hy : ∀ x ∈ xs, (ys x).length ≤ N) (hz : (xs.length + 1) * N ≤ 50000)
    (h0 : ∀ x ∈ xs, ∀ M, EvT t0 (((Γ.set j none).set i none).set i (some (R x))) M (· = true) M)
    (h1 : ∀ x ∈ xs, ∀ M, Ev tl1 (((Γ.set j none).set i none).set i (some (R x))) M (PLi K ((ys x).map S)) M)
    (ht : ∀ x ∈ xs, ∀ y ∈ ys x, EvT t (((((Γ.set j none).set i none).set i (some (R x))).set j none).set j (some (S y))) M1 (· = f x y) M1)
    (he : ∀ x ∈ xs, ∀ y ∈ ys x, f x y = true → Ev te (((((Γ.set j none).set i none).set i (some (R x))).set j none).set j (some (S y))) M1 (G x y) M1) :
    EvN (tLc2 (iList K tl) (gName i) t0 (iList K tl1) (gName j) t te [i, j] [j]) Γ M (ML (xs.flatMap fun x => ((ys x).filter (f x)).map (G x))) M1 := fun E F σ H a b Q k => h E F σ H a b _ fun v F1 H1 e1 g1 ⟨p, vs, hp, s, q⟩ => by
  refine ⟨p, hp, ⟨vs, Evl.ex_l g1.ex s⟩, fun D2 hD => ?_⟩
  have hl : vs.length = xs.length := by have := paired_len q; rwa [List.length_map] at this
  have gn : Pt ⟨F1, H1, keys M1⟩ F1 ((D2, ML []) :: M1) (upd H1 D2 (.lst [])) := g1.enter.new hD ⟨[], rfl, .nil⟩
  refine ⟨fun n m H' => m = xs.length - n ∧ n ≤ xs.length ∧ ∃ F', Pt ⟨F1, H1, keys M1⟩ F' ((D2, ML ((xs.take n).flatMap fun x => ((ys x).filter (f x)).map (G x))) :: M1) H', ⟨_, rfl, Nat.zero_le _, F1, gn⟩, ?_⟩
  rintro n m H2 ⟨rfl, hn, F2, g2⟩
  have sl2 : SqL K H2 p vs := Evl.ex_l (g2.gr.ex.trans g2.ex) s
  rcases Nat.lt_or_ge n xs.length with hlt | hge
  case inr =>
    refine .inl ⟨⟨vs, sl2, by omega⟩, ?_⟩
    rw [List.take_of_length_le (by omega)] at g2
    exact k D2 F2 H2 (g1.fresh hD) (e1.trans g2.gr.ex) (g1.back g2)
  refine .inr ⟨⟨vs, vs[n], sl2, List.getElem?_eq_getElem (by omega)⟩, fun H' => n + 1 ≤ xs.length ∧ ∃ F', Pt ⟨F1, H1, keys M1⟩ F' ((D2, ML ((xs.take (n + 1)).flatMap fun x => ((ys x).filter (f x)).map (G x))) :: M1) H', fun H' ⟨c1, c2⟩ => ⟨_, by omega, rfl, c1, c2⟩, fun x H' y => ?_⟩
  obtain ⟨rfl, y⟩ := y
  have hx := y vs sl2
  obtain ⟨P, hP, hx2⟩ := paired_get' q hx
  have hxn : xs[n]? = some xs[n] := List.getElem?_eq_getElem hlt
  rw [List.getElem?_map, hxn] at hP
  have hP : R xs[n] = P := Option.some.inj hP
  subst hP
  have tk : xs.take (n + 1) = xs.take n ++ [xs[n]] := by rw [List.take_add_one, hxn]; rfl
  have tl : (xs.take n).length = n := by rw [List.length_take]; omega
  rw [tk]
  have xm := List.mem_of_getElem? hxn
  generalize xs[n] = z at *
  have b2 : EnvOk F2 ((wipe σ [i, j]).set i (some x)) (((Γ.set j none).set i none).set i (some (R z))) := (env_wipe2 (b.mono (e1.trans g2.gr.ex))).set i ((R z).mono g2.gr.ex hx2)
  refine ⟨wipe_out hij, ?_⟩
  refine h0 z xm _ _ F2 _ _ g2 b2 _ fun c F3 H3 e3 g3 hc => ?_
  have hc : c = true := hc
  subst hc
  rw [if_pos rfl]
  refine h1 z xm _ _ F3 _ H3 g3 (b2.mono e3) _ fun v1 F4 H4 e4 g4 ⟨p1, hp1q⟩ => ?_
  obtain ⟨vs1, hp1, s1, q1⟩ := hp1q
  have hl1 : vs1.length = (ys z).length := by have := paired_len q1; rwa [List.length_map] at this
  have b4 := b2.mono (e3.trans e4)
  refine ⟨p1, hp1, ⟨vs1, Evl.ex_l g4.ex s1⟩, ?_⟩
  have e14 : Ex F1 F4 := g4.gr.ex
  refine ⟨fun m k H' => k = (ys z).length - m ∧ m ≤ (ys z).length ∧ ∃ F', Ex F4 F' ∧ Pt ⟨F1, H1, keys M1⟩ F' ((D2, ML (((xs.take n).flatMap fun x => ((ys x).filter (f x)).map (G x)) ++ (((ys z).take m).filter (f z)).map (G z))) :: M1) H', ⟨_, rfl, Nat.zero_le _, F4, Evl.Ex.refl _, by simpa using g4⟩, ?_⟩
  rintro m k2 H5 ⟨rfl, hm, F5, e5, g5⟩
  have sl5 : SqL K H5 p1 vs1 := Evl.ex_l (e5.trans g5.ex) s1
  rcases Nat.lt_or_ge m (ys z).length with hlt2 | hge2
  case inr =>
    refine .inl ⟨⟨vs1, sl5, by omega⟩, hlt, F5, ?_⟩
    rw [List.take_of_length_le hge2] at g5
    rw [List.flatMap_append, List.flatMap_singleton]
    exact g5
  refine .inr ⟨⟨vs1, vs1[m], sl5, List.getElem?_eq_getElem (by omega)⟩, fun H' => ∃ F', Ex F4 F' ∧ Pt ⟨F1, H1, keys M1⟩ F' ((D2, ML (((xs.take n).flatMap fun x => ((ys x).filter (f x)).map (G x)) ++ (((ys z).take (m + 1)).filter (f z)).map (G z))) :: M1) H', fun H' c => ⟨_, by omega, rfl, hlt2, c⟩, fun x2 H' y2 => ?_⟩
  obtain ⟨e, y2⟩ := y2
  subst e
  have hx5 := y2 vs1 sl5
  obtain ⟨P, hP, hx6⟩ := paired_get' q1 hx5
  have hym : (ys z)[m]? = some (ys z)[m] := List.getElem?_eq_getElem hlt2
  rw [List.getElem?_map, hym] at hP
  have hP : S (ys z)[m] = P := Option.some.inj hP
  subst hP
  have tk2 := take_filter (ys z) (f z) m (ys z)[m] hym
  have ym := List.mem_of_getElem? hym
  generalize (ys z)[m] = y at *
  refine ⟨wipe_one, ?_⟩
  refine lc_turn g5 ((env_wipe (b4.mono e5)).set j ((S y).mono e5 hx6)) (ht z xm y ym) (he z xm y ym) ?_ _ fun F6 H6 e6 g6 => ⟨F6, e5.trans e6, ?_⟩
  · have l1 := flatD_len (ys := ys) (f := f) (G := G) (N := N) (xs := xs.take n) (fun x hx => hy x (List.mem_of_mem_take hx))
    rw [tl] at l1
    have l2 : n * N ≤ xs.length * N := Nat.mul_le_mul_right _ hn
    have l3 := List.length_filter_le (f z) ((ys z).take m)
    have l4 := hy z xm
    rw [List.length_append, List.length_map]
    rw [List.length_take] at l3
    rw [Nat.succ_mul] at hz
    omega
  · rw [tk2, List.map_append, ← List.append_assoc]
    cases hf : f z y
    · rw [hf] at g6; simpa using g6
    · rw [hf] at g6; simpa using g6
section
variable {γ : Type} {zs : List γ} {RA RB G : γ → MP} {f : γ → Bool}
section
variable {J : It} {Gd : Hp → Prop} {us vs : List V}
/-- a comprehension over pairs, what is walked stands by the owned things -/
theorem lc_pairsP {F1 H1 : Hp} {σ : St} {Q : VK} (hij : i ≠ j) (w : Walk J zs.length Gd (YPair (fun i => us[i]?) (fun i => vs[i]?))) (hz : zs.length ≤ 50000)
    (g1 : Pt E F1 M1 H1) (b : EnvOk F1 σ Γ) (hu : Ps F1 us (zs.map RA)) (hv : Ps F1 vs (zs.map RB)) (hG : ∀ F' H' r, Ex F1 F' → Pt ⟨F1, H1, keys M1⟩ F' (r :: M1) H' → Gd H')
    (ht : ∀ z ∈ zs, EvT t ((((Γ.set j none).set i none).set i (some (RA z))).set j (some (RB z))) M1 (· = f z) M1)
    (he : ∀ z ∈ zs, f z = true → Ev te ((((Γ.set j none).set i none).set i (some (RA z))).set j (some (RB z))) M1 (G z) M1)
    (k : ContN E F1 (ML ((zs.filter f).map G)) M1 Q) : ∀ D, H1 D = none → ∃ W : Nat → Nat → Hp → Prop, (∃ m, W 0 m (upd H1 D (.lst []))) ∧ ∀ n m H, W n m H →
      (J.stop n H ∧ Q (.ref D) H) ∨ (J.go n H ∧ ∃ Nx : Hp → Prop, (∀ H', Nx H' → ∃ m', m' < m ∧ W (n + 1) m' H') ∧ ∀ x H', J.yld n H x H' → gPair K i j x (wipe σ [i, j]) H' fun σ2 H2 => wipe σ2 [i, j] = wipe σ [i, j] ∧ t σ2 H2 fun b H3 =>
        if b = true then te σ2 H3 fun y H4 => ∃ acc, H4 D = some (.lst acc) ∧ acc.length < sizeLine ∧ Nx (upd H4 D (.lst (acc ++ [y]))) else Nx H3) := by
  intro D2 hD
  have gn : Pt ⟨F1, H1, keys M1⟩ F1 ((D2, ML []) :: M1) (upd H1 D2 (.lst [])) := g1.enter.new hD ⟨[], rfl, .nil⟩
  refine lc_it w (fun n H' => ∃ F', Pt ⟨F1, H1, keys M1⟩ F' ((D2, ML (((zs.take n).filter f).map G)) :: M1) H') ⟨F1, gn⟩ (fun n H2 _ ⟨F2, g2⟩ => hG F2 H2 _ g2.gr.ex g2) (fun n x H2 H3 hn ⟨F2, g2⟩ y => ?_) (fun H2 ⟨F2, g2⟩ => ?_)
  · obtain ⟨T, x1, y1, rfl, hT, rfl, hx1, hy1⟩ := y
    obtain ⟨PA, hPA, hxA⟩ := paired_get' hu hx1
    obtain ⟨PB, hPB, hyB⟩ := paired_get' hv hy1
    have hzn : zs[n]? = some zs[n] := List.getElem?_eq_getElem hn
    rw [List.getElem?_map, hzn] at hPA hPB
    have hPA : RA zs[n] = PA := Option.some.inj hPA
    have hPB : RB zs[n] = PB := Option.some.inj hPB
    subst hPA; subst hPB
    generalize zs[n] = z at *
    have hm := List.mem_of_getElem? hzn
    have g3 : Pt ⟨F1, H1, keys M1⟩ F2 ((D2, ML (((zs.take n).filter f).map G)) :: M1) (upd H2 T (.tup [x1, y1])) := g2.junk hT
    refine ⟨T, [x1, y1], rfl, SqT.of upd_same, rfl, x1, [y1], rfl, y1, [], rfl, rfl, wipe_two hij, ?_⟩
    refine lc_turn g3 (((env_wipe2 (b.mono g2.gr.ex)).set i ((RA z).mono g2.gr.ex hxA)).set j ((RB z).mono g2.gr.ex hyB)) (ht z hm) (he z hm) ?_ _ fun F3 H3 e3 g4 => ⟨F3, ?_⟩
    · rw [List.length_map]
      exact Nat.lt_of_le_of_lt (Nat.le_trans (List.length_filter_le _ _) (by rw [List.length_take]; omega)) (by omega : zs.length < 100000)
    · rw [take_filter zs f n z hzn, List.map_append]
      cases hf : f z
      · rw [hf] at g4; simpa using g4
      · rw [hf] at g4; simpa using g4
  · rw [List.take_length] at g2
    exact k D2 F2 H2 (g1.fresh hD) g2.gr.ex (g1.back g2)
end
/-- over zip of a list that stands and an own list of ints -/
theorem evn_lcZipLO {α : Type} {xs : List α} {hs : List Int} {RA : α → MP} {G : α × Int → MP} {f : α × Int → Bool} {j0 : Nat} (hij : i ≠ j) (hlen : xs.length = hs.length) (h1 : Ev ta Γ M (PLi K (xs.map RA)) M1) (h2 : Ev tb Γ M1 (Own q) M1) (e0 : M1[j0]? = some (q, MInts K hs)) (hz : xs.length ≤ 50000)
    (ht : ∀ z ∈ xs.zip hs, EvT t ((((Γ.set j none).set i none).set i (some (RA z.1))).set j (some (D K (.int z.2)))) M1 (· = f z) M1)
    (he : ∀ z ∈ xs.zip hs, f z = true → Ev te ((((Γ.set j none).set i none).set i (some (RA z.1))).set j (some (D K (.int z.2)))) M1 (G z) M1) :
    EvN (tLc (RZ.iZipA K (tCons ta (tCons tb tNil))) (gPair K i j) t te [i, j]) Γ M (ML (((xs.zip hs).filter f).map G)) M1 := fun E F σ H a b Q k => h1 E F σ H a b _ fun v F1 H1 e1 g1 ⟨p, vs, hp, s, qq⟩ => h2 E F1 σ H1 g1 (b.mono e1) _ fun v2 F2 H2 e2 g2 p2 => by
  have p2 : v2 = .ref q := p2
  subst p2
  have l1 : vs.length = xs.length := by have := paired_len qq; rwa [List.length_map] at this
  have qq := Ps.mono e2 qq
  have own : ∀ {E' : Ent} {F' H' : Hp} {r : Addr × MO}, Pt E' F' (r :: M1) H' → SqL K H' q (hs.map V.int) := fun {E' F' H' r} g => by
    obtain ⟨_, o, ho, ws, rfl, s⟩ := g.at (j := j0 + 1) (by simpa using e0)
    have := ints_map s
    subst this
    exact SqL.of ho
  have own2 : SqL K H2 q (hs.map V.int) := by
    obtain ⟨_, o, ho, ws, rfl, s⟩ := g2.at e0
    have := ints_map s
    subst this
    exact SqL.of ho
  refine ⟨p, q, vs, hs.map V.int, by rw [hp], .inl ⟨Evl.ex_l (e2.trans g2.ex) s, own2, ?_⟩⟩
  have lz : (xs.zip hs).length = xs.length := by rw [List.length_zip, hlen, Nat.min_self]
  refine lc_pairsP (K := K) (zs := xs.zip hs) (RA := fun z => RA z.1) (RB := fun z => D K (.int z.2)) (us := vs) (vs := hs.map V.int) hij (walk_zip (by rw [List.length_map]; omega)) (by omega) g2 (b.mono (e1.trans e2)) ?_ ?_ (fun F' H' r e g => ⟨Evl.ex_l ((e2.trans e).trans g.ex) s, own g⟩) ht he fun q F' H' f e g => k q F' H' f ((e1.trans e2).trans e) g
  · rw [show (fun z : α × Int => RA z.1) = RA ∘ Prod.fst from rfl, ← List.map_map, List.map_fst_zip (by omega)]; exact qq
  · rw [show (fun z : α × Int => D K (.int z.2)) = (fun n : Int => D K (.int n)) ∘ Prod.snd from rfl, ← List.map_map, List.map_snd_zip (by omega)]; exact map_ints hs
/-- over zip of two lists of one length -/
theorem evn_lcZipL (hij : i ≠ j) (h1 : Ev ta Γ M (PLi K (zs.map RA)) M1) (h2 : Ev tb Γ M1 (PLi K (zs.map RB)) M2) (hz : zs.length ≤ 50000)
    (ht : ∀ z ∈ zs, EvT t ((((Γ.set j none).set i none).set i (some (RA z))).set j (some (RB z))) M2 (· = f z) M2)
    (he : ∀ z ∈ zs, f z = true → Ev te ((((Γ.set j none).set i none).set i (some (RA z))).set j (some (RB z))) M2 (G z) M2) :
    EvN (tLc (RZ.iZipA K (tCons ta (tCons tb tNil))) (gPair K i j) t te [i, j]) Γ M (ML ((zs.filter f).map G)) M2 := fun E F σ H a b Q k => h1 E F σ H a b _ fun v F1 H1 e1 g1 ⟨p, vs, hp, s, q⟩ => h2 E F1 σ H1 g1 (b.mono e1) _ fun v2 F2 H2 e2 g2 ⟨p2, vs2, hp2, s2, q2⟩ => by
  have l1 : vs.length = zs.length := by have := paired_len q; rwa [List.length_map] at this
  have l2 : vs2.length = zs.length := by have := paired_len q2; rwa [List.length_map] at this
  have q := Ps.mono e2 q
  refine ⟨p, p2, vs, vs2, by rw [hp, hp2], .inl ⟨Evl.ex_l (e2.trans g2.ex) s, Evl.ex_l g2.ex s2, ?_⟩⟩
  refine lc_pairs (K := K) (zs := zs) (us := vs) (vs := vs2) hij (walk_zip (by omega)) hz g2 (b.mono (e1.trans e2)) q q2 (fun F' H' e e' => ⟨Evl.ex_l ((e2.trans e).trans e') s, Evl.ex_l (e.trans e') s2⟩) ht he fun q F' H' f e g => k q F' H' f ((e1.trans e2).trans e) g
end
theorem rv_inO {x : Int} {ns : List Int} {neg : Bool} (e : M[j]? = some (q, MInts K ns)) : RV (rIn K neg) (D K (.int x)) (Own q) M (D K (.bool (if neg then !decide (x ∈ ns) else decide (x ∈ ns)))) M := fun E F H v y a p1 p2 Q k => by
  cases dp_int p1
  have p2 : y = .ref q := p2
  subst p2
  obtain ⟨_, o, ho, ws, rfl, s⟩ := a.at e
  have e1 := ints_map s
  subst e1
  refine ⟨q, _, rfl, .inl (SqL.of ho), rfl, flat_all ns, ?_⟩
  rw [inV_ints]
  exact k _ F H (Evl.Ex.refl _) a (.bl _)
theorem q_forEnumL {α : Type} {xs : List α} {R : α → MP} (h : Ev tl Γ M (PLi K (xs.map R)) M1) (Jv : Nat → Gm → Ms → Prop) (h0 : Jv 0 Γ M1)
    (hs : ∀ E', Le E' E → ∀ n x, xs[n]? = some x → ∀ Γ' M', Jv n Γ' M' → Nx E' ((Γ'.set i (some (D K (.int n)))).set j (some (R x))) M' (tu { D1 with nx := JA E' (Jv (n + 1)), ct := JA E' (Jv (n + 1)), bk := tz D1 }))
    (hd : ∀ Γ' M', Jv xs.length Γ' M' → Nx E Γ' M' (tz D1)) : Nx E Γ M (tSeq (tFor (iEnum K (tCons tl tNil)) (gPair K i j) tu) tz D1) := go_forEnumL (D1 := { D1 with nx := tz D1 }) h Jv h0 hs hd
/-! a dict by a comprehension over ints, as the set of its keys -/
def MSet (ks : List Int) : MO := ⟨fun _ o => ∃ kvs : List (Key × V), o = .dK kvs ∧ kvs.length ≤ ks.length ∧ ∀ x : Int, (valV kvs (.inl x)).isSome = decide (x ∈ ks), fun _ h => h, fun ⟨kvs, h, _⟩ xs z => by rw [h] at z; cases z⟩
theorem put_len {kvs : List (Key × V)} {k : Key} {z : V} : (putK kvs k z).length ≤ kvs.length + 1 := by
  unfold putK
  split
  · rw [List.length_map]; omega
  · rw [List.length_append]; simp
theorem evn_dcI {xs : List Int} (h : Ev tl Γ M (PLi K (xs.map fun x => D K (.int x))) M1) (hz : xs.length ≤ 50000) (hi : i < Γ.length) :
    EvN (tDc (iList K tl) (gName i) tYes (tVar i) (tC (.bl true)) [i]) Γ M (MSet xs) M1 := fun E F σ H a b Q k => h E F σ H a b _ fun v F1 H1 e1 g1 ⟨p, vs, hp, s, q⟩ => by
  refine ⟨p, hp, ⟨vs, Evl.ex_l g1.ex s⟩, fun D2 hD => ?_⟩
  have hl : vs.length = xs.length := by have := paired_len q; rwa [List.length_map] at this
  have gn : Pt ⟨F1, H1, keys M1⟩ F1 ((D2, MSet []) :: M1) (upd H1 D2 (.dK [])) := g1.enter.new hD ⟨[], rfl, Nat.le_refl _, fun x => rfl⟩
  refine ⟨fun n m H' => m = xs.length - n ∧ n ≤ xs.length ∧ ∃ F', Pt ⟨F1, H1, keys M1⟩ F' ((D2, MSet (xs.take n)) :: M1) H', ⟨_, rfl, Nat.zero_le _, F1, gn⟩, ?_⟩
  rintro n m H2 ⟨rfl, hn, F2, g2⟩
  have sl2 : SqL K H2 p vs := Evl.ex_l (g2.gr.ex.trans g2.ex) s
  rcases Nat.lt_or_ge n xs.length with hlt | hge
  case inr =>
    refine .inl ⟨⟨vs, sl2, by omega⟩, ?_⟩
    rw [List.take_of_length_le (by omega)] at g2
    exact k D2 F2 H2 (g1.fresh hD) (e1.trans g2.gr.ex) (g1.back g2)
  refine .inr ⟨⟨vs, vs[n], sl2, List.getElem?_eq_getElem (by omega)⟩, fun H' => n + 1 ≤ xs.length ∧ ∃ F', Pt ⟨F1, H1, keys M1⟩ F' ((D2, MSet (xs.take (n + 1))) :: M1) H', fun H' ⟨c1, c2⟩ => ⟨_, by omega, rfl, c1, c2⟩, fun x H' y => ?_⟩
  obtain ⟨rfl, y⟩ := y
  have hx := y vs sl2
  obtain ⟨P, hP, hx2⟩ := paired_get' q hx
  have hxn : xs[n]? = some xs[n] := List.getElem?_eq_getElem hlt
  rw [List.getElem?_map, hxn] at hP
  have hP : D K (.int xs[n]) = P := Option.some.inj hP
  subst hP
  have tk : xs.take (n + 1) = xs.take n ++ [xs[n]] := by rw [List.take_add_one, hxn]; rfl
  rw [tk]
  have tl : (xs.take n).length = n := by rw [List.length_take]; omega
  generalize xs[n] = z at *
  have b2 : EnvOk F2 ((wipe σ [i]).set i (some x)) ((Γ.set i none).set i (some (D K (.int z)))) := (env_wipe (b.mono (e1.trans g2.gr.ex))).set i ((D K (.int z)).mono g2.gr.ex hx2)
  refine ⟨wipe_one, ?_⟩
  refine (et_yes (M := (D2, MSet (xs.take n)) :: M1) (Γ := (Γ.set i none).set i (some (D K (.int z))))) _ F2 _ _ g2 b2 _ fun c F3 H3 e3 g3 hc => ?_
  have hc : c = true := hc
  subst hc
  rw [if_pos rfl]
  refine (ev_var (i := i) (P := D K (.int z)) (by simp [hi])) _ F3 _ H3 g3 (b2.mono e3) _ fun w F4 H4 e4 g4 p4 => ?_
  refine (ev_bl (K := K) (b := true)) _ F4 _ H4 g4 (b2.mono (e3.trans e4)) _ fun w5 F5 H5 e5 g5 p5 => ?_
  cases dp_int p4
  obtain ⟨fq, o, ho, kvs, rfl, hk1, hk2⟩ := g5.at (j := 0) rfl
  refine ⟨kvs, .inl z, rfl, ho, sz_lt (by omega), hlt, F5, g5.mut (j := 0) rfl ⟨_, rfl, ?_, fun x => ?_⟩⟩
  · have := put_len (kvs := kvs) (k := .inl z) (z := w5)
    rw [List.length_append, List.length_singleton]; omega
  · rw [valV_put]
    by_cases e : x = z
    · subst e; rw [if_pos rfl]; simp
    · rw [if_neg (fun c => e (Sum.inl.inj c)), hk2 x]
      simp [e]
theorem ev_din {x : Int} {ks : List Int} (hk : Ev tk Γ M (D K (.int x)) M1) (hd : Ev td Γ M1 (Own q) M2) (e : M2[j]? = some (q, MSet ks)) : Ev (tDIn tk td) Γ M (D K (.bool (decide (x ∈ ks)))) M2 := fun E F σ H a b Q k => by
  refine hk E F σ H a b _ fun v F1 H1 e1 g1 p1 => hd E F1 σ H1 g1 (b.mono e1) _ fun y F2 H2 e2 g2 p2 => ?_
  cases dp_int p1
  have p2 : y = .ref q := p2
  subst p2
  obtain ⟨fq, o, ho, kvs, rfl, _, hkv⟩ := g2.at e
  refine ⟨q, _, rfl, DGet.k (k := .inl x) ho, ?_⟩
  rw [hkv]
  exact k _ F2 H2 (e1.trans e2) g2 (.bl _)
end
/-! a dict by a comprehension, kept under a name -/
theorem sw_dict {kx vx : PySem.Expr} {gs : List Comprehension} {scope : Scope} {pos py : Pos} {y : Str} {l : Nat} {env : Env} (hk : env.scope.kind = .function) (hy : env.scope.names.lookup y = some .local) (hl : (py.line == pos.line) = true)
    (ha : (scope.names.any fun (n, k) => n == y && (k == .local || k == .cell)) = false) : swapsWith (.DictComp kx vx gs scope pos) (some (.Name y py)) l env = pure true := by
  have ky : env.kindOf y = some .local := hy
  have hb : env.blockKind = .function := by unfold Env.blockKind; rw [hk]; rfl
  unfold swapsWith
  simp only [hb, ky, ha, Expr.pos, hl]
  rfl
section
open PySem.Spec PyProof.Rows PySem.Sem
theorem ps_setDcK {X : Cx} {i : Nat} {y : Str} {py : Pos} {kx vx tg iter : PySem.Expr} {ifs : List PySem.Expr} {scope : Scope} {own : List (Str × Nat)} {pos spos : Pos} {wi : TI} {g : TG} {tt : TT} {tk tv : TE} (hc : X.calm = true) (hN : X.N.Nodup) (hy : X.N[i]? = some y) (hyl : X.env.scope.names.lookup y = some .local)
    (hsw : swapsWith (.DictComp kx vx [⟨tg, iter, ifs, 0⟩] scope pos) (some (.Name y py)) spos.line X.env = pure true) (hi : PI X tg iter wi) (ok : BlkOk X.N X.env.scope scope own)
    (hg : ∀ (s : Shared) (H : Hp) (C : Addr) (cl : List (Str × Addr)) (fp : List Addr), PG (X.blk s H scope (compEnvC scope cl C X.env) fp) tg g) (ht : ∀ (s : Shared) (H : Hp) (C : Addr) (cl : List (Str × Addr)) (fp : List Addr), PTs (X.blk s H scope (compEnvC scope cl C X.env) fp) ifs tt)
    (hk : ∀ (s : Shared) (H : Hp) (C : Addr) (cl : List (Str × Addr)) (fp : List Addr), PE (X.blk s H scope (compEnvC scope cl C X.env) fp) kx tk)
    (he : ∀ (s : Shared) (H : Hp) (C : Addr) (cl : List (Str × Addr)) (fp : List Addr), PE (X.blk s H scope (compEnvC scope cl C X.env) fp) vx tv) (hs : ∀ x, foldedSetIterable iter X.env x = pure x := by intro _; rfl) :
    PS X (.Assign [.Name y py] (.DictComp kx vx [⟨tg, iter, ifs, 0⟩] scope pos) spos) (tAsg (tDc wi g tt tk tv (own.map (·.2))) (gName i)) := by
  refine ⟨fun pins s σ H D I h => ?_⟩
  rw [exec_Assign_Name_used _ _ _ _ hsw]
  refine wpAny_bind (wpAny_standAt (wpAny_bind ?_))
  show wpAny _ X.A (do let _ ← comprehension (.DictComp kx vx [⟨tg, iter, ifs, 0⟩] scope pos) scope X.env (firstIterPos [⟨tg, iter, ifs, 0⟩] pos) newDict false (eval iter X.env) (some (assign (.Name y py) X.env))) _ _ s
  have h : tDc wi g tt tk tv (own.map (·.2)) σ H (fun x H1 => gName i x σ H1 D.nx) := h
  refine wpAny_bind (thn (dc_core (Qf := fun _ s' => SP X pins D .next s') hc hN I hi ok hg ht hk he hs h fun L C s' m H' I' q hn f => ?_) fun _ s' hq => wpAny_pure (wpAny_pure hq))
  show wpAny _ _ (assign (.Name y py) X.env (.ref L)) _ _ _
  refine wpAny_assign_Name (store_ok2 (v := V.ref L) I' hN hy (.inl hyl) rfl (fun s2 I2 ⟨a, sb, ha⟩ => ?_) (.inr hyl))
  obtain ⟨f0, f1, f2, f3, f4, f5⟩ := f
  have haC : C ≠ a := by
    rcases ha with z | z
    · rw [z]; exact f1
    · exact fun e => f4 y a z e.symm
  refine ⟨m, hn.sameBut sb haC, fun h3 sb3 => ?_⟩
  exact ⟨_, H', I2.turned (t' := s2.toks) (fun b o hb e => (sb3.2 b hb).trans e) f0 f1 f3 f4 f5, q⟩
end
end Hq
set_option maxHeartbeats 4000000
namespace Hq
open PySem PySem.Spec PyProof.Rows L2
/-! ### tuple * int, any -/
theorem tuple_mul1 (l : Addr) (items : Array Value) (n : Nat) (dd : Option Addr) (sl : Array (Option Value)) (x : Int) (u : Tok) (c0 : (decide (x < -(2 ^ 63)) || decide (x ≥ 2 ^ 63)) = false) (c1 : (items.isEmpty || x == 1) = true) :
    Meets (Builtin.«tuple.__mul__» ⟨[.ref l, .int x u], []⟩) (fun _ R s => s.heap.get? l = some { cls := .type "tuple", dict := dd, data := .seq items n, slots := sl } ∧
      R (.ok (.ret (Value.ref l))) s) :=
  .of_wp fun prog w A R s h => by
    obtain ⟨hp, g, d, tk, os⟩ := s
    obtain ⟨hl, h⟩ := h
    have f1 := AutoSeq1.idx_int
    wp_walk using wpAny_loadPart' hl
    repeat (first
      | (refine wpAny_ite_false (decide_eq_false (by rw [c0]; exact Bool.false_ne_true)) ?_; wp_walk using wpAny_loadPart' hl)
      | (refine wpAny_ite_true (decide_eq_true (by rw [c1])) ?_; wp_walk using wpAny_loadPart' hl))
    exact ⟨_, rfl, h⟩
theorem tuple_mul0 (l : Addr) (items : Array Value) (n : Nat) (dd : Option Addr) (sl : Array (Option Value)) (x : Int) (u : Tok) (c0 : (decide (x < -(2 ^ 63)) || decide (x ≥ 2 ^ 63)) = false) (c1 : (items.isEmpty || x == 1) = false) (c2 : (decide (x ≤ 0) || items.isEmpty) = true) :
    Meets (Builtin.«tuple.__mul__» ⟨[.ref l, .int x u], []⟩) (fun _ R s => s.heap.get? l = some { cls := .type "tuple", dict := dd, data := .seq items n, slots := sl } ∧
      R (.ok (.ret (Value.ref s.heap.objs.size))) { s with heap := s.heap.push { cls := Value.type "tuple", data := Data.seq #[] }, toks := s.toks }) :=
  .of_wp fun prog w A R s h => by
    obtain ⟨hp, g, d, tk, os⟩ := s
    obtain ⟨hl, h⟩ := h
    have f1 := AutoSeq1.idx_int
    wp_walk using wpAny_loadPart' hl
    repeat (first
      | (refine wpAny_ite_false (decide_eq_false (by rw [c0]; exact Bool.false_ne_true)) ?_; wp_walk using wpAny_loadPart' hl)
      | (refine wpAny_ite_false (decide_eq_false (by rw [c1]; exact Bool.false_ne_true)) ?_; wp_walk using wpAny_loadPart' hl)
      | (refine wpAny_ite_true (decide_eq_true (by rw [c2])) ?_; wp_walk using wpAny_loadPart' hl))
    exact ⟨_, rfl, h⟩
def rRepA (K : PySem.W.Frag) : R2 := fun x y H Q => ∃ l k xs, x = .ref l ∧ y = .int k ∧ SqT K H l xs ∧ -1000 ≤ k ∧ k ≤ 1000 ∧ xs.length ≤ 1000 ∧ (xs = [] ∨ k = 1 → Q (.ref l) H) ∧ (xs ≠ [] → k ≠ 1 → ∀ p, H p = none → Q (.ref p) (upd H p (.tup (List.replicate k.toNat xs).flatten)))
theorem op_repA {X : Cx} : OpR X (binaryOp .Mult) (rRepA X.K) := by
  intro pins s σ H x y v u Q I rx ry h
  obtain ⟨l, k, xs, rfl, rfl, hT, k0, k1, hz, q1, q2⟩ := h
  by_cases big : xs ≠ [] ∧ 2 ≤ k
  · exact op_repT pins s σ H _ _ v u Q I rx ry ⟨l, k, xs, rfl, rfl, hT, big.1, big.2, k1, hz, q2 big.1 (by omega)⟩
  cases rx
  obtain ⟨t, rfl⟩ := ry
  obtain ⟨its, r, ⟨⟨cls, dd, data, sl⟩, ho, hc, n, hd⟩, hs⟩ := I.tuple hT
  simp only at hc hd
  subst hc hd
  have hle : its.length = xs.length := r.length.symm
  have c0 : (decide (k < -(2 ^ 63)) || decide (k ≥ 2 ^ 63)) = false := by
    rw [decide_eq_false (by omega), decide_eq_false (by omega)] <;> rfl
  by_cases one : xs = [] ∨ k = 1
  · have c1 : (its.toArray.isEmpty || k == 1) = true := by
      rcases one with e | e
      · rw [e] at hle
        rw [List.eq_nil_of_length_eq_zero hle]; rfl
      · rw [e]; simp
    refine wpAny_binaryOp_repeat_ref (T := "tuple") (U := "int") (by decide) ⟨_, ho, rfl⟩ (fun s' => typeIs_int s' k t) noFill_tuple_mul F.fills_int_mul F.slot_int_rmul repeat_tuple F.slot_int_index.lookup
      (call_meets F.slot_int_rmul (typeIs_int s k t) F.entry_int_rmul (F.args_int_rmul_2 _ _) (int_rmul_tuple k t l its.toArray n dd sl)
        ⟨ho, rfl, ⟨_, ho, rfl⟩, call_meets F.slot_tuple_mul ⟨_, ho, rfl⟩ F.entry_tuple_mul (F.args_tuple_mul_2 _ _) (tuple_mul1 l its.toArray n dd sl k t c0 c1) ⟨ho, ?_⟩⟩)
    exact ⟨.ref l, _, I, rfl, q1 one⟩
  · have hne : xs ≠ [] := fun e => one (.inl e)
    have k1' : k ≠ 1 := fun e => one (.inr e)
    have hkk : k ≤ 0 := by
      have : ¬ (2 ≤ k) := fun e => big ⟨hne, e⟩
      omega
    have hi : its.toArray.isEmpty = false := by
      cases its with
      | nil => exact absurd (List.eq_nil_of_length_eq_zero hle.symm) hne
      | cons a b => rfl
    have c1 : (its.toArray.isEmpty || k == 1) = false := by
      rw [hi, Bool.false_or]
      exact beq_eq_false_iff_ne.mpr k1'
    have c2 : (decide (k ≤ 0) || its.toArray.isEmpty) = true := by
      rw [decide_eq_true hkk]; rfl
    refine wpAny_binaryOp_repeat_ref (T := "tuple") (U := "int") (by decide) ⟨_, ho, rfl⟩ (fun s' => typeIs_int s' k t) noFill_tuple_mul F.fills_int_mul F.slot_int_rmul repeat_tuple F.slot_int_index.lookup
      (call_meets F.slot_int_rmul (typeIs_int s k t) F.entry_int_rmul (F.args_int_rmul_2 _ _) (int_rmul_tuple k t l its.toArray n dd sl)
        ⟨ho, rfl, ⟨_, ho, rfl⟩, call_meets F.slot_tuple_mul ⟨_, ho, rfl⟩ F.entry_tuple_mul (F.args_tuple_mul_2 _ _) (tuple_mul0 l its.toArray n dd sl k t c0 c1 c2) ⟨ho, ?_⟩⟩)
    have q := q2 hne k1'
    rw [show k.toNat = 0 by omega] at q
    refine ⟨.ref s.heap.objs.size, _, I.laid (t' := s.toks) (o := .tup []) (fun b ob q => Heap.get?_push_of_some _ q) (Nat.le_refl _) ?_, rfl, q _ (I.hok.fresh (Nat.le_refl _))⟩
    exact ⟨by rw [sizeLine_eq]; exact Nat.zero_le _, [], .nil, IsTup.new _ _⟩
theorem c_repT {K : PySem.W.Frag} {Y : Cx} (e : Y.K = K) : OpR Y (binaryOp .Mult) (rRepA K) := e ▸ op_repA
/-! ### a, b = a list of that length -/
def gLst (K : PySem.W.Frag) (n : Nat) (t : TGs) : TG := fun v σ H Q => ∃ a xs, v = .ref a ∧ SqL K H a xs ∧ xs.length = n ∧ t xs σ H Q
theorem pg_lst {X : Cx} {es : List Expr} {k : Nat} {pos : Pos} {t : TGs} {n : Nat} (hc : X.calm = true) (h : PGs X es t)
    (hn : (assignEach es X.env).length = n := by rfl) (hst : (assignEach es X.env).findIdx? (·.1) = none := by rfl) : PG X (.Tuple es k pos) (gLst X.K n t) := by
  refine ⟨fun pins s σ H v u Q I r hw => ?_⟩
  obtain ⟨a, xs, e1, hq, hl, hw⟩ := hw
  subst e1
  cases r
  obtain ⟨its, rv, ht, hz⟩ := I.list hq
  rw [assign_Tuple]
  refine wpAny_bind (wpAny_standAt ?_)
  unfold unpack
  rw [hst, show (assignEach es X.env).length = its.toArray.size by simp [hn, ← hl, rv.length]]
  refine wpAny_bind (wpAny_holding (PySem.W.kun_itemsOf (I.ok.hd hc) (by obtain ⟨o, n, h1, h2, _, h3⟩ := ht; exact ⟨o, h1, h2, n, h3⟩) fun h' hx => ?_))
  have I1 : Inv X pins σ H { s with heap := h' } := I.kept (t' := s.toks) fun b o e => hx b o (Nat.ne_of_lt (Heap.lt_size e)) e
  exact h.run pins _ σ H xs _ Q I1 (by simpa using rv) hw
theorem pg_lstK {X : Cx} {K : PySem.W.Frag} {es : List Expr} {k : Nat} {pos : Pos} {t : TGs} {n : Nat} (eK : X.K = K) (hc : X.calm = true) (h : PGs X es t)
    (hn : (assignEach es X.env).length = n := by rfl) (hst : (assignEach es X.env).findIdx? (·.1) = none := by rfl) : PG X (.Tuple es k pos) (gLst K n t) := eK ▸ pg_lst hc h hn hst
section
variable {K : PySem.W.Frag} {E : Ent} {M M1 : Ms} {Γ : Gm} {D1 : Ends} {tz : TS} {te : TE} {i j : Nat}
theorem q_unpL2 {R1 R2 : MP} (h : Ev te Γ M (PLi K [R1, R2]) M1) (k : Nx E ((Γ.set i (some R1)).set j (some R2)) M1 (tz D1)) :
    Nx E Γ M (tSeq (tAsg te (gLst K 2 (gCons (gName i) (gCons (gName j) gNil)))) tz D1) := fun σ H ⟨F, a, b⟩ => h E F σ H a b _ fun v F1 H1 e1 g1 ⟨p, vs, ev, s, q⟩ => by
  obtain ⟨y, z, rfl, hy, hz⟩ := ps2 q
  exact ⟨p, [y, z], ev, Evl.ex_l g1.ex s, rfl, y, [z], rfl, z, [], rfl, rfl, k _ _ ⟨F1, g1, ((b.mono e1).set i hy).set j hz⟩⟩
theorem rv_eqX {lo hi c : Int} : RV rEq (PIn K lo hi) (D K (.int c)) M (PEx fun b : Bool => PAn True (D K (.bool b))) M := RV.ex1 fun x => RV.an1 fun _ => rv_eqI.weak (MP.le_trans (PAn.in trivial) (PEx.in (R := fun b : Bool => PAn True (D K (.bool b))) _))
theorem rep_ints {l : List Int} : ∀ n : Nat, (List.replicate n (l.map V.int)).flatten = ((List.replicate n l).flatten).map V.int
  | 0 => rfl
  | n + 1 => by rw [List.replicate_succ, List.flatten_cons, rep_ints n, List.replicate_succ, List.flatten_cons, List.map_append]
theorem rv_repT {l : List Int} {n : Int} (hn : -1000 ≤ n ∧ n ≤ 1000) (hl : l.length ≤ 1000) : RV (rRepA K) (D K (dT l)) (D K (.int n)) M (D K (dT (List.replicate n.toNat l).flatten)) M := fun E F H x y g p1 p2 Q k => by
  cases dp_int p2
  obtain ⟨p, vs, rfl, s, q⟩ := le_dT _ _ p1
  have e1 := ints_map q
  subst e1
  refine ⟨p, n, _, rfl, rfl, Evl.ex_t g.ex s, hn.1, hn.2, by rw [List.length_map]; exact hl, fun h => ?_, fun _ _ r hr => ?_⟩
  · refine k _ F H (Evl.Ex.refl _) g (dT_le _ _ ⟨p, _, rfl, s, ?_⟩)
    have e : (List.replicate n.toNat l).flatten = l := by
      rcases h with h | h
      · have : l = [] := by simpa using h
        subst this
        induction n.toNat with
        | zero => rfl
        | succ m ih => rw [List.replicate_succ, List.flatten_cons, ih]; rfl
      · rw [h]; simp
    rw [e]
    exact map_ints _
  · refine k _ _ _ (Evl.Ex.new (Evl.fresh_back g.ex hr)) (g.laid hr) (dT_le _ _ ⟨r, _, rfl, SqT.of upd_same, ?_⟩)
    rw [rep_ints]
    exact map_ints _
end
end Hq
namespace Hq
open PySem L2
section
variable {K : PySem.W.Frag} {E : Ent} {F H : Hp} {M M1 M2 : Ms} {Γ : Gm} {P P1 : MP} {O : MO} {q : Addr} {te ta tb tl tk : TE} {tr : TA} {D1 : Ends} {tu tz : TS} {t u : TT} {ps : List MP} {i j : Nat} {l : List Int}
/-! ### comprehensions with a drawn test -/
theorem lc_turnX {Γ2 : Gm} {σ2 : St} {D2 : Addr} {ps : List MP} {B : Bool → Prop} {F1 H1 : Hp} (g1 : Pt E F1 ((D2, ML ps) :: M) H1) (bo : EnvOk F1 σ2 Γ2) (ht : EvT t Γ2 M B M) (he : B true → Ev te Γ2 M P M) (hz : ps.length < 100000) (Nxt : Hp → Prop)
    (hN : ∀ b F2 H2, B b → Ex F1 F2 → Pt E F2 ((D2, ML (if b = true then ps ++ [P] else ps)) :: M) H2 → Nxt H2) : t σ2 H1 fun c H3 => if c = true then te σ2 H3 fun y H4 => ∃ acc, H4 D2 = some (.lst acc) ∧ acc.length < sizeLine ∧ Nxt (upd H4 D2 (.lst (acc ++ [y]))) else Nxt H3 := by
  have gM : Pt ⟨F1, H1, keys M⟩ F1 M H1 := Pt.start (g1.drop (List.sublist_cons_self _ _)).wd
  have nk : D2 ∉ keys M := (List.nodup_cons.mp (show (D2 :: keys M).Nodup from g1.wd.nd)).1
  obtain ⟨fD, o, hD, ws, rfl, s⟩ := g1.at (j := 0) rfl
  have up : ∀ {F' H'}, Pt ⟨F1, H1, keys M⟩ F' M H' → Pt E F' ((D2, ML ps) :: M) H' := fun {F' H'} g => by
    have hh : F' D2 = none := g.gr.off D2 fD (show H1 D2 ≠ none by rw [hD]; exact fun z => by cases z) (fun xs z => by have z : H1 D2 = some (HO.tup xs) := z; rw [hD] at z; cases z)
    have hd : H' D2 = some (.lst ws) := g.gr.keep D2 _ nk hD
    have big : Pt ⟨F1, H1, keys ((D2, ML ps) :: M)⟩ F' ((D2, ML ps) :: M) H' := by
      refine ⟨⟨g.gr.ex, fun a u h1 h2 => g.gr.keep a u (fun z => h1 (List.mem_cons_of_mem _ z)) h2, g.gr.off, g.gr.stay, g.gr.nott⟩, ⟨g.wd.ex, List.nodup_cons.mpr ⟨nk, g.wd.nd⟩, fun r hr => ?_⟩, fun r hr => ?_⟩
      · rcases List.mem_cons.mp hr with e | hm
        · subst e; exact ⟨hh, _, hd, ws, rfl, s.mono g.gr.ex⟩
        · exact g.wd.own r hm
      · rcases List.mem_cons.mp hr with e | hm
        · subst e; exact .inl List.mem_cons_self
        · rcases g.fr r hm with z | z
          · exact .inl (List.mem_cons_of_mem _ z)
          · exact .inr z
    exact g1.back big
  refine ht _ F1 σ2 H1 gM bo _ fun c F3 H3 e3 g3 hc => ?_
  cases c with
  | true =>
    refine he hc _ F3 σ2 H3 g3 (bo.mono e3) _ fun y F4 H4 e4 g4 p4 => ?_
    have g5 := up g4
    obtain ⟨_, o5, h5, ws5, rfl, s5⟩ := g5.at (j := 0) rfl
    refine ⟨ws5, h5, sz_lt (by rw [paired_len s5]; exact hz), ?_⟩
    exact hN true F4 _ hc (e3.trans e4) (g5.mut (j := 0) (O' := ML (ps ++ [P])) rfl ⟨_, rfl, paired_app s5 (.cons p4 .nil)⟩)
  | false => exact hN false F3 _ hc e3 (up g3)
theorem evn_lcRD {z : Int} {G : Nat → MP} (h : EvA tr Γ M [D K (.int z)] M1) (hz : z ≤ 50000 ∧ -50000 ≤ z)
    (ht : ∀ x : Nat, (x : Int) < z → EvT t ((Γ.set i none).set i (some (D K (.int x)))) M1 (fun _ => True) M1) (he : ∀ x : Nat, (x : Int) < z → Ev te ((Γ.set i none).set i (some (D K (.int x)))) M1 (G x) M1) :
    EvN (tLc (iRng1 tr) (gName i) t te [i]) Γ M (MX fun L : List Nat => MA (L.Sublist (List.range z.toNat)) (ML (L.map G))) M1 := fun E F σ H a b Q k => h E F σ H a b _ fun vs F1 H1 e1 g1 p => by
  obtain ⟨v, rfl, hv⟩ := ps1 p
  cases dp_int hv
  refine ⟨z, rfl, by omega, by omega, fun D2 hD => ?_⟩
  have gn : Pt ⟨F1, H1, keys M1⟩ F1 ((D2, ML []) :: M1) (upd H1 D2 (.lst [])) := g1.enter.new hD ⟨[], rfl, .nil⟩
  refine lc_range (lo := 0) (n := z.toNat) (fun n H' => ∃ F' L, L.Sublist (List.range n) ∧ Pt ⟨F1, H1, keys M1⟩ F' ((D2, ML (L.map G)) :: M1) H') ⟨F1, [], List.nil_sublist _, gn⟩ (fun n H2 hn ⟨F2, L, hL, g2⟩ => ⟨wipe_one, ?_⟩) (fun H2 ⟨F2, L, hL, g2⟩ => ?_)
  · have e0 : (0 : Int) + (n : Int) = (n : Int) := Int.zero_add _
    rw [e0]
    have hn2 : (n : Int) < z := by omega
    have hl := hL.length_le
    rw [List.length_range] at hl
    refine lc_turnX g2 ((env_wipe (b.mono (e1.trans g2.gr.ex))).set i (P := D K (.int n)) (.int _)) (ht n hn2) (fun _ => he n hn2) (by rw [List.length_map]; omega) _ fun b F3 H3 _ e3 g3 => ?_
    cases b with
    | true => exact ⟨F3, L ++ [n], by rw [List.range_succ]; exact hL.append (List.Sublist.refl _), by rw [List.map_append]; exact g3⟩
    | false => exact ⟨F3, L, by rw [List.range_succ]; exact hL.trans (List.sublist_append_left _ _), g3⟩
  · exact k D2 F2 H2 (g1.fresh hD) (e1.trans g2.gr.ex) ((g1.back g2).to (j := 0) (O' := MX fun L : List Nat => MA (L.Sublist (List.range z.toNat)) (ML (L.map G))) (fun F o p => ⟨L, hL, p⟩) rfl)
/-! xs[::-1] -/
theorem c_revL {Y : Cx} {e : PySem.Expr} {k : Nat} {p1 p2 p3 pos : Pos} (eK : Y.K = K) (he : PE Y e te) : PE Y (.Subscript e (.Slice none none (some (.UnaryOp .USub (.Constant (.int 1) k p1) p2)) p3) pos) (tRevL K te) := eK ▸ pe_revL he
theorem evn_revL (h : Ev te Γ M (PLi K ps) M1) : EvN (tRevL K te) Γ M (ML ps.reverse) M1 := fun E F σ H a b Q k => h E F σ H a b _ fun v F1 H1 e1 g1 ⟨p, vs, hv, s, q⟩ => by
  refine ⟨p, vs, hv, Evl.ex_l g1.ex s, fun r hr => k r F1 _ (g1.fresh hr) e1 (g1.new hr ⟨vs.reverse, rfl, ?_⟩)⟩
  have key : ∀ {xs : List V} {ys : List MP}, Ps F1 xs ys → Ps F1 xs.reverse ys.reverse := fun {xs ys} h => by
    induction h with
    | nil => exact .nil
    | cons a t ih => rw [List.reverse_cons, List.reverse_cons]; exact paired_app ih (.cons a .nil)
  exact key q
/-- xs[i], i drawn -/
theorem rv_ixX {α : Type} {f : α → PyData} {xs : List α} : RV (rIx K) (D K (.list (xs.map f))) (PIn K 0 (xs.length : Int)) M (PEx fun x : α => PAn (x ∈ xs) (D K (f x))) M := RV.ex2 fun z => RV.an2 fun hz => by
  obtain ⟨n, rfl⟩ := Int.eq_ofNat_of_zero_le hz.1
  have hn : n < xs.length := by omega
  exact (rv_ixDL (ds := xs.map f) (d := f xs[n]) (by omega) (by rw [Int.toNat_natCast, List.getElem?_map, List.getElem?_eq_getElem hn]; rfl)).weak (MP.le_trans (PAn.in (List.getElem_mem hn)) (PEx.in (R := fun x : α => PAn (x ∈ xs) (D K (f x))) xs[n]))
theorem rv_gtX {lo hi c : Int} : RV (rI0 fun i j => .bl (decide (i > j))) (PIn K lo hi) (D K (.int c)) M (PEx fun b : Bool => PAn True (D K (.bool b))) M := RV.ex1 fun x => RV.an1 fun _ => (rv_b0 (g := fun i j => decide (i > j))).weak (MP.le_trans (PAn.in trivial) (PEx.in (R := fun b : Bool => PAn True (D K (.bool b))) _))
end
end Hq
namespace Hq
open PySem L2
def MAny : MO := ⟨fun _ o => ∀ xs, o ≠ .tup xs, fun _ h => h, fun h => h⟩
/-- what is wanted if an exception of the class at C leaves -/
def RtE (E : Ent) (M : Ms) (C : Addr) (X : XK) : Prop := ∀ F H, Pt E F M H → X (.ref C) none H
section
variable {K : PySem.W.Frag} {E E0 : Ent} {F H : Hp} {M M1 M2 M' : Ms} {Γ : Gm} {P P1 : MP} {O O' : MO} {q : Addr} {te ta tb tl tk : TE} {tr : TA} {D1 : Ends} {tu tz : TS} {t u : TT} {ps : List MP} {i j : Nat} {C Cx : Addr} {X : XK} {sp : Sp}
theorem RtE.drop (s : List.Sublist M M') (h : RtE E M C X) : RtE E M' C X := fun F H a => h F H (a.drop s)
theorem RtE.le (l : Le E E0) (h : RtE E0 M C X) : RtE E M C X := fun F H a => h F H (l.to _ _ _ a)
theorem RtE.any (h : RtE E [(q, MAny)] C X) (e : M[j]? = some (q, O)) : RtE E M C X := fun F H a => by
  have s : List.Sublist [(q, O)] M := List.singleton_sublist.mpr (List.mem_of_getElem? e)
  exact h F H ((a.drop s).to (j := 0) (O' := MAny) (fun _ _ h => O.nt h) rfl)
theorem go_raise (k : RtE E M C X) : Nx E Γ M (fun σ H => X (.ref C) none H) := fun σ H ⟨F, a, b⟩ => k F H a
/-- f(..) as a statement, f may raise -/
theorem q_callB {ok : Bool} (h : EvA tr Γ M ps M1) (hs : ∀ vs H Q X, (∃ F, Wd F [] H ∧ Ps F vs ps ∧ (ok = true → Rt ⟨F, H, keys []⟩ [] P Q) ∧ (ok = false → RtE ⟨F, H, keys []⟩ [] Cx X)) → sp vs H Q X)
    (k1 : ok = true → Nx E Γ M1 D1.nx) (k2 : ok = false → RtE E M1 Cx X) : Nx E Γ M (tDrop (tCall sp [] X tr) D1) := fun σ H ⟨F, a, b⟩ => h E F σ H a b _ fun vs F1 H1 e1 a1 p1 => by
  show sp (vs ++ []) H1 _ X
  rw [List.append_nil]
  have w : Wd F1 [] H1 := ⟨a1.wd.ex, List.nodup_nil, fun r hr => by cases hr⟩
  have fr : ∀ {F' H'}, Pt ⟨F1, H1, keys []⟩ F' [] H' → Pt E F' M1 H' := fun g => a1.frame g (fun z hz => by cases hz) rfl fun r hr => .inl ⟨fun z => (by cases z), hr⟩
  exact hs vs H1 _ X ⟨F1, w, p1, fun e v F' H' g hv => k1 e σ H' ⟨F', fr g, b.mono (e1.trans g.gr.ex)⟩, fun e F' H' g => k2 e F' H' (fr g)⟩
/-- C(..) that raises -/
theorem make_no (h : EvA tr Γ M ps M1) (hs : ∀ x vs H Q X, (∃ F, Wd F [(x, MOb C [])] H ∧ Ps F vs (Own x :: ps) ∧ RtE ⟨F, H, keys [(x, MOb C [])]⟩ [(x, MAny)] Cx X) → sp vs H Q X) (k : RtE E M1 Cx X) : Nx E Γ M (tRet (tMake C sp [] X tr) D1) := fun σ H ⟨F, a, b⟩ => h E F σ H a b _ fun vs F1 H1 e1 a1 p1 => fun x dx hx hdx hne => by
  have hx2 : upd H1 dx (.own x) x = none := by rw [upd_ne hne.symm]; exact hx
  have g2 : Pt E F1 ((x, MOb C []) :: M1) (upd (upd H1 dx (.own x)) x (.ins C dx [])) := (a1.junk hdx).new hx2 ⟨dx, [], rfl, .nil⟩
  show sp (V.ref x :: (vs ++ [])) _ _ X
  rw [List.append_nil]
  refine hs x (.ref x :: vs) _ _ X ⟨F1, ⟨g2.ex, by simp [keys], fun r hr => ?_⟩, .cons rfl p1, fun F' H' g => k F' H' ?_⟩
  · rw [List.mem_singleton.mp hr]; exact g2.wd.own _ List.mem_cons_self
  · refine (g2.frame (M' := (x, MAny) :: M1) g (fun z hz => ?_) rfl fun r hr => ?_).drop (List.sublist_cons_self _ _)
    · rw [List.mem_singleton.mp hz]; exact List.mem_cons_self
    · rcases List.mem_cons.mp hr with z | z
      · rw [z]; exact .inr List.mem_cons_self
      · exact .inl ⟨fun w => (List.nodup_cons.mp (show (x :: keys M1).Nodup from g2.wd.nd)).1 (by rw [show x = r.1 from (List.mem_singleton.mp w).symm]; exact List.mem_map_of_mem (f := (·.1)) z), List.mem_cons_of_mem _ z⟩
/-- try: return C(..) except X: return None -/
theorem try_no {c : Value} {Wout : WX} (he : PySem.W.exmOne K (.ref Cx) c = some true) (l : Le E E0) (k : Rt E0 M (D K .none) D1.rt) : RtE E M Cx (fun cls d H => ∀ σ, wOnly K c (fun _ _ _ => tRet (tC .non)) Wout D1 cls d σ H) := fun F H a σ => ⟨true, he, fun _ _ _ => k .non F H (l.to _ _ _ a) .non, fun z => by cases z⟩
theorem exm_self {S : Addr} (h1 : PySem.W.subIn K (.ref S) (.type "BaseException") = some true) (h2 : PySem.W.isClsIn K S = true) (h3 : PySem.W.typeIn K (.ref S) = some (.type "type")) (h4 : PySem.W.subIn K (.ref S) (.ref S) = some true) :
    PySem.W.exmOne K (.ref S) (.ref S) = some true := by
  have e1 : (PySem.W.subIn K (.ref S) (.type "BaseException") == some true) = true := by rw [h1] <;> rfl
  have e2 : ((PySem.W.clsIn K S).isSome && PySem.W.typeIn K (.ref S) == some (.type "type")) = true := by
    have h2' : (PySem.W.clsIn K S).isSome = true := h2
    rw [h2', h3] <;> rfl
  show (if (PySem.W.subIn K (.ref S) (.type "BaseException") == some true) = true then (if ((PySem.W.clsIn K S).isSome && PySem.W.typeIn K (.ref S) == some (.type "type")) = true then PySem.W.subIn K (.ref S) (.ref S) else none) else none) = some true
  rw [if_pos e1, if_pos e2]
  exact h4
end
end Hq
namespace Hq
open PySem L2
section
variable {K : PySem.W.Frag} {E E0 : Ent} {F H : Hp} {M M1 M2 M' : Ms} {Γ : Gm} {P P1 : MP} {O O' : MO} {q : Addr} {te ta tb tl tk : TE} {tr : TA} {D1 : Ends} {tu tz : TS} {t u : TT} {ps : List MP} {i j : Nat}
variable {γ : Type} {zs : List γ} {RA RB G : γ → MP} {f : γ → Bool}
/-! ### walks over pairs that stand -/
theorem evn_lcLP (hij : i ≠ j) (h : Ev tl Γ M (PLi K (zs.map fun z => PTu K [RA z, RB z])) M1) (hz : zs.length ≤ 50000)
    (ht : ∀ z ∈ zs, EvT t ((((Γ.set j none).set i none).set i (some (RA z))).set j (some (RB z))) M1 (· = f z) M1)
    (he : ∀ z ∈ zs, f z = true → Ev te ((((Γ.set j none).set i none).set i (some (RA z))).set j (some (RB z))) M1 (G z) M1) :
    EvN (tLc (iList K tl) (gPair K i j) t te [i, j]) Γ M (ML ((zs.filter f).map G)) M1 := fun E F σ H a b Q k => h E F σ H a b _ fun v F1 H1 e1 g1 ⟨p, vs, hp, s, q⟩ => by
  refine ⟨p, hp, ⟨vs, Evl.ex_l g1.ex s⟩, fun D2 hD => ?_⟩
  have gn : Pt ⟨F1, H1, keys M1⟩ F1 ((D2, ML []) :: M1) (upd H1 D2 (.lst [])) := g1.enter.new hD ⟨[], rfl, .nil⟩
  refine lc_list (xs := vs) (fun n H' => ∃ F', Pt ⟨F1, H1, keys M1⟩ F' ((D2, ML (((zs.take n).filter f).map G)) :: M1) H') ⟨F1, gn⟩ (fun n H2 _ ⟨F2, g2⟩ => Evl.ex_l (g2.gr.ex.trans g2.ex) s) (fun n x H2 hx ⟨F2, g2⟩ => ?_) (fun H2 ⟨F2, g2⟩ => ?_)
  · obtain ⟨P, hP, hx2⟩ := paired_get' q hx
    rw [List.getElem?_map] at hP
    cases hy : zs[n]? with
    | none => rw [hy] at hP; cases hP
    | some z =>
      rw [hy] at hP
      have hP : PTu K [RA z, RB z] = P := Option.some.inj hP
      subst hP
      have hm := List.mem_of_getElem? hy
      obtain ⟨T, us, rfl, hT, hu⟩ := hx2
      obtain ⟨x1, y1, rfl, hxA, hyB⟩ := ps2 hu
      refine ⟨T, [x1, y1], rfl, Evl.ex_t (g2.gr.ex.trans g2.ex) hT, rfl, x1, [y1], rfl, y1, [], rfl, rfl, wipe_two hij, ?_⟩
      refine lc_turn g2 (((env_wipe2 (b.mono (e1.trans g2.gr.ex))).set i ((RA z).mono g2.gr.ex hxA)).set j ((RB z).mono g2.gr.ex hyB)) (ht z hm) (he z hm) ?_ _ fun F3 H3 e3 g3 => ⟨F3, ?_⟩
      · rw [List.length_map]
        exact Nat.lt_of_le_of_lt (Nat.le_trans (List.length_filter_le _ _) (by rw [List.length_take]; omega)) (by omega : zs.length < 100000)
      · rw [take_filter zs f n z hy, List.map_append]
        cases hf : f z
        · rw [hf] at g3; simpa using g3
        · rw [hf] at g3; simpa using g3
  · rw [paired_len q, List.length_map, List.take_length] at g2
    exact k D2 F2 H2 (g1.fresh hD) (e1.trans g2.gr.ex) (g1.back g2)
theorem evn_lcTP (hij : i ≠ j) (h : Ev tl Γ M (PTu K (zs.map fun z => PTu K [RA z, RB z])) M1) (hz : zs.length ≤ 50000)
    (ht : ∀ z ∈ zs, EvT t ((((Γ.set j none).set i none).set i (some (RA z))).set j (some (RB z))) M1 (· = f z) M1)
    (he : ∀ z ∈ zs, f z = true → Ev te ((((Γ.set j none).set i none).set i (some (RA z))).set j (some (RB z))) M1 (G z) M1) :
    EvN (tLc (iTup K tl) (gPair K i j) t te [i, j]) Γ M (ML ((zs.filter f).map G)) M1 := fun E F σ H a b Q k => h E F σ H a b _ fun v F1 H1 e1 g1 ⟨p, vs, hp, s, q⟩ => by
  refine ⟨p, hp, ⟨vs, Evl.ex_t g1.ex s⟩, fun D2 hD => ?_⟩
  have gn : Pt ⟨F1, H1, keys M1⟩ F1 ((D2, ML []) :: M1) (upd H1 D2 (.lst [])) := g1.enter.new hD ⟨[], rfl, .nil⟩
  refine lc_tup (xs := vs) (fun n H' => ∃ F', Pt ⟨F1, H1, keys M1⟩ F' ((D2, ML (((zs.take n).filter f).map G)) :: M1) H') ⟨F1, gn⟩ (fun n H2 _ ⟨F2, g2⟩ => Evl.ex_t (g2.gr.ex.trans g2.ex) s) (fun n x H2 hx ⟨F2, g2⟩ => ?_) (fun H2 ⟨F2, g2⟩ => ?_)
  · obtain ⟨P, hP, hx2⟩ := paired_get' q hx
    rw [List.getElem?_map] at hP
    cases hy : zs[n]? with
    | none => rw [hy] at hP; cases hP
    | some z =>
      rw [hy] at hP
      have hP : PTu K [RA z, RB z] = P := Option.some.inj hP
      subst hP
      have hm := List.mem_of_getElem? hy
      obtain ⟨T, us, rfl, hT, hu⟩ := hx2
      obtain ⟨x1, y1, rfl, hxA, hyB⟩ := ps2 hu
      refine ⟨T, [x1, y1], rfl, Evl.ex_t (g2.gr.ex.trans g2.ex) hT, rfl, x1, [y1], rfl, y1, [], rfl, rfl, wipe_two hij, ?_⟩
      refine lc_turn g2 (((env_wipe2 (b.mono (e1.trans g2.gr.ex))).set i ((RA z).mono g2.gr.ex hxA)).set j ((RB z).mono g2.gr.ex hyB)) (ht z hm) (he z hm) ?_ _ fun F3 H3 e3 g3 => ⟨F3, ?_⟩
      · rw [List.length_map]
        exact Nat.lt_of_le_of_lt (Nat.le_trans (List.length_filter_le _ _) (by rw [List.length_take]; omega)) (by omega : zs.length < 100000)
      · rw [take_filter zs f n z hy, List.map_append]
        cases hf : f z
        · rw [hf] at g3; simpa using g3
        · rw [hf] at g3; simpa using g3
  · rw [paired_len q, List.length_map, List.take_length] at g2
    exact k D2 F2 H2 (g1.fresh hD) (e1.trans g2.gr.ex) (g1.back g2)
/-- for a, b in a list of pairs -/
theorem go_forLP (h : Ev tl Γ M (PLi K (zs.map fun z => PTu K [RA z, RB z])) M1) (J : Nat → Gm → Ms → Prop) (h0 : J 0 Γ M1)
    (hs : ∀ E', Le E' E → ∀ n z, zs[n]? = some z → ∀ Γ' M', J n Γ' M' → Nx E' ((Γ'.set i (some (RA z))).set j (some (RB z))) M' (tu { D1 with nx := JA E' (J (n + 1)), ct := JA E' (J (n + 1)), bk := D1.nx }))
    (hd : ∀ Γ' M', J zs.length Γ' M' → Nx E Γ' M' D1.nx) : Nx E Γ M (tFor (iList K tl) (gPair K i j) tu D1) := fun σ H ⟨F, a, b⟩ => h E F σ H a b _ fun v F1 H1 e1 g1 ⟨p, vs, hp, s, q⟩ => by
  refine ⟨p, hp, ⟨vs, Evl.ex_l g1.ex s⟩, for_list (xs := vs) (fun n σ H => JA ⟨F1, H1, keys M1⟩ (J n) σ H) ⟨Γ, M1, h0, F1, g1.enter, b.mono e1⟩ (fun n σ2 H2 _ ⟨Γ', M', _, F2, g2, _⟩ => Evl.ex_l (g2.gr.ex.trans g2.ex) s)
    (fun n x σ2 H2 hx ⟨Γ', M', hJ, F2, g2, b2⟩ => ?_) (fun σ2 H2 hJ => ?_)⟩
  · obtain ⟨P, hP, hx2⟩ := paired_get' q hx
    rw [List.getElem?_map] at hP
    obtain ⟨z, hz, rfl⟩ := Option.map_eq_some_iff.mp hP
    obtain ⟨T, us, rfl, hT, hu⟩ := hx2
    obtain ⟨x1, y1, rfl, hxA, hyB⟩ := ps2 hu
    exact ⟨T, [x1, y1], rfl, Evl.ex_t (g2.gr.ex.trans g2.ex) hT, rfl, x1, [y1], rfl, y1, [], rfl, rfl, hs ⟨F1, H1, keys M1⟩ g1.le n z hz Γ' M' hJ _ _ ⟨F2, g2, (b2.set i ((RA z).mono g2.gr.ex hxA)).set j ((RB z).mono g2.gr.ex hyB)⟩⟩
  · rw [paired_len q, List.length_map] at hJ
    obtain ⟨Γ', M', hJ, at2⟩ := hJ
    exact hd Γ' M' hJ _ _ (at2.le g1.le)
theorem q_forLP (h : Ev tl Γ M (PLi K (zs.map fun z => PTu K [RA z, RB z])) M1) (J : Nat → Gm → Ms → Prop) (h0 : J 0 Γ M1)
    (hs : ∀ E', Le E' E → ∀ n z, zs[n]? = some z → ∀ Γ' M', J n Γ' M' → Nx E' ((Γ'.set i (some (RA z))).set j (some (RB z))) M' (tu { D1 with nx := JA E' (J (n + 1)), ct := JA E' (J (n + 1)), bk := tz D1 }))
    (hd : ∀ Γ' M', J zs.length Γ' M' → Nx E Γ' M' (tz D1)) : Nx E Γ M (tSeq (tFor (iList K tl) (gPair K i j) tu) tz D1) := go_forLP (D1 := { D1 with nx := tz D1 }) h J h0 hs hd
/-- data pairs -/
theorem le_pair {α : Type} {a b : α → PyData} {zs : List α} : (D K (.list (zs.map fun z => .tuple [a z, b z]))).le (PLi K (zs.map fun z => PTu K [D K (a z), D K (b z)])) := fun F v h => by
  obtain ⟨p, vs, e, s, q⟩ := le_Lm (f := fun z => PyData.tuple [a z, b z]) F v h
  refine ⟨p, vs, e, s, ?_⟩
  have key : ∀ {vs : List V} {zs : List α}, Ps F vs (zs.map fun z => D K (.tuple [a z, b z])) → Ps F vs (zs.map fun z => PTu K [D K (a z), D K (b z)]) := fun {vs zs} => by
    induction zs generalizing vs with
    | nil => intro h; cases h; exact .nil
    | cons z zs ih => intro h; cases h with | cons h t => exact .cons (D_PTu (ds := [a z, b z]) F _ h) (ih t)
  exact key q
theorem le_pairT {α : Type} {a b : α → PyData} {zs : List α} : (D K (.tuple (zs.map fun z => .tuple [a z, b z]))).le (PTu K (zs.map fun z => PTu K [D K (a z), D K (b z)])) := fun F v h => by
  obtain ⟨p, vs, e, s, q⟩ := le_Tm (f := fun z => PyData.tuple [a z, b z]) F v h
  refine ⟨p, vs, e, s, ?_⟩
  have key : ∀ {vs : List V} {zs : List α}, Ps F vs (zs.map fun z => D K (.tuple [a z, b z])) → Ps F vs (zs.map fun z => PTu K [D K (a z), D K (b z)]) := fun {vs zs} => by
    induction zs generalizing vs with
    | nil => intro h; cases h; exact .nil
    | cons z zs ih => intro h; cases h with | cons h t => exact .cons (D_PTu (ds := [a z, b z]) F _ h) (ih t)
  exact key q
/-! slices of an own list of any items -/
theorem evn_slML {lo hi : Option Int} {tl th : TO} (ho : Ev ta Γ M (Own q) M) (h1 : EvP tl Γ M lo) (h2 : EvP th Γ M hi) (e : M[j]? = some (q, ML ps)) : EvN (tSl (rSlL K) ta tl th) Γ M (ML (cutG ps lo hi)) M := fun E F σ H a b Q k =>
  ho E F σ H a b _ fun v F1 H1 e1 g1 p1 => h1 E F1 σ H1 g1 (b.mono e1) _ fun F2 H2 e2 g2 => h2 E F2 σ H2 g2 (b.mono (e1.trans e2)) _ fun F3 H3 e3 g3 => by
    have p1 : v = .ref q := p1
    subst p1
    obtain ⟨fq, o, ho3, vs, rfl, s⟩ := g3.at e
    refine ⟨q, vs, rfl, SqL.of ho3, fun r hr => ?_⟩
    refine k r F3 _ (g3.fresh hr) ((e1.trans e2).trans e3) (g3.new hr ⟨cutV vs lo hi, rfl, ?_⟩)
    have hl : vs.length = ps.length := paired_len s
    unfold cutV cutG
    rw [hl]
    exact paired_take _ (paired_drop _ s)
end
end Hq
namespace Hq
open PySem L2
section
variable {K : PySem.W.Frag} {E E0 : Ent} {F H : Hp} {M M1 M2 M' : Ms} {Γ : Gm} {P P1 : MP} {O O' : MO} {q : Addr} {te ta tb tl tk : TE} {tr : TA} {D1 : Ends} {tu tz : TS} {t u : TT} {ps : List MP} {i j : Nat} {C Cx : Addr} {X : XK} {sp : Sp} {f m : Str} {fps : List (Str × MP)}
/-- a pair as data -/
theorem enc_pair {α β : Type} [DecidableEq α] [DecidableEq β] {f : α → PyData} {g : β → PyData} {n m : Nat} (a : Enc f n) (b : Enc g m) : Enc (fun x : α × β => PyData.tuple [f x.1, g x.2]) (max n m + 1) := ⟨fun x y => by
  show (PyData.eqv (f x.1) (f y.1) && (PyData.eqv (g x.2) (g y.2) && true)) = _
  rw [a.eq, b.eq, Bool.and_true, Bool.eq_iff_iff, Bool.and_eq_true, decide_eq_true_iff, decide_eq_true_iff, decide_eq_true_iff]
  exact ⟨fun h => Prod.ext h.1 h.2, fun h => by rw [h]; exact ⟨rfl, rfl⟩⟩, fun x => by
  show (PyData.canLay0 (f x.1) && (PyData.canLay0 (g x.2) && true)) = true
  rw [a.lay, b.lay]; rfl, fun x => by
  have h1 := a.deep x.1
  have h2 := b.deep x.2
  simp only [PyData.depth, PyData.depthAll]
  omega⟩
/-- self.f += e -/
theorem go_fldAugI {x y : Int} (ho : Ev ta Γ M (Own q) M) (e : M[j]? = some (q, MOb C fps)) (hz : fps.length < 99) (i : Nat) (hi : fps[i]? = some (f, D K (.int x))) (hf : ∀ g ∈ fps.take i, g.1 ≠ f) (hc : Cls K C) (hn : NoAttr K C f) (hv : Ev tb Γ M (D K (.int y)) M)
    (k : Nx E Γ (M.set j (q, MOb C (fps.set i (f, D K (.int (x + y)))))) D1.nx) : Nx E Γ M (sFldAug K ta tb rAdd f D1) := fun σ H ⟨F, a, b⟩ => ho E F σ H a b _ fun v F1 H1 e1 g1 p1 => by
  have p1 : v = .ref q := p1
  subst p1
  obtain ⟨_, o, ho1, dx, fs, rfl, h3⟩ := g1.at e
  obtain ⟨w, hw, pw⟩ := fo_look h3 hi hf
  cases dp_int pw
  refine ⟨q, C, dx, fs, _, rfl, ho1, hc, hn, hw, ?_⟩
  refine hv E F1 σ H1 g1 (b.mono e1) _ fun z F2 H2 e2 g2 p2 => ?_
  cases dp_int p2
  obtain ⟨_, o2, ho2, dx2, fs2, rfl, h4⟩ := g2.at e
  have := fo_len h4
  have fin : Nx E Γ (M.set j (q, MOb C (fps.set i (f, D K (.int (x + y)))))) D1.nx := k
  refine ⟨x, y, rfl, rfl, dx2, fs2, ho2, by omega, ?_⟩
  exact k _ _ ⟨F2, g2.mut e ⟨dx2, _, rfl, fo_set h4 hi hf (.int _)⟩, b.mono (e1.trans e2)⟩
/-- o.m(..) that raises -/
theorem meth_no (ho : Ev ta Γ M (Own q) M) (e0 : M[j]? = some (q, MOb C fps)) (hn : ∀ g ∈ fps, g.1 ≠ m) (h : EvA tr Γ M ps M) (hs : ∀ vs H Q X, (∃ F, Wd F [(q, MOb C fps)] H ∧ Ps F vs (Own q :: ps) ∧ RtE ⟨F, H, keys [(q, MOb C fps)]⟩ [(q, O')] Cx X) → sp vs H Q X)
    (k : RtE E (M.set j (q, O')) Cx X) {Qs : St → VK} : Nx E Γ M (fun σ H => tMeth C m sp [] X ta tr σ H (Qs σ)) := fun σ H ⟨F, a, b⟩ => ho E F σ H a b _ fun v F1 H1 e1 g1 p1 => by
  have p1 : v = .ref q := p1
  subst p1
  obtain ⟨_, o, ho1, dx, fs, rfl, h3⟩ := g1.at e0
  refine ⟨q, dx, fs, rfl, ho1, fo_none h3 hn, ?_⟩
  refine h E F1 σ H1 g1 (b.mono e1) _ fun vs F2 H2 e2 g2 p2 => ?_
  show sp (V.ref q :: (vs ++ [])) H2 _ X
  rw [List.append_nil]
  have gq := g2.at e0
  have w : Wd F2 [(q, MOb C fps)] H2 := ⟨g2.wd.ex, by simp [keys], fun r hr => by rw [List.mem_singleton.mp hr]; exact gq⟩
  refine hs _ _ _ X ⟨F2, w, .cons rfl p2, fun F' H' g => k F' H' (g2.frame (M' := M.set j (q, O')) g (fun z hz => ?_) (keys_set e0) fun r hr => ?_)⟩
  · rw [List.mem_singleton.mp hz]
    exact List.mem_map_of_mem (f := (·.1)) (List.mem_of_getElem? e0)
  · rcases mem_set_ne g2.wd.nd e0 r hr with z | ⟨z, n⟩
    · rw [z]; exact .inr List.mem_cons_self
    · exact .inl ⟨fun c => n (List.mem_singleton.mp c), z⟩
/-- an own list compared with data -/
theorem rv_neLO {α : Type} [DecidableEq α] {g : α → PyData} {n : Nat} (en : Enc g n) (hn : n + 1 ≤ 64) {xs ys : List α} (e : M[j]? = some (q, ML (ys.map fun x => D K (g x)))) : RV (rNeD K) (D K (.list (xs.map g))) (Own q) M (D K (.bool (!decide (xs = ys)))) M := fun E F H x y a p1 p2 Q k => by
  have p2 : y = .ref q := p2
  subst p2
  obtain ⟨fq, o, ho, vs, rfl, s⟩ := a.at e
  have ds : DpAll K F vs (ys.map g) := by
    refine ps_all (K := K) ?_
    rw [List.map_map]
    exact s
  refine ⟨.list (xs.map g), .list (ys.map g), Dp.mono a.ex p1, .lst (SqL.of ho) (DpAll.mono a.ex ds), en.all_shaped hn xs, en.all_shaped hn ys, ?_⟩
  have ee := (enc_list en).eq xs ys
  have ee : PyData.eqv (.list (xs.map g)) (.list (ys.map g)) = decide (xs = ys) := ee
  rw [ee]
  exact k _ F H (Evl.Ex.refl _) a (.bl _)
/-- a comprehension over an own list -/
theorem evn_lcO {α : Type} {xs : List α} {R G : α → MP} {f : α → Bool} (h : Ev tl Γ M (Own q) M) (e : M[j]? = some (q, ML (xs.map R))) (hz : xs.length ≤ 50000)
    (ht : ∀ x ∈ xs, EvT t ((Γ.set i none).set i (some (R x))) (M.eraseIdx j) (· = f x) (M.eraseIdx j)) (he : ∀ x ∈ xs, f x = true → Ev te ((Γ.set i none).set i (some (R x))) (M.eraseIdx j) (G x) (M.eraseIdx j)) :
    EvN (tLc (iList K tl) (gName i) t te [i]) Γ M (ML ((xs.filter f).map G)) M := fun E F σ H a b Q k => h E F σ H a b _ fun v F1 H1 e1 g1 p1 => by
  have p1 : v = .ref q := p1
  subst p1
  obtain ⟨fq, o, ho, vs, rfl, qq⟩ := g1.at e
  have nd := g1.wd.nd
  have sub : List.Sublist (M.eraseIdx j) M := List.eraseIdx_sublist _ _
  have nq : q ∉ keys (M.eraseIdx j) := by
    have key : ∀ {M : Ms} {j : Nat} {O : MO}, (keys M).Nodup → M[j]? = some (q, O) → q ∉ keys (M.eraseIdx j) := by
      intro M
      induction M with
      | nil => intro j O _ h; simp at h
      | cons m M ih =>
        intro j O nd e hm
        have nd' := List.nodup_cons.mp (show (m.1 :: keys M).Nodup from nd)
        cases j with
        | zero =>
          have e1 : m = (q, O) := Option.some.inj e
          subst e1
          exact nd'.1 hm
        | succ j =>
          have e1 : M[j]? = some (q, O) := e
          rcases List.mem_cons.mp (show q ∈ m.1 :: keys (M.eraseIdx j) from hm) with z | z
          · exact nd'.1 (by rw [← z]; exact List.mem_map_of_mem (f := (·.1)) (List.mem_of_getElem? e1))
          · exact ih nd'.2 e1 z
    exact key nd e
  have mem : ∀ r ∈ M, r.1 = q ∨ r ∈ M.eraseIdx j := by
    have key : ∀ {M : Ms} {j : Nat} {O : MO}, M[j]? = some (q, O) → ∀ r ∈ M, r.1 = q ∨ r ∈ M.eraseIdx j := by
      intro M
      induction M with
      | nil => intro j O h; simp at h
      | cons m M ih =>
        intro j O e r hr
        cases j with
        | zero =>
          have e1 : m = (q, O) := Option.some.inj e
          subst e1
          rcases List.mem_cons.mp hr with z | z
          · rw [z]; exact .inl rfl
          · exact .inr z
        | succ j =>
          have e1 : M[j]? = some (q, O) := e
          rcases List.mem_cons.mp hr with z | z
          · rw [z]; exact .inr List.mem_cons_self
          · rcases ih e1 r z with y | y
            · exact .inl y
            · exact .inr (List.mem_cons_of_mem _ y)
    exact key e
  have ga : Pt E F1 (M.eraseIdx j) H1 := g1.drop sub
  refine ⟨q, rfl, ⟨vs, SqL.of ho⟩, fun D2 hD => ?_⟩
  have gn : Pt ⟨F1, H1, keys (M.eraseIdx j)⟩ F1 ((D2, ML []) :: M.eraseIdx j) (upd H1 D2 (.lst [])) := ga.enter.new hD ⟨[], rfl, .nil⟩
  refine lc_list (xs := vs) (fun n H' => ∃ F', Pt ⟨F1, H1, keys (M.eraseIdx j)⟩ F' ((D2, ML (((xs.take n).filter f).map G)) :: M.eraseIdx j) H') ⟨F1, gn⟩ (fun n H2 _ ⟨F2, g2⟩ => SqL.of (g2.gr.keep q _ nq ho)) (fun n x H2 hx ⟨F2, g2⟩ => ⟨wipe_one, ?_⟩) (fun H2 ⟨F2, g2⟩ => ?_)
  · obtain ⟨P, hP, hx2⟩ := paired_get' qq hx
    rw [List.getElem?_map] at hP
    cases hy : xs[n]? with
    | none => rw [hy] at hP; cases hP
    | some y =>
      rw [hy] at hP
      have hP : R y = P := Option.some.inj hP
      subst hP
      have hm := List.mem_of_getElem? hy
      refine lc_turn g2 ((env_wipe (b.mono (e1.trans g2.gr.ex))).set i ((R y).mono g2.gr.ex hx2)) (ht y hm) (he y hm) ?_ _ fun F3 H3 e3 g3 => ⟨F3, ?_⟩
      · rw [List.length_map]
        exact Nat.lt_of_le_of_lt (Nat.le_trans (List.length_filter_le _ _) (by rw [List.length_take]; omega)) (by omega : xs.length < 100000)
      · rw [take_filter xs f n y hy, List.map_append]
        cases hf : f y
        · rw [hf] at g3; simpa using g3
        · rw [hf] at g3; simpa using g3
  · rw [paired_len qq, List.length_map, List.take_length] at g2
    refine k D2 F2 H2 (g1.fresh hD) (e1.trans g2.gr.ex) (g1.frameN hD g2 (fun z hz => ?_) rfl fun r hr => ?_)
    · exact (sub.map _).subset hz
    · rcases mem r hr with z | z
      · exact .inl ⟨by rw [z]; exact nq, hr⟩
      · exact .inr z
end
end Hq
namespace Hq
open PySem L2
section
variable {K : PySem.W.Frag} {E E0 : Ent} {F H : Hp} {M M1 M2 M' : Ms} {Γ : Gm} {P P1 : MP} {O O' : MO} {q : Addr} {te ta tb tl tk tv td : TE} {tr : TA} {D1 : Ends} {tu tz : TS} {t u : TT} {ps : List MP} {i j : Nat}
/-! gcd, list.count -/
theorem rc_gcd {a b : Int} : RC rGcd [D K (.int a), D K (.int b)] M (D K (.int ((Nat.gcd a.natAbs b.natAbs : Nat) : Int))) M := fun E F H vs g h Q k => by
  obtain ⟨v, w, rfl, p1, p2⟩ := ps2 h
  cases dp_int p1; cases dp_int p2
  exact ⟨a, b, rfl, k _ F H (Evl.Ex.refl _) g (.int _)⟩
theorem c_lcount {Y : Cx} (e : Y.K = K) : MtR Y "list.count" (rCntI K) := e ▸ mt_lcount
theorem ev_count {ns : List Int} {x : Int} (ho : Ev ta Γ M (PLi K (ns.map fun n => D K (.int n))) M1) (h : Ev te Γ M1 (D K (.int x)) M2) : Ev (tBM K "list" (rCntI K) ta (tCons te tNil)) Γ M (D K (.int (ns.count x : Nat))) M2 := fun E F σ H a b Q k => ho E F σ H a b _ fun v F1 H1 e1 g1 ⟨p, ws, hv, s, hp⟩ => by
  subst hv
  have es := ints_map hp
  subst es
  refine ⟨.inl ⟨rfl, _, Evl.ex_l g1.ex s⟩, ?_⟩
  refine h E F1 σ H1 g1 (b.mono e1) _ fun w F2 H2 e2 g2 p2 => ?_
  cases dp_int p2
  exact ⟨p, ns, x, rfl, rfl, Evl.ex_l (e2.trans g2.ex) s, k _ F2 H2 (e1.trans e2) g2 (.int _)⟩
/-! a dict of ints to ints -/
def MDO (g : Int → Option Int) (n : Nat) : MO := ⟨fun _ o => ∃ kvs : List (Key × V), o = .dK kvs ∧ kvs.length ≤ n ∧ ∀ x : Int, valV kvs (.inl x) = (g x).map V.int, fun _ h => h, fun ⟨kvs, h, _⟩ xs z => by rw [h] at z; cases z⟩
theorem evn_dcV {φ : List Int → Prop} {L : List Int} {n : Nat} {val : Int → Int} (h : Ev tl Γ M (PEx fun xs : List Int => PAn (φ xs) (PLi K (xs.map fun x => D K (.int x)))) M1) (hφ : ∀ xs, φ xs → (∀ x, x ∈ xs ↔ x ∈ L) ∧ xs.length ≤ n) (hz : n ≤ 50000) (hi : i < Γ.length)
    (hv : ∀ x ∈ L, ∀ M, Ev tv ((Γ.set i none).set i (some (D K (.int x)))) M (D K (.int (val x))) M) :
    EvN (tDc (iList K tl) (gName i) tYes (tVar i) tv [i]) Γ M (MDO (fun x => if x ∈ L then some (val x) else none) n) M1 := fun E F σ H a b Q k => h E F σ H a b _ fun v F1 H1 e1 g1 ⟨xs, hxs, p, vs, hp, s, q⟩ => by
  obtain ⟨hL, hn⟩ := hφ xs hxs
  refine ⟨p, hp, ⟨vs, Evl.ex_l g1.ex s⟩, fun D2 hD => ?_⟩
  have hl : vs.length = xs.length := by have := paired_len q; rwa [List.length_map] at this
  have gn : Pt ⟨F1, H1, keys M1⟩ F1 ((D2, MDO (fun x => if x ∈ xs.take 0 then some (val x) else none) 0) :: M1) (upd H1 D2 (.dK [])) := g1.enter.new hD ⟨[], rfl, Nat.le_refl _, fun x => by simp; rfl⟩
  refine ⟨fun n m H' => m = xs.length - n ∧ n ≤ xs.length ∧ ∃ F', Pt ⟨F1, H1, keys M1⟩ F' ((D2, MDO (fun x => if x ∈ xs.take n then some (val x) else none) n) :: M1) H', ⟨_, rfl, Nat.zero_le _, F1, gn⟩, ?_⟩
  rintro n2 m H2 ⟨rfl, hn2, F2, g2⟩
  have sl2 : SqL K H2 p vs := Evl.ex_l (g2.gr.ex.trans g2.ex) s
  rcases Nat.lt_or_ge n2 xs.length with hlt | hge
  case inr =>
    refine .inl ⟨⟨vs, sl2, by omega⟩, ?_⟩
    rw [List.take_of_length_le (by omega)] at g2
    have le : ∀ F o, (MDO (fun x => if x ∈ xs then some (val x) else none) n2).p F o → (MDO (fun x => if x ∈ L then some (val x) else none) n).p F o := fun F o ⟨kvs, h1, h2, h3⟩ => ⟨kvs, h1, by omega, fun x => by
      rw [h3 x]
      have e : (x ∈ xs) = (x ∈ L) := propext (hL x)
      simp only [e]⟩
    exact k D2 F2 H2 (g1.fresh hD) (e1.trans g2.gr.ex) ((g1.back g2).to (j := 0) le rfl)
  refine .inr ⟨⟨vs, vs[n2], sl2, List.getElem?_eq_getElem (by omega)⟩, fun H' => n2 + 1 ≤ xs.length ∧ ∃ F', Pt ⟨F1, H1, keys M1⟩ F' ((D2, MDO (fun x => if x ∈ xs.take (n2 + 1) then some (val x) else none) (n2 + 1)) :: M1) H', fun H' ⟨c1, c2⟩ => ⟨_, by omega, rfl, c1, c2⟩, fun x H' y => ?_⟩
  obtain ⟨rfl, y⟩ := y
  have hx := y vs sl2
  obtain ⟨P, hP, hx2⟩ := paired_get' q hx
  have hxn : xs[n2]? = some xs[n2] := List.getElem?_eq_getElem hlt
  have hzL : xs[n2] ∈ L := (hL _).mp (List.getElem_mem hlt)
  rw [List.getElem?_map, hxn] at hP
  have hP : D K (.int xs[n2]) = P := Option.some.inj hP
  subst hP
  have tk : xs.take (n2 + 1) = xs.take n2 ++ [xs[n2]] := by rw [List.take_add_one, hxn]; rfl
  rw [tk]
  generalize xs[n2] = z at *
  have b2 : EnvOk F2 ((wipe σ [i]).set i (some x)) ((Γ.set i none).set i (some (D K (.int z)))) := (env_wipe (b.mono (e1.trans g2.gr.ex))).set i ((D K (.int z)).mono g2.gr.ex hx2)
  refine ⟨wipe_one, ?_⟩
  refine (et_yes (M := (D2, MDO (fun x => if x ∈ xs.take n2 then some (val x) else none) n2) :: M1) (Γ := (Γ.set i none).set i (some (D K (.int z))))) _ F2 _ _ g2 b2 _ fun c F3 H3 e3 g3 hc => ?_
  have hc : c = true := hc
  subst hc
  rw [if_pos rfl]
  refine (ev_var (i := i) (P := D K (.int z)) (by simp [hi])) _ F3 _ H3 g3 (b2.mono e3) _ fun w F4 H4 e4 g4 p4 => ?_
  refine (hv z hzL _) _ F4 _ H4 g4 (b2.mono (e3.trans e4)) _ fun w5 F5 H5 e5 g5 p5 => ?_
  cases dp_int p4
  cases dp_int p5
  obtain ⟨fq, o, ho, kvs, rfl, hk1, hk2⟩ := g5.at (j := 0) rfl
  refine ⟨kvs, .inl z, rfl, ho, sz_lt (by omega), hlt, F5, g5.mut (j := 0) rfl ⟨_, rfl, ?_, fun x => ?_⟩⟩
  · have := put_len (kvs := kvs) (k := .inl z) (z := .int (val z))
    omega
  · rw [valV_put]
    by_cases e : x = z
    · subst e; rw [if_pos rfl]; simp
    · rw [if_neg (fun c => e (Sum.inl.inj c)), hk2 x]
      simp [e]
theorem ev_dgetI {g : Int → Option Int} {n : Nat} {x y : Int} (hd : Ev td Γ M (Own q) M1) (hk : Ev tk Γ M1 (D K (.int x)) M2) (e : M2[j]? = some (q, MDO g n)) (hg : g x = some y) : Ev (tDGet td tk) Γ M (D K (.int y)) M2 := fun E F σ H a b Q k => by
  refine hd E F σ H a b _ fun v F1 H1 e1 g1 p1 => hk E F1 σ H1 g1 (b.mono e1) _ fun w F2 H2 e2 g2 p2 => ?_
  have p1 : v = .ref q := p1
  subst p1
  cases dp_int p2
  obtain ⟨fq, o, ho, kvs, rfl, _, hkv⟩ := g2.at e
  refine ⟨q, .int y, rfl, ?_, k _ F2 H2 (e1.trans e2) g2 (.int _)⟩
  have := DGet.k (k := .inl x) ho
  rw [hkv, hg] at this
  exact this
/-- d[x] -= e -/
theorem go_dsubI {g : Int → Option Int} {n : Nat} {x y w : Int} (hd : Ev td Γ M (Own q) M) (hk : Ev tk Γ M (D K (.int x)) M) (hv : Ev tv Γ M (D K (.int w)) M) (e : M[j]? = some (q, MDO g n)) (hn : n < 50000) (hg : g x = some y)
    (k : Nx E Γ (M.set j (q, MDO (fun z => if z = x then some (y - w) else g z) (n + 1))) D1.nx) : Nx E Γ M (sDAug td tk tv rSub D1) := fun σ H ⟨F, a, b⟩ => by
  refine hd E F σ H a b _ fun v F1 H1 e1 g1 p1 => hk E F1 σ H1 g1 (b.mono e1) _ fun u F2 H2 e2 g2 p2 => ?_
  have p1 : v = .ref q := p1
  subst p1
  cases dp_int p2
  obtain ⟨fq, o, ho, kvs, rfl, _, hkv⟩ := g2.at e
  refine ⟨q, .int y, rfl, ?_, ?_⟩
  · have := DGet.k (k := .inl x) ho
    rw [hkv, hg] at this
    exact this
  refine hv E F2 σ H2 g2 (b.mono (e1.trans e2)) _ fun z F3 H3 e3 g3 p3 => ?_
  cases dp_int p3
  obtain ⟨fq, o, ho, kvs, rfl, hl, hkv⟩ := g3.at e
  refine ⟨y, w, rfl, rfl, _, DPut.k (k := .inl x) ho (sz_lt (by omega)), ?_⟩
  refine k _ _ ⟨F3, g3.mut e ⟨_, rfl, ?_, fun z => ?_⟩, b.mono ((e1.trans e2).trans e3)⟩
  · have := put_len (kvs := kvs) (k := .inl x) (z := .int (y - w))
    omega
  · rw [valV_put]
    by_cases h : z = x
    · subst h; rw [if_pos rfl]; simp
    · rw [if_neg (fun c => h (Sum.inl.inj c)), hkv z]; simp [h]
end
end Hq
namespace HqV
open PySem PySem.Spec PyProof.Rows
section
variable {prog : Program} {w : World} {A : Around} {R : Result → Shared → Prop} {E : Value → Shared → Prop} {s : Shared}
/-! ### list(reversed(a list)) -/
theorem call_list_rev {it l : Addr} {items : Array Value} {Q : Value → Shared → Prop} (hh : A.handled = none) (hit : s.heap.IsRevIter it l ((items.size : Int) - 1)) (hl : s.heap.IsList l items) (hne : l ≠ it) (hn : items.size ≤ sizeLine)
    (hQ : ∀ (h' : Heap) (tk : Nat) (acc : Array Value) (c : Nat), (∀ b o, b ≠ it → s.heap.get? b = some o → h'.get? b = some o) → ItemsOf (fun i v => items[items.size - 1 - i]? = some v) acc items.size →
      h'.get? s.heap.objs.size = some { cls := .type "list", dict := none, data := .seq acc c, slots := #[] } → Q (.ref s.heap.objs.size) { s with heap := h', toks := tk }) :
    wpAny (model prog w) A (call (.type "list") [.ref it]) Q E s := by
  obtain ⟨oi, hoi, _⟩ := id hit
  obtain ⟨ol, hol, _⟩ := id hl
  have hSi : s.heap.objs.size ≠ it := Nat.ne_of_gt (Heap.lt_size hoi)
  have hSl : s.heap.objs.size ≠ l := Nat.ne_of_gt (Heap.lt_size hol)
  have hSf : s.heap.objs.size ∉ [it, l] := by simp only [List.mem_cons, List.not_mem_nil, or_false, not_or]; exact ⟨hSi, hSl⟩
  have W := (Walks.listRev (prog := prog) (w := w) (A := A.in1.in1) hh it l hne items).toS
  refine callType_codes (Q₁ := fun obj s₁ => obj = .ref s.heap.objs.size ∧ s₁ = { s with heap := s.heap.push { cls := .type "list", data := .seq #[] } }) F.called_list (F.typeCall_list_1 _) F.entry_list_init
    (code_list_new _ ⟨rfl, rfl⟩) ?_
  rintro obj s₁ ⟨rfl, rfl⟩
  generalize hS0 : s.heap.objs.size = S at *
  have hS : (s.heap.push { cls := .type "list", data := .seq #[] }).get? S = some { cls := .type "list", data := .seq #[] } := by rw [← hS0]; exact Heap.get?_push_size _ rfl
  refine ⟨⟨_, hS, rfl⟩, F.args_list_init_2 _ _, ?_⟩
  show wpAny _ A.in1.in1 (do let old ← Builtin.List.listItems (.ref S); Builtin.List.listUpdate (.ref S) (fun _ => #[]); letGo old.toList.reverse; Builtin.List.listExtendWith (.ref S) (.ref it) .none) _ _ _
  refine wpAny_bind ?_
  unfold Builtin.List.listItems
  refine wpAny_bind (wpAny_seqItems hS rfl (wpAny_pure ?_))
  show wpAny _ A.in1.in1 (updateSeq S (fun _ => #[]) >>= fun _ => letGo (#[] : Array Value).toList.reverse >>= fun _ => Builtin.List.listExtendWith (.ref S) (.ref it) .none) _ _ _
  refine wpAny_bind (wpAny_updateSeq hS rfl ?_)
  have hS₂ := Heap.get?_update_self (Obj.mapSeq (fun _ => (#[] : Array Value))) hS rfl
  have oth : ∀ b o, b ≠ S → s.heap.get? b = some o → ((s.heap.push { cls := .type "list", data := .seq #[] }).update S (Obj.mapSeq (fun _ => (#[] : Array Value)))).get? b = some o :=
    fun b o hb e => (Heap.get?_update_other _ _ (Ne.symm hb)).trans (Heap.get?_push_of_some _ e)
  refine wpAny_bind (wpAny_letGo ?_)
  generalize hh2 : (s.heap.push { cls := .type "list", data := .seq #[] }).update S (Obj.mapSeq (fun _ => (#[] : Array Value))) = h2 at *
  have hit1 : h2.IsRevIter it l ((items.size : Int) - 1) := hit.at fun o e => oth it o (Ne.symm hSi) e
  have hl1 : h2.IsList l items := hl.at fun o e => oth l o (Ne.symm hSl) e
  have hT : ({ s with heap := h2 } : Shared).TypeIs (.ref it) "list_reverseiterator" := Heap.IsRevIter.typeIs (s := { s with heap := h2 }) hit1
  have h1 : Builtin.List.listSameRef (.ref S) (.ref it) = false := by simp [Builtin.List.listSameRef, hSi]
  unfold Builtin.List.listExtendWith
  refine wpAny_bind (wpAny_typeOf hT ?_)
  rw [if_neg (by rw [h1]; decide)]
  refine wpAny_bind (wpAny_pyIter_revIter (s := { s with heap := h2 }) hit1 ?_)
  refine wpAny_bind (wpAny_holding ?_)
  unfold Builtin.List.listLengthHint
  refine wpAny_bind (wpAny_specialOf hT RT.nolen_lri ?_)
  show wpAny _ A.in1.in1 (specialOf (Value.ref it) (Str.ofString "__length_hint__") >>= _) _ _ _
  refine wpAny_bind (wpAny_specialOf hT RT.hint_lri ?_)
  generalize hid : ("list_reverseiterator.__length_hint__" : String) = id0
  wp_delta
  rw [show splitId id0 = some ("list_reverseiterator", "__length_hint__") from by subst hid; decide +kernel]
  subst hid
  refine wpAny_bind (wpAny_isInstance (b := true) hT (by rw [isSubtype_type]; kernel_rfl) ?_)
  refine wpAny_pure ?_
  rw [if_neg (by decide)]
  have e0 : ((items.size : Nat) : Int) - 1 - ((0 : Nat) : Int) = (items.size : Int) - 1 := by omega
  refine wpAny_pure ⟨plainId_quiet F.plain_extend_loop _, codeAny_extend_loopS W hn S hSf _ items.size 0 _ _ _ rfl (Nat.zero_le _) ⟨Nat.zero_le _, by rw [e0]; exact hit1, hl1⟩ hS₂ (ItemsOf.nil _) fun s' acc' c' hm hS' hacc => ?_⟩
  refine ⟨rfl, ?_⟩
  rw [Moved.eq_with hm]
  refine hQ s'.heap s'.toks acc' c' (fun b o hb e => hm.heap b o (fun hmem => ?_) ?_) hacc hS'
  · rcases List.mem_cons.mp hmem with e' | hmem
    · exact absurd (Heap.lt_size e) (by rw [e', hS0]; exact Nat.lt_irrefl _)
    · exact hb (List.mem_singleton.mp hmem)
  · exact oth b o (fun e' => absurd (Heap.lt_size e) (by rw [e', hS0]; exact Nat.lt_irrefl _)) e
/-! ### max(xs, default=d) -/
variable {I : Addr} {fp wr : List Addr} {n : Nat} {P : Nat → Value → Prop} {St : Nat → Heap → Prop} {val : Nat → Int} {kw : List (Str × Value)}
def Res (P : Nat → Value → Prop) (val : Nat → Int) (n : Nat) (v : Value) : Prop := ∃ i, i < n ∧ P i v ∧ ∀ k, k < n → val k ≤ val i
theorem loop_kw (W : Walks prog w A.in1 I fp wr n P St) (hval : ∀ i v, P i v → ∃ t, v = .int (val i) t) (S : Addr) (hSf : S ∉ fp) : ∀ (m j i : Nat) (s : Shared) (vb : Value) (c : Nat), n - j = m → 0 < j → j ≤ n → i < j → St j s.heap → P i vb → (∀ k, k < j → val k ≤ val i) →
    s.heap.get? S = some { cls := .type "list", dict := none, data := .seq #[vb, vb] c, slots := #[] } →
    (∀ v h' tk, Res P val n v → (∀ b o, b ∉ wr → b ≠ S → s.heap.get? b = some o → h'.get? b = some o) → R (.ok (.ret v)) { s with heap := h', toks := tk }) →
    codeAny (model prog w) A (.builtin "max.loop" ⟨[.ref I, .none, .ref S], kw⟩) R s := by
  have hSw : S ∉ wr := fun h => hSf (W.sub _ h)
  have nm : (toString "max" ++ toString ".loop" : String) = "max.loop" := by decide
  intro m
  induction m with
  | zero =>
    intro j i s vb c hm h0 hj hi st hP hb hS hR
    obtain rfl : j = n := by omega
    refine codeAny_builtin F.entry_max_loop ?_
    rw [Around.under_plainId F.plain_max_loop _]
    show wpAny _ A.in1 (seqItems? (.ref S) >>= _) _ _ s
    refine wpAny_bind (wpAny_seqItems hS rfl ?_)
    show wpAny _ A.in1 (tryCatch (pyNext (.ref I)) _ >>= _) _ _ s
    refine wpAny_bind (wpAny_tryCatch (W.done s _ _ st fun h' tk k1 => ?_))
    show wpAny _ A.in1 (updateSeq S (fun _ => #[]) >>= _) _ _ _
    refine wpAny_bind ?_
    refine wpAny_updateSeq (k1 S _ hSw hS) rfl (wpAny_bind (wpAny_letGo (wpAny_pure ?_)))
    exact hR vb _ tk ⟨i, hi, hP, hb⟩ fun b o b1 b2 e => (Heap.get?_update_other _ _ (Ne.symm b2)).trans (k1 b o b1 e)
  | succ m ih =>
    intro j i s vb c hm h0 hj hi st hP hb hS hR
    refine codeAny_builtin F.entry_max_loop ?_
    rw [Around.under_plainId F.plain_max_loop _]
    show wpAny _ A.in1 (seqItems? (.ref S) >>= _) _ _ s
    refine wpAny_bind (wpAny_seqItems hS rfl ?_)
    show wpAny _ A.in1 (tryCatch (pyNext (.ref I)) _ >>= _) _ _ s
    refine wpAny_bind (wpAny_tryCatch (W.item j s _ _ (by omega) st fun v h' tk hv st' k1 => ?_))
    have hS' := k1 S _ hSw hS
    show wpAny _ A.in1 (tryCatch (holding [v, v] (richCompare .Gt v vb >>= _)) _ >>= _) _ _ _
    refine wpAny_bind (wpAny_tryCatch (wpAny_holding (wpAny_bind (CmpOf.ints_gt val hval j i v vb _ _ _ hv hP ?_))))
    refine wpAny_bind (wpAny_holding (wpAny_truthy_bool ?_))
    refine wpAny_bind (wpAny_letGo (wpAny_pure ?_))
    by_cases hg : val j > val i
    · rw [if_pos (show ((fun i j => decide (val i > val j)) j i) = true from decide_eq_true hg)]
      refine wpAny_bind ?_
      refine wpAny_updateSeq hS' rfl (wpAny_bind (wpAny_letGo ?_))
      rw [nm]
      refine wpAny_pure ⟨plainId_quiet F.plain_max_loop _, ih (j + 1) j _ v _ (by omega) (by omega) (by omega) (by omega) (W.frame _ _ _ st' fun b hbf o e => ?_) hv (fun k hk => ?_) (Heap.get?_update_self _ hS' rfl) fun v' h2 tk2 hr k2 => ?_⟩
      · exact (Heap.get?_update_other _ _ (fun h : S = b => hSf (by rw [h]; exact hbf))).trans e
      · rcases Nat.lt_succ_iff_lt_or_eq.mp hk with hk | rfl
        · exact Int.le_trans (hb k hk) (Int.le_of_lt hg)
        · exact Int.le_refl _
      · exact hR v' h2 tk2 hr fun b o b1 b2 e => k2 b o b1 b2 ((Heap.get?_update_other _ _ (Ne.symm b2)).trans (k1 b o b1 e))
    · rw [if_neg (show ¬ ((fun i j => decide (val i > val j)) j i) = true from fun h => hg (of_decide_eq_true h))]
      refine wpAny_bind (wpAny_letGo ?_)
      rw [nm]
      refine wpAny_pure ⟨plainId_quiet F.plain_max_loop _, ih (j + 1) i _ vb c (by omega) (by omega) (by omega) (by omega) st' hP (fun k hk => ?_) hS' fun v' h2 tk2 hr k2 => ?_⟩
      · rcases Nat.lt_succ_iff_lt_or_eq.mp hk with hk | rfl
        · exact hb k hk
        · exact Int.not_lt.mp hg
      · exact hR v' h2 tk2 hr fun b o b1 b2 e => k2 b o b1 b2 (k1 b o b1 e)
theorem first_kw {d : Value} (W : Walks prog w A.in1 I fp wr n P St) (hval : ∀ i v, P i v → ∃ t, v = .int (val i) t) (S : Addr) (hSf : S ∉ fp) {c : Nat} {k0 : Str} (st : St 0 s.heap)
    (hS : s.heap.get? S = some { cls := .type "list", dict := none, data := .seq #[] c, slots := #[] })
    (hR : ∀ v h' tk, (n = 0 ∧ v = d) ∨ Res P val n v → (∀ b o, b ∉ wr → b ≠ S → s.heap.get? b = some o → h'.get? b = some o) → R (.ok (.ret v)) { s with heap := h', toks := tk }) :
    codeAny (model prog w) A (.builtin "max.loop" ⟨[.ref I, .none, .ref S], [(k0, d)]⟩) R s := by
  have hSw : S ∉ wr := fun h => hSf (W.sub _ h)
  have nm : (toString "max" ++ toString ".loop" : String) = "max.loop" := by decide
  refine codeAny_builtin F.entry_max_loop ?_
  rw [Around.under_plainId F.plain_max_loop _]
  show wpAny _ A.in1 (seqItems? (.ref S) >>= _) _ _ s
  refine wpAny_bind (wpAny_seqItems hS rfl ?_)
  show wpAny _ A.in1 (tryCatch (pyNext (.ref I)) _ >>= _) _ _ s
  rcases Nat.eq_zero_or_pos n with rfl | hn
  · refine wpAny_bind (wpAny_tryCatch (W.done s _ _ st fun h' tk k1 => ?_))
    show wpAny _ A.in1 (rule _ >>= fun _ => ret d) _ _ _
    refine wpAny_bind (wpAny_rule ?_)
    exact wpAny_pure (hR d h' tk (.inl ⟨rfl, rfl⟩) fun b o b1 _ e => k1 b o b1 e)
  refine wpAny_bind (wpAny_tryCatch (W.item 0 s _ _ hn st fun v h' tk hv st' k1 => ?_))
  have hS' := k1 S _ hSw hS
  show wpAny _ A.in1 (updateSeq S (fun _ => #[v, v]) >>= _) _ _ _
  refine wpAny_bind ?_
  refine wpAny_updateSeq hS' rfl ?_
  rw [nm]
  refine wpAny_pure ⟨plainId_quiet F.plain_max_loop _, loop_kw W hval S hSf _ 1 0 _ v _ rfl (by omega) hn (by omega) (W.frame _ _ _ st' fun b hbf o e => ?_) hv (fun k hk => ?_) (Heap.get?_update_self _ hS' rfl) fun v' h2 tk2 hr k2 => ?_⟩
  · exact (Heap.get?_update_other _ _ (fun h : S = b => hSf (by rw [h]; exact hbf))).trans e
  · obtain rfl : k = 0 := by omega
    exact Int.le_refl _
  · exact hR v' h2 tk2 (.inr hr) fun b o b1 b2 e => k2 b o b1 b2 ((Heap.get?_update_other _ _ (Ne.symm b2)).trans (k1 b o b1 e))
theorem args_maxD (a d : Value) : argsOk "max" ⟨[a], [(Str.ofString "default", d)]⟩ := by unfold argsOk; kernel_rfl
theorem call_maxD {l : Addr} {d : Value} {xs : Array (Int × Tok)} {Q : Value → Shared → Prop} (hh : A.handled = none) (hl : s.heap.IsList l (intItems xs))
    (h : ∀ v h' tk, (xs.size = 0 ∧ v = d) ∨ Res (fun i v => (intItems xs)[i]? = some v) (numAt xs) xs.size v → (∀ b o, s.heap.get? b = some o → h'.get? b = some o) → Q v { s with heap := h', toks := tk }) :
    wpAny (model prog w) A (call (.builtin "max") [.ref l] [(Str.ofString "default", d)]) Q E s := by
  have nm : (toString "max" ++ toString ".loop" : String) = "max.loop" := by decide
  refine wpAny_call (codeAny_call_builtin F.plain_max F.entry_max ?_)
  have key : wpAny (model prog w) A.in1 (Builtin.«max» ⟨[.ref l], [(Str.ofString "default", d)]⟩) (fun fin s' => match fin with
      | .done f => (match (Except.ok f : Result) with | .ok (.ret v) => Q v s' | .ok _ => False | .error e => E e s')
      | .again c' => c'.quiet = true ∧ codeAny (model prog w) A c' (fun r s' => match r with | .ok (.ret v) => Q v s' | .ok _ => False | .error e => E e s') s') E s := by
    show wpAny _ A.in1 (Builtin.Builtins.bindParams "max" ["key", "default"] 0 ⟨[], [(Str.ofString "default", d)]⟩ >>= _) _ _ s
    refine wpAny_bind (wpAny_of_eq (show Builtin.Builtins.bindParams "max" ["key", "default"] 0 ⟨[], [(Str.ofString "default", d)]⟩ = pure [none, some d] from rfl) ?_)
    refine wpAny_bind (wpAny_pure ?_)
    refine wpAny_bind (iter_intList hl ?_)
    rintro s₂ rfl st hfp hlI
    refine wpAny_bind (wpAny_newObj_type ?_)
    have hSf : (s.heap.push { cls := .type "list_iterator", data := .fields #[.ref l, .int 0 0] }).objs.size ∉ [s.heap.objs.size, l] := fun hm => Nat.lt_irrefl _ (hfp _ hm)
    have W := Walks.list (prog := prog) (w := w) (A := A.in1) hh s.heap.objs.size l hlI (intItems xs)
    have hsz : (intItems xs).size = xs.size := by simp [intItems]
    rw [hsz] at W
    rw [nm]
    refine wpAny_pure ⟨plainId_quiet F.plain_max_loop _, first_kw W (val := numAt xs) (fun _ _ => intItems_at) _ hSf (W.frame _ _ _ st fun b _ o e => Heap.get?_push_of_some _ e) (Heap.get?_push_size _ rfl) fun v h' tk hr hk => ?_⟩
    exact h v h' tk hr (old_kept fun b o hb e => hk b o hb (Nat.ne_of_lt (Heap.lt_size e)) (Heap.get?_push_of_some _ e))
  have ha := args_maxD (.ref l) d
  simp only [checkBuiltinCall, F.kind_max]
  cases hsig : Manifest.signature? "max" with
  | none => exact wpAny_pure key
  | some sig =>
    have ha' : Bind.checkArgs "max" sig ⟨[.ref l], [(Str.ofString "default", d)]⟩ = pure () := by simpa only [argsOk, hsig] using ha
    simp only [ha']
    exact wpAny_pure key
end
end HqV
namespace L2
open PySem PySem.Spec PyProof.Rows
section
variable {X : Cx}
def tLstRev (K : PySem.W.Frag) (te : TE) : TE := fun σ H Q => te σ H fun v H1 => ∃ (a : Addr) (xs : List V), v = .ref a ∧ SqL K H1 a xs ∧ ∀ q, H1 q = none → Q (.ref q) (upd H1 q (.lst xs.reverse))
theorem pe_listRev {e : Expr} {te : TE} {p p2 pos pos2 : Pos} (hc : X.calm = true) (hg : Gl X "list") (hm : X.mg "list" = none) (hg2 : Gl X "reversed") (hm2 : X.mg "reversed" = none) (he : PE X e te)
    (hs : starEach [e] X.env = (false, eval e X.env) :: starEach [] X.env := by rfl)
    (hs2 : starEach [.Call (.Name "reversed" p2) [e] [] pos2] X.env = (false, eval (.Call (.Name "reversed" p2) [e] [] pos2) X.env) :: starEach [] X.env := by rfl) :
    PE X (.Call (.Name "list" p) [.Call (.Name "reversed" p2) [e] [] pos2] [] pos) (tLstRev X.K te) := by
  refine ⟨fun pins s σ H Q I h => ?_⟩
  refine Call_ (ld_blt I hg hm boot_list (PyProof.Rows.callWith_type1 (args_cons (Call_ (ld_blt I hg2 hm2 PyProof.Rows.boot_reversed (PyProof.Rows.callWith_type1 (args_cons (thn (he.run pins s σ H _ I h) fun u s1 ⟨v, H1, I1, r1, q1⟩ => args_nil ?_) hs) hs rfl))) hs2) hs2 rfl))
  obtain ⟨a, xs, rfl, hq, q⟩ := q1
  obtain rfl : u = Value.ref a := r1
  obtain ⟨its, rv, p', hz⟩ := I1.list hq
  refine call_reversed_list p'.isList (args_nil ?_)
  have k0 : ∀ b o, s1.heap.get? b = some o → (s1.heap.push (revObj a ((its.toArray.size : Int) - 1))).get? b = some o := fun b o e => Heap.get?_push_of_some _ e
  have I2 : Inv X pins σ H1 { s1 with heap := s1.heap.push (revObj a ((its.toArray.size : Int) - 1)) } := I1.kept (t' := s1.toks) k0
  have hl := p'.isList
  obtain ⟨ol, hol, _⟩ := id hl
  have hne : a ≠ s1.heap.objs.size := Nat.ne_of_lt (Heap.lt_size hol)
  have hn : its.toArray.size ≤ sizeLine := by rw [List.size_toArray, ← rv.length]; exact hz
  refine HqV.call_list_rev (s := { s1 with heap := s1.heap.push (revObj a ((its.toArray.size : Int) - 1)) }) (I1.ok.hd hc) ⟨_, Heap.get?_push_size _ rfl, rfl, rfl⟩ (hl.push _) hne hn fun h' tk acc c hk hi hS => ?_
  have hsz : s1.heap.objs.size ≤ (s1.heap.push (revObj a ((its.toArray.size : Int) - 1))).objs.size := by rw [Heap.size_push]; omega
  refine ⟨.ref _, upd H1 (s1.heap.push (revObj a ((its.toArray.size : Int) - 1))).objs.size (.lst xs.reverse), I1.laid (t' := tk) (fun b o e => hk b o (fun e' => absurd (Heap.lt_size e) (by rw [e']; exact Nat.lt_irrefl _)) (k0 b o e)) hsz (show ObjOk X.prog X.w _ _ _ (.lst xs.reverse) from ⟨by rw [List.length_reverse]; exact hz, acc.toList, c, RT.vals_rev rv hi, ?_⟩), rfl, q _ (I1.hok.fresh hsz)⟩
  rw [Array.toArray_toList]
  exact hS
/-- max(xs, default=d) of a list of ints -/
def rMaxD (K : PySem.W.Frag) : List V → List V → Hp → VK → Prop := fun vs zs H Q => ∃ (a : Addr) (ns : List Int) (d : Int), vs = [V.ref a] ∧ zs = [.int d] ∧ SqL K H a (ns.map V.int) ∧ ∀ m, ((ns = [] ∧ m = d) ∨ (m ∈ ns ∧ ∀ y, y ∈ ns → y ≤ m)) → Q (.int m) H
theorem cr_maxD (hc : X.calm = true) : CallRK X (.builtin "max") [Str.ofString "default"] (rMaxD X.K) := by
  intro pins s σ H vs zs us ws Q I r rz h
  obtain ⟨a, ns, d, rfl, rfl, hs, q⟩ := h
  obtain rfl := Vals.ref1 r
  obtain ⟨w1, rfl, t1, rfl⟩ := vals1 rz
  obtain ⟨its, rv, hl, _⟩ := I.list hs
  have hi := rv.ints
  obtain ⟨xs, e⟩ := hi.allInts.items
  have hn : numsOf (intItems xs).toList = ns := by rw [← e]; exact hi.numsOf
  rw [nums_intItems] at hn
  subst hn
  have hl' := hl.isList
  rw [e] at hl'
  refine HqV.call_maxD (I.ok.hd hc) hl' fun v h' tk hr hk => ?_
  rcases hr with ⟨h0, rfl⟩ | ⟨i, hi, hv, hb⟩
  · refine ⟨.int d, H, I.kept hk, ⟨_, rfl⟩, q d (.inl ⟨?_, rfl⟩)⟩
    rw [Array.eq_empty_of_size_eq_zero h0]; rfl
  · obtain ⟨t, rfl⟩ := intItems_at hv
    refine ⟨.int _, H, I.kept hk, ⟨_, rfl⟩, q _ (.inr ⟨?_, fun y hy => ?_⟩)⟩
    · rw [numAt_eq]; exact PySem.getD_mem (by rw [List.length_map, Array.length_toList]; omega)
    · obtain ⟨j, hj, rfl⟩ := mem_getD hy
      rw [List.length_map, Array.length_toList] at hj
      rw [← numAt_eq]; exact hb j hj
end
end L2
namespace Hq
open PySem L2
section
variable {K : PySem.W.Frag} {E E0 : Ent} {F H : Hp} {M M1 M2 M' : Ms} {Γ : Gm} {P P1 : MP} {O O' : MO} {q : Addr} {te ta tb tl tk tv td : TE} {tr : TA} {D1 : Ends} {tu tz : TS} {t u : TT} {ps : List MP} {i j : Nat}
theorem ps_reverse {F : Hp} : ∀ {ws : List V} {ps : List MP}, Ps F ws ps → Ps F ws.reverse ps.reverse := by
  intro ws ps s
  induction s with
  | nil => exact .nil
  | cons a t ih => rw [List.reverse_cons, List.reverse_cons]; exact paired_app ih (.cons a .nil)
theorem evn_listRevO (ho : Ev ta Γ M (Own q) M) (e : M[j]? = some (q, ML ps)) : EvN (tLstRev K ta) Γ M (ML ps.reverse) M := fun E F σ H a b Q k => ho E F σ H a b _ fun v F1 H1 e1 g1 p1 => by
  have p1 : v = .ref q := p1
  subst p1
  obtain ⟨_, o, ho1, ws, rfl, s⟩ := g1.at e
  exact ⟨q, ws, rfl, SqL.of ho1, fun l hl => k l F1 _ (g1.fresh hl) e1 (g1.new hl ⟨_, rfl, ps_reverse s⟩)⟩
theorem ev_maxD {ns : List Int} {d : Int} (h : Ev te Γ M (PLi K (ns.map fun n => D K (.int n))) M1) (hd : Ev td Γ M1 (D K (.int d)) M2) : Ev (tCKw (rMaxD K) (tCons te tNil) (tCons td tNil)) Γ M (PEx fun m : Int => PAn ((ns = [] ∧ m = d) ∨ (m ∈ ns ∧ ∀ y ∈ ns, y ≤ m)) (D K (.int m))) M2 := fun E F σ H a b Q k => h E F σ H a b _ fun v F1 H1 e1 g1 hp => by
  obtain ⟨p, ws, rfl, s, hp⟩ := hp
  cases ints_map hp
  show td σ H1 _
  refine hd E F1 σ H1 g1 (b.mono e1) _ fun w F2 H2 e2 g2 p2 => ?_
  cases dp_int p2
  exact ⟨p, ns, d, rfl, rfl, Evl.ex_l (e2.trans g2.ex) s, fun m hm => k _ F2 H2 (e1.trans e2) g2 ⟨m, hm, .int m⟩⟩
theorem rc_abs {a : Int} : RC (fun xs H Q => ∃ i, xs = [.int i] ∧ Q (.int (if i < 0 then -i else i)) H) [D K (.int a)] M (D K (.int (if a < 0 then -a else a))) M := fun E F H vs g h Q k => by
  obtain ⟨v, rfl, p1⟩ := ps1 h
  cases dp_int p1
  exact ⟨a, rfl, k _ F H (Evl.Ex.refl _) g (.int _)⟩
end
end Hq
namespace Hq
open PySem L2
section
variable {K : PySem.W.Frag} {M : Ms} {P : MP} {q : Addr} {j : Nat}
/-- xs[-1] of an own list -/
theorem rv_ixEnd {ps : List MP} (e : M[j]? = some (q, ML ps)) (h : ps.getLast? = some P) : RV (rIx K) (Own q) (D K (.int (-1))) M P M := fun E F H x y a p1 p2 Q k => by
  cases dp_int p2
  have p1 : x = .ref q := p1
  subst p1
  obtain ⟨fq, o, ho, vs, rfl, s⟩ := a.at e
  rw [List.getLast?_eq_getElem?] at h
  obtain ⟨v, hv, hp⟩ := paired_get s h
  have hl := paired_len s
  have hlt : ps.length - 1 < vs.length := by
    rcases Nat.lt_or_ge (ps.length - 1) vs.length with c | c
    · exact c
    · rw [List.getElem?_eq_none c] at hv; cases hv
  refine .inl ⟨q, vs, -1, v, rfl, rfl, SqL.of ho, ?_, k v F H (Evl.Ex.refl _) a hp⟩
  unfold atI ixN
  rw [if_neg (by omega), if_pos (by omega)]
  show vs[((-1 : Int) + (vs.length : Int)).toNat]? = some v
  rw [show ((-1 : Int) + (vs.length : Int)).toNat = ps.length - 1 by omega]
  exact hv
end
section
variable {K : PySem.W.Frag} {E E0 : Ent} {F H : Hp} {M M1 M2 M' : Ms} {Γ : Gm} {P P1 : MP} {O O' : MO} {q : Addr} {te ta tb tl tk tv td : TE} {tr : TA} {D1 : Ends} {tu tz : TS} {t u : TT} {ps : List MP} {i j : Nat}
/-- xs.append(e), e one of several -/
theorem go_appE {α : Type} {φ : α → Prop} {R : α → MP} {ps : List MP} (ho : Ev ta Γ M (Own q) M) (h : Ev te Γ M (PEx fun x => PAn (φ x) (R x)) M1) (e0 : M[j]? = some (q, ML ps)) (e : M1[j]? = some (q, ML ps)) (hz : ps.length < 100000) (k : ∀ x, φ x → Nx E Γ (M1.set j (q, ML (ps ++ [R x]))) D1.nx) :
    Nx E Γ M (tDrop (tBM K "list" rAppend ta (tCons te tNil)) D1) := fun σ H ⟨F, a, b⟩ => ho E F σ H a b _ fun v F1 H1 e1 g1 p1 => by
  have p1 : v = .ref q := p1
  subst p1
  obtain ⟨_, o, ho1, ws0, rfl, _⟩ := g1.at e0
  refine ⟨.inl ⟨rfl, ws0, SqL.of ho1⟩, ?_⟩
  refine h E F1 σ H1 g1 (b.mono e1) _ fun w F2 H2 e2 g2 ⟨x, hx, p2⟩ => ?_
  obtain ⟨_, o, ho2, ws, rfl, s⟩ := g2.at e
  refine ⟨q, ws, w, rfl, rfl, ho2, sz_lt (by rw [paired_len s]; exact hz), ?_⟩
  exact k x hx _ _ ⟨F2, g2.mut e ⟨_, rfl, paired_app s (.cons p2 .nil)⟩, b.mono (e1.trans e2)⟩
theorem q_appE {α : Type} {φ : α → Prop} {R : α → MP} {ps : List MP} (ho : Ev ta Γ M (Own q) M) (h : Ev te Γ M (PEx fun x => PAn (φ x) (R x)) M1) (e0 : M[j]? = some (q, ML ps)) (e : M1[j]? = some (q, ML ps)) (hz : ps.length < 100000) (k : ∀ x, φ x → Nx E Γ (M1.set j (q, ML (ps ++ [R x]))) (tz D1)) :
    Nx E Γ M (tSeq (tDrop (tBM K "list" rAppend ta (tCons te tNil))) tz D1) := go_appE (D1 := { D1 with nx := tz D1 }) ho h e0 e hz k
theorem upd_id {H : Hp} {q : Addr} {o : HO} (h : H q = some o) : upd H q o = H := by
  funext a
  unfold upd
  split
  · rename_i e; rw [e, h]
  · rfl
theorem Pt.openX {α : Type} {φ : α → Prop} {R : α → MO} (h : Pt E F M H) (e : M[j]? = some (q, MX fun x => MA (φ x) (R x))) : ∃ x, φ x ∧ Pt E F (M.set j (q, R x)) H := by
  obtain ⟨_, o, ho, x, hx, hR⟩ := h.at e
  have := h.mut (O' := R x) e hR
  rw [upd_id ho] at this
  exact ⟨x, hx, this⟩
theorem nx_openX {f} {α : Type} {φ : α → Prop} {R : α → MO} (e : M[j]? = some (q, MX fun x => MA (φ x) (R x))) (k : ∀ x, φ x → Nx E Γ (M.set j (q, R x)) f) : Nx E Γ M f := fun σ H ⟨F, a, b⟩ => by
  obtain ⟨x, hx, a2⟩ := a.openX e
  exact k x hx σ H ⟨F, a2, b⟩
end
end Hq
namespace L2
open PySem PySem.Spec PyProof.Rows
section
variable {X : Cx} {pins : List (Addr × Obj)} {σ : St} {H : Hp} {s : Shared} {d : Addr} {o : Obj}
/-! ### for k, v in d.items(): a dict whose keys are tuples -/
theorem frzTV {kvs : List (List Key × V)} (I : Inv X pins σ H s) (h : H d = some (.frz o (.dT kvs))) :
    (d == sysModules) = false ∧ kvs.length ≤ sizeLine ∧ ∃ (es : Array DictEntry) (ep : Nat), DT.Raw s.heap d es ep ∧ o.data = .dict es ep ∧ o.dict = none ∧ s.heap.get? d = some o ∧ es.size = kvs.length ∧
      ∀ (i : Nat) (k : List Key) (v : V), kvs[i]? = some (k, v) → ∃ (en : DictEntry) (q : Addr), es[i]? = some en ∧ en.key = .ref q ∧ H q = some (.tup (k.map kV)) ∧ RelV v en.val := by
  obtain ⟨hd, z, hs, xs, pr, o', es, ep, ho, hx, hdt, he, _⟩ := I.hok d _ h
  rw [hd] at ho
  cases ho
  refine ⟨hs, z, es, ep, ⟨_, hd, hx, hdt⟩, hdt, hx.2.1, hd, ?_, fun i k v e => ?_⟩
  · have l1 : es.size = xs.length := size_of_entries he
    have l2 : kvs.length = xs.length := Paired.length pr
    omega
  · obtain ⟨b, hb, e1, e2, e3⟩ := paired_get pr e
    have q := entry_at he i
    rw [hb] at q
    exact ⟨_, b.2.1, q, rfl, e2, e3⟩
end
def ItiT (d : Addr) (o : Obj) (kvs : List (List Key × V)) : It :=
  ⟨fun i H => H d = some (.frz o (.dT kvs)) ∧ i < kvs.length, fun i H x H' => ∃ T k v q, kvs[i]? = some (k, v) ∧ H q = some (.tup (k.map kV)) ∧ x = .ref T ∧ H T = none ∧ H' = upd H T (.tup [.ref q, v]), fun i H => H d = some (.frz o (.dT kvs)) ∧ kvs.length ≤ i⟩
section
variable {P : Program} {w : World} {K : PySem.W.Frag} {tg : Expr} {d : Addr} {o : Obj} {es : Array DictEntry} {ep : Nat}
theorem turn_itemsT {kvs : List (List Key × V)} {elts : List Expr} {kk : Nat} {tpos : Pos} (it : Addr) (hod : o.data = .dict es ep) :
    Turn P w K (.Tuple elts kk tpos) (ItiT d o kvs) [it] it (fun i h => ∃ ok ov, IsItemIter h it d i kvs.length ep ok ov) where
  mem := by simp
  obj := fun i h st b hb => by
    have e : b = it := by simpa using hb
    subst e
    obtain ⟨ok, ov, e⟩ := st
    exact ⟨_, e, fun v z => nomatch z⟩
  keep := fun i h h' st k => let ⟨ok, ov, e⟩ := st; ⟨ok, ov, k it (by simp) _ e⟩
  item := by
    intro X hP hw hK hc i pins s σ H E I hf st hg
    subst hP hw hK
    obtain ⟨hd, hi⟩ := hg
    obtain ⟨hs, hzl, es', ep', hm, hdt, _, _, hsz, ent⟩ := frzTV I hd
    obtain ⟨rfl, rfl⟩ := dict_ep hod hdt
    obtain ⟨⟨k, v⟩, hkv⟩ : ∃ p, kvs[i]? = some p := ⟨kvs[i], List.getElem?_eq_getElem hi⟩
    obtain ⟨en, q, hen, hkey, hq, ru⟩ := ent i k v hkv
    obtain ⟨ok, ov, he⟩ := st
    rw [← hsz] at he
    have hlt : it < s.heap.objs.size := Heap.lt_size he
    have hi2 : i < es'.size := by omega
    have hee : es'[i] = en := by rw [Array.getElem?_eq_getElem hi2] at hen; exact Option.some.inj hen
    refine DT.nextI he hm hi2 fun h' ho hT hz hk => ?_
    refine ⟨_, rfl, wpAny_letOwnedTupleGo_items (s := { s with heap := h' }) ho fun h'' he' sb => ?_⟩
    rw [hee, hkey] at hT
    have hT2 : h''.get? s.heap.objs.size = some { cls := .type "tuple", data := .seq #[.ref q, en.val] } := (sb.2 _ (Nat.ne_of_gt hlt)).trans hT
    have new : ObjOk X.prog X.w (upd H s.heap.objs.size (.tup [.ref q, v])) h'' s.heap.objs.size (.tup [.ref q, v]) :=
      ⟨by show 2 ≤ sizeLine; decide, [.ref q, en.val], .cons rfl (.cons ru .nil), ⟨_, hT2, rfl, _, rfl⟩⟩
    have I1 : Inv X pins σ (upd H s.heap.objs.size (.tup [.ref q, v])) { s with heap := h'' } :=
      I.turnedNew (t' := s.toks) (ch := [it]) (fun b ob hb e => (sb.2 b (by simpa using hb)).trans (hk b ob (by simpa using hb) e)) hf (Nat.le_refl _) new
    refine ⟨.ref s.heap.objs.size, _, I1, rfl, ⟨_, k, v, q, hkv, hq, rfl, I.hok.fresh (Nat.le_refl _), rfl⟩, ⟨es'[i].key, es'[i].val, ?_⟩, fun b hb => ?_⟩
    · rw [← hsz]; exact he'
    · have e : b = it := by simpa using hb
      rw [e, upd_ne (Nat.ne_of_lt hlt)]
      exact (hf it (by simp)).1
  done := by
    intro X hP hw hK hc i pins s σ H E I hf st hg
    subst hP hw hK
    obtain ⟨hd, hi⟩ := hg
    obtain ⟨f0, f1, f2, f3, f4, f5⟩ := hf it (by simp)
    obtain ⟨hs, hzl, es', ep', hm, hdt, _, _, hsz, ent⟩ := frzTV I hd
    obtain ⟨rfl, rfl⟩ := dict_ep hod hdt
    obtain ⟨ok, ov, he⟩ := st
    rw [← hsz] at he
    exact DT.endI (I.ok.hd hc) he hm (by omega) fun h' eb => ⟨rfl, I.turned (t' := s.toks) (fun b ob hb e => eb b ob hb e) f0 f1 f3 f4 f5⟩
  self := fun A i s Q E st h => let ⟨_, _, e⟩ := st; PySem.W.kcp_self e h
end
def iItemsT (td : TE) : TI := fun σ H R => td σ H fun x H1 => ∃ d o kvs, x = .ref d ∧ H1 d = some (.frz o (.dT kvs)) ∧ R (ItiT d o kvs) H1
section
variable {X : Cx} {tg e : Expr} {td : TE} {apos cpos : Pos}
theorem pi_itemsT {elts : List Expr} {kk : Nat} {tpos : Pos} (he : PE X e td) (hbase : attributeBase e "items" X.env (eval e X.env) = eval e X.env := by rfl) (hline : (apos.endLine == cpos.line) = true := by rfl) :
    PI X (.Tuple elts kk tpos) (.Call (.Attribute e "items" apos) [] [] cpos) (iItemsT td) := by
  refine ⟨fun pins s σ H R I h => ?_⟩
  refine wpAny_Call_method (T := "dict") (id := "dict.items") hbase rfl hline F.plainAttrs_dict F.slot_dict_items F.type_dict_items (thn (he.run pins s σ H _ I h) fun u s1 ⟨x, H1, I1, rx, d, o, kvs, ex, hd, q⟩ => ?_)
  subst ex
  obtain rfl : u = Value.ref d := rx
  obtain ⟨hs, hzl, es, ep, hm, hdt, hno, hgd, hsz, ent⟩ := frzTV I1 hd
  refine ⟨hm.typeIs, fun b eb => by cases eb; exact ⟨o, hgd, hno⟩, ?_⟩
  have I2 : Inv X pins σ H1 { s1 with heap := s1.heap.push { cls := .type "dict_items", data := .fields #[.ref d] } } := I1.kept (t' := s1.toks) fun b ob q => Heap.get?_push_of_some _ q
  have fin : wpAny (model X.prog X.w) X.A (pyIter (.ref s1.heap.objs.size)) (PIE X pins σ (.Tuple elts kk tpos) R) X.xe { s1 with heap := s1.heap.push { cls := .type "dict_items", data := .fields #[.ref d] } } := by
    refine DT.iterI (d := d) ⟨_, Heap.get?_push_size _ rfl, rfl, rfl⟩ (hm.push _) (pi_one (tk := s1.toks) I2 _ (turn_itemsT _ hdt) ⟨.none, .none, ?_⟩ q)
    rw [← hsz]
    exact Heap.get?_push_size _ rfl
  show wpAny _ _ (callWith cpos (.builtin "dict.items") [.ref d] [] []) _ X.xe s1
  exact method_meetsIn F.slot_dict_items F.entry_dict_items rfl (PySem.evalArgs_none ⟨rfl, hm.typeIs, F.args_dict_items_1 _, _, DT.meetsItems (es := es) (ep := ep) hs, ⟨hm, fin⟩⟩)
end
end L2
namespace L2
open PySem PySem.Spec PyProof.Rows
theorem for_ItiT {d : Addr} {o : Obj} {kvs : List (List Key × V)} {g : TG} {tb : TS} {D : Ends} {σ : St} {H : Hp} (Pv : Nat → St → Hp → Prop) (h0 : Pv 0 σ H) (hq : ∀ i σ H, Pv i σ H → H d = some (.frz o (.dT kvs)))
    (hs : ∀ (i : Nat) (k : List Key) (v : V) (q T : Addr) (σ : St) (H : Hp), kvs[i]? = some (k, v) → H q = some (.tup (k.map kV)) → H T = none → Pv i σ H → g (.ref T) σ (upd H T (.tup [.ref q, v])) fun σ2 H2 => tb { D with nx := Pv (i + 1), ct := Pv (i + 1), bk := D.nx } σ2 H2)
    (hd : ∀ σ H, Pv kvs.length σ H → D.nx σ H) :
    ∃ W : Nat → Nat → St → Hp → Prop, (∃ m, W 0 m σ H) ∧ ∀ i m σ H, W i m σ H →
      ((ItiT d o kvs).stop i H ∧ D.nx σ H) ∨ ((ItiT d o kvs).go i H ∧ ∃ N : St → Hp → Prop, (∀ σ' H', N σ' H' → ∃ m', m' < m ∧ W (i + 1) m' σ' H') ∧ ∀ v H', (ItiT d o kvs).yld i H v H' → g v σ H' fun σ2 H2 => tb { D with nx := N, ct := N, bk := D.nx } σ2 H2) := by
  refine ⟨fun i m σ H => m = kvs.length - i ∧ i ≤ kvs.length ∧ Pv i σ H, ⟨kvs.length, rfl, Nat.zero_le _, h0⟩, ?_⟩
  rintro i m σ H ⟨rfl, hi, p⟩
  by_cases hlt : i < kvs.length
  · refine .inr ⟨⟨hq i σ H p, hlt⟩, Pv (i + 1), fun σ' H' p' => ⟨kvs.length - (i + 1), by omega, rfl, hlt, p'⟩, fun v H' y => ?_⟩
    obtain ⟨T, k, v', q, hkv, hk, rfl, hT, rfl⟩ := y
    exact hs i k v' q T σ H hkv hk hT p
  · have e : i = kvs.length := by omega
    subst e
    exact .inl ⟨⟨hq _ σ H p, Nat.le_refl _⟩, hd σ H p⟩
end L2
namespace Hq
open PySem L2
/-- a dict whose keys are tuples of ints, whose values data tuples of ints -/
def MDP (K : PySem.W.Frag) (L : List (List Int × List Int)) : MO :=
  ⟨fun F o => ∃ kvs : List (List Key × V), o = .dT kvs ∧ Paired (fun (p : List Key × V) (z : List Int × List Int) => p.1 = z.1.map Sum.inl ∧ (D K (dT z.2)).p F p.2) kvs L, fun e ⟨kvs, h, p⟩ => ⟨kvs, h, Paired.mapP p fun _ _ q => ⟨q.1, (D K _).mono e q.2⟩⟩, fun ⟨kvs, h, _⟩ xs z => by rw [h] at z; cases z⟩
/-- .. while it is walked -/
def MLk (o : Obj) (kvs : List (List Key × V)) : MO := ⟨fun _ x => x = .frz o (.dT kvs), fun _ h => h, fun h xs z => by rw [h] at z; cases z⟩
section
variable {K : PySem.W.Frag} {E E0 : Ent} {F H : Hp} {M M1 M2 M' : Ms} {Γ : Gm} {P P1 : MP} {O O' : MO} {q : Addr} {te ta tb tl tk tv td tx : TE} {tr : TA} {D1 : Ends} {tu tz : TS} {t u : TT} {ps : List MP} {i j v jj : Nat} {L : List (List Int × List Int)} {l w : List Int}
theorem go_forIt (hv : Γ[v]? = some (some (Own q))) (e : M[jj]? = some (q, MDP K L)) (J : MO → Nat → Gm → Ms → Prop) (h0 : ∀ O, J O 0 Γ (M.set jj (q, O))) (hJ : ∀ O n Γ' M', J O n Γ' M' → Γ'[v]? = some (some (Own q)) ∧ ∃ j' : Nat, M'[j']? = some (q, O))
    (hs : ∀ E', Le E' E → ∀ O n z, L[n]? = some z → ∀ Γ' M', J O n Γ' M' → ∀ r b, Nx E' ((Γ'.set i (some (NT z.1))).set j (some (D K (dT z.2)))) M' (tu ⟨JA E' (J O (n + 1)), r, b, JA E' (J O (n + 1))⟩))
    (hd : ∀ O Γ' M', J O L.length Γ' M' → ∃ j' : Nat, M'[j']? = some (q, O) ∧ Nx E Γ' (M'.set j' (q, MDP K L)) D1.nx) : Nx E Γ M (tLock (tFor (iItemsT (tVar v)) (gPair K i j) tu) D1) := fun σ H ⟨F, a, b⟩ => by
  obtain ⟨fq, o, ho, kvs, rfl, pr⟩ := a.at e
  refine ⟨q, .dT kvs, ho, True.intro, fun od => ?_⟩
  have gl : Pt E F (M.set jj (q, MLk od kvs)) (upd H q (.frz od (.dT kvs))) := a.mut e rfl
  unfold tFor iItemsT
  refine (ev_var hv) E F σ _ gl b _ fun x F1 H1 e1 g1 hx => ?_
  have hx : x = .ref q := hx
  subst hx
  have ljj : jj < M.length := (List.getElem?_eq_some_iff.mp e).1
  obtain ⟨_, ob, ho1, rfl⟩ := g1.at (j := jj) (O := MLk od kvs) (by rw [List.getElem?_set_self ljj])
  refine ⟨q, od, kvs, rfl, ho1, for_ItiT (fun n σ H => JA ⟨F1, H1, keys (M.set jj (q, MLk od kvs))⟩ (J (MLk od kvs) n) σ H) ⟨Γ, _, h0 _, F1, g1.enter, b.mono e1⟩ (fun n σ2 H2 ⟨Γ', M', hJn, F2, g2, _⟩ => ?_) (fun n k y qk T σ2 H2 hkv hk hT ⟨Γ', M', hJn, F2, g2, b2⟩ => ?_) (fun σ2 H2 ⟨Γ', M', hJn, F2, g2, b2⟩ => ?_)⟩
  · obtain ⟨_, j', hj⟩ := hJ _ _ _ _ hJn
    obtain ⟨_, _, h, rfl⟩ := g2.at hj
    exact h
  · obtain ⟨z, hz, ek, dy⟩ := paired_get' pr hkv
    obtain ⟨F3, e3, hF3, g3⟩ := g2.learn hk
    have g4 := g3.junk (o := .tup [.ref qk, y]) hT
    have nt : (NT z.1).p F3 (.ref qk) := ⟨qk, rfl, by rw [hF3, show k = z.1.map Sum.inl from ek, kv_ints]⟩
    have ex : Ex F F3 := e1.trans (g2.gr.ex.trans e3)
    refine ⟨T, [.ref qk, y], rfl, SqT.of upd_same, rfl, .ref qk, [y], rfl, y, [], rfl, rfl, ?_⟩
    exact hs ⟨F1, H1, keys (M.set jj (q, MLk od kvs))⟩ g1.le (MLk od kvs) n z hz Γ' M' hJn _ _ _ _ ⟨F3, g4, ((b2.mono e3).set i (P := NT z.1) nt).set j ((D K (dT z.2)).mono ex dy)⟩
  · have hl : kvs.length = L.length := Paired.length pr
    rw [hl] at hJn
    obtain ⟨j', hj, hn⟩ := hd _ Γ' M' hJn
    obtain ⟨_, _, h, rfl⟩ := g2.at hj
    refine ⟨h, ?_⟩
    have g5 := g1.back g2
    have g6 := g5.mut (O' := MDP K L) (o' := .dT kvs) hj ⟨kvs, rfl, Paired.mapP pr fun _ _ c => ⟨c.1, (D K _).mono (e1.trans g2.gr.ex) c.2⟩⟩
    exact hn _ _ ⟨F2, g6, b2⟩
end
end Hq
namespace HqW
open PySem PySem.Spec PySem.W
section
variable {prog : Program} {w : World} {A : Around} {E : Value → Shared → Prop} {s : Shared}
/-! ### min(x, y) of two tuples of ints -/
theorem min2_data {a b : Value} {x y : PyData} {as : List Addr} {Q : Value → Shared → Prop} (hh : A.handled = none) (hr : ReadsAll s.heap [a, b] [x, y] as) (ha : AlikeAll [x, y]) (hu : A.units + 1 + PyData.depthAll [x, y] < cLine)
    (h : ∀ h' tk, (∀ c o, s.heap.get? c = some o → h'.get? c = some o) → Q (if dataLt y x = true then b else a) { s with heap := h', toks := tk }) : wpAny (model prog w) A (call (.builtin "min") [a, b]) Q E s := by
  have nm : (toString "min" ++ toString ".loop" : String) = "min.loop" := by decide
  refine call_function_tree F.kind_min F.plain_min F.entry_min (F.args_min2 _ _) ?_
  show wpAny _ A.in1 (Builtin.Builtins.bindParams "min" ["key", "default"] 0 ⟨[], []⟩ >>= _) _ _ s
  refine wpAny_bind (wpAny_of_eq (show Builtin.Builtins.bindParams "min" ["key", "default"] 0 ⟨[], []⟩ = pure [none, none] from rfl) ?_)
  show wpAny _ A.in1 (newTuple [a, b] >>= _) _ _ s
  refine wpAny_bind (wpAny_newObj_type ?_)
  have hT : (s.heap.push { cls := .type "tuple", data := .seq #[a, b] }).IsTuple s.heap.objs.size #[a, b] := ⟨_, Heap.get?_push_size _ rfl, rfl, 0, rfl⟩
  have k0 : ∀ c o, s.heap.get? c = some o → (s.heap.push { cls := .type "tuple", data := .seq #[a, b] }).get? c = some o := fun c o e => Heap.get?_push_of_some _ e
  have hr2 : ∃ bs, ReadsAll (s.heap.push { cls := .type "tuple", data := .seq #[a, b] }) (#[a, b] : Array Value).toList [x, y] bs := by
    cases hr with
    | cons r1 rs =>
      cases rs with
      | cons r2 rn =>
        cases rn
        exact ⟨_, .cons (reads_keeps k0 r1) (.cons (reads_keeps k0 r2) .nil)⟩
  obtain ⟨bs, hr2⟩ := hr2
  refine wpAny_bind (iter_tupleW (s := { s with heap := s.heap.push { cls := .type "tuple", data := .seq #[a, b] } }) (A := A.in1) hh hT fun s₂ e W st hfp hw hk => ?_)
  refine wpAny_bind (wpAny_newObj_type ?_)
  have hSf : s₂.heap.objs.size ∉ [(s.heap.push { cls := .type "tuple", data := .seq #[a, b] }).objs.size, s.heap.objs.size] := fun hm => Nat.lt_irrefl _ (hfp _ hm)
  rw [nm]
  have cmp := cmpIn_lt (prog := prog) (w := w) (s := { s with heap := s.heap.push { cls := .type "tuple", data := .seq #[a, b] } }) (A := A.in1) hr2 ha (by show A.units + 1 + _ < _; exact hu)
  refine wpAny_pure ⟨plainId_quiet F.plain_min_loop _, codeAny_min_loop_firstH W (s.heap.push { cls := .type "tuple", data := .seq #[a, b] }) hw _ cmp s₂.heap.objs.size hSf (fresh_in hk) _ (by simp) (fun b o e => Heap.get?_push_of_some _ (hk b o e)) (W.frame 0 s₂ _ s₂.toks st (Nat.le_refl _) fun b _ o e => Heap.get?_push_of_some _ e) (Heap.get?_push_size _ rfl) fun v s' hP hm => ?_⟩
  obtain ⟨h', tk, rfl, hk'⟩ := moved_old (s := { s with heap := s.heap.push { cls := .type "tuple", data := .seq #[a, b] } }) e rfl (Moved.drop_new (tk := s₂.toks) hm (Nat.le_refl _))
  have hv : v = if dataLt y x = true then b else a := by
    have hP : (#[a, b] : Array Value)[argBest (fun i j => dataLt ([x, y].getD i .none) ([x, y].getD j .none)) 1]? = some v := hP
    have e1 : argBest (fun i j => dataLt ([x, y].getD i .none) ([x, y].getD j .none)) 1 = if dataLt y x = true then 1 else 0 := rfl
    rw [e1] at hP
    by_cases c : dataLt y x = true
    · rw [if_pos c] at hP ⊢
      exact (Option.some.inj hP).symm
    · rw [if_neg c] at hP ⊢
      exact (Option.some.inj hP).symm
  rw [hv]
  exact h h' tk fun c o ec => hk' c o (k0 c o ec)
end
end HqW
namespace Hq
open PySem L2
def rMin2 (K : PySem.W.Frag) : List V → Hp → VK → Prop := fun vs H Q => ∃ (u v : V) (l m : List Int), vs = [u, v] ∧ Dp K H u (dT l) ∧ Dp K H v (dT m) ∧ Q (if m < l then v else u) H
theorem cr_min2T {X : Cx} (hc : X.calm = true) (hu : X.A.units + 64 < cLine) : CallR X (.builtin "min") (rMin2 X.K) := by
  intro pn st sg H vs us Q I r h
  obtain ⟨u, v, l, m, rfl, du, dv, q⟩ := h
  obtain ⟨u', v', rfl, ru, rv⟩ := vals2 r
  obtain ⟨as, hr⟩ := each_reads I (xs := [u, v]) (its := [u', v']) (L := [l, m]) (.cons ru (.cons rv .nil)) (.cons du (.cons dv .nil))
  refine HqW.min2_data (I.ok.hd hc) (by simpa using hr) ⟨fun x hx y hy => ?_, fun x hx => ?_⟩ (by have := deep_all (L := [l, m]); simp only [List.map_cons, List.map_nil] at this; omega) fun h' tk hk => ?_
  · have hx : x ∈ ([l, m]).map dT := hx
    have hy : y ∈ ([l, m]).map dT := hy
    obtain ⟨l, _, rfl⟩ := List.mem_map.mp hx
    obtain ⟨m, _, rfl⟩ := List.mem_map.mp hy
    show PySem.W.alike (.tuple _) (.tuple _) = true
    simp only [PySem.W.alike]
    exact PySem.W.alike_ints _ _
  · have hx : x ∈ ([l, m]).map dT := hx
    obtain ⟨l, _, rfl⟩ := List.mem_map.mp hx
    exact fun z => by cases z
  · have e : PySem.W.dataLt (dT m) (dT l) = decide (m < l) := by
      show PySem.W.dataLt (.tuple (m.map .int)) (.tuple (l.map .int)) = _
      rw [PySem.W.dataLt_tuple]
      show PySem.W.rowLt (m.map .int) (l.map .int) = _
      exact PySem.W.dataLt_ints _ _
    rw [e]
    by_cases c : m < l
    · rw [decide_eq_true c, if_pos rfl]
      rw [if_pos c] at q
      exact ⟨v, H, I.kept hk, rv, q⟩
    · rw [decide_eq_false c, if_neg (by decide)]
      rw [if_neg c] at q
      exact ⟨u, H, I.kept hk, ru, q⟩
theorem c_min2T {K : PySem.W.Frag} {Y : Cx} (e : Y.K = K) (hc : Y.calm = true) (hu : Y.A.units + 64 < cLine) : CallR Y (.builtin "min") (rMin2 K) := e ▸ cr_min2T hc hu
section
variable {K : PySem.W.Frag} {E E0 : Ent} {F H : Hp} {M M1 M2 M' : Ms} {Γ : Gm} {P P1 : MP} {O O' : MO} {q : Addr} {te ta tb tl tk tv td tx : TE} {tr : TA} {D1 : Ends} {tu tz : TS} {t u : TT} {ps : List MP} {i j v jj : Nat} {L : List (List Int × List Int)} {l w : List Int}
theorem rc_min2T {a b : List Int} : RC (rMin2 K) [D K (dT a), D K (dT b)] M (D K (dT (if b < a then b else a))) M := fun E F H vs g h Q k => by
  obtain ⟨x, y, rfl, p1, p2⟩ := ps2 h
  refine ⟨x, y, a, b, rfl, Dp.mono g.ex p1, Dp.mono g.ex p2, ?_⟩
  by_cases c : b < a
  · rw [if_pos c]; exact k y F H (Evl.Ex.refl _) g (by rw [if_pos c]; exact p2)
  · rw [if_neg c]; exact k x F H (Evl.Ex.refl _) g (by rw [if_neg c]; exact p1)
/-! ### d.get(t, x), d[t] = x -/
def lkD (L : List (List Int × List Int)) (l : List Int) : Option (List Int) := (L.find? fun z => decide (z.1 = l)).map (·.2)
def putD (L : List (List Int × List Int)) (l w : List Int) : List (List Int × List Int) := if (L.any fun z => decide (z.1 = l)) = true then L.map (fun z => if z.1 = l then (z.1, w) else z) else L ++ [(l, w)]
def PrD (K : PySem.W.Frag) (F : Hp) : (List Key × V) → (List Int × List Int) → Prop := fun p z => p.1 = z.1.map Sum.inl ∧ (D K (dT z.2)).p F p.2
theorem prd_key {a b : List Int} {k : List Key} (h : k = a.map Sum.inl) : (decide (k = (b.map Sum.inl : List Key))) = decide (a = b) := by
  rw [h, Bool.eq_iff_iff, decide_eq_true_iff, decide_eq_true_iff]
  exact inl_inj
theorem prd_val {F : Hp} : ∀ {kvs : List (List Key × V)} {L : List (List Int × List Int)}, Paired (PrD K F) kvs L → (lkD L l = none ∧ valV kvs (l.map Sum.inl) = none) ∨ ∃ w v, lkD L l = some w ∧ valV kvs (l.map Sum.inl) = some v ∧ (D K (dT w)).p F v
  | _, _, .nil => .inl ⟨rfl, rfl⟩
  | p :: kvs, z :: L, .cons a t => by
    have e := prd_key (b := l) a.1
    by_cases c : z.1 = l
    · rw [decide_eq_true c] at e
      refine .inr ⟨z.2, p.2, ?_, valV_pos (of_decide_eq_true e), a.2⟩
      unfold lkD
      rw [List.find?_cons, decide_eq_true c]; rfl
    · rw [decide_eq_false c] at e
      have h1 : lkD (z :: L) l = lkD L l := by
        unfold lkD
        rw [List.find?_cons, decide_eq_false c]
      rw [h1, valV_neg (of_decide_eq_false e)]
      exact prd_val t
theorem prd_any {F : Hp} : ∀ {kvs : List (List Key × V)} {L : List (List Int × List Int)}, Paired (PrD K F) kvs L → (kvs.any fun kv => decide (kv.1 = (l.map Sum.inl : List Key))) = L.any fun z => decide (z.1 = l)
  | _, _, .nil => rfl
  | p :: kvs, z :: L, .cons a t => by
    rw [List.any_cons, List.any_cons, prd_key (b := l) a.1, prd_any t]
theorem prd_put {F : Hp} {y : V} {kvs : List (List Key × V)} {L : List (List Int × List Int)} (h : Paired (PrD K F) kvs L) (hy : (D K (dT w)).p F y) : Paired (PrD K F) (putK kvs (l.map Sum.inl) y) (putD L l w) := by
  unfold putK putD
  rw [prd_any h]
  split
  · have key : ∀ {kvs : List (List Key × V)} {L : List (List Int × List Int)}, Paired (PrD K F) kvs L → Paired (PrD K F) (kvs.map fun kv => if kv.1 = (l.map Sum.inl : List Key) then (kv.1, y) else kv) (L.map fun z => if z.1 = l then (z.1, w) else z) := fun {kvs L} h => by
      induction h with
      | nil => exact .nil
      | @cons p z kvs L a t ih =>
        refine .cons ?_ ih
        dsimp only
        have e := prd_key (b := l) a.1
        by_cases c : z.1 = l
        · rw [decide_eq_true c] at e
          rw [if_pos c, if_pos (of_decide_eq_true e)]
          exact ⟨a.1, hy⟩
        · rw [decide_eq_false c] at e
          rw [if_neg c, if_neg (of_decide_eq_false e)]
          exact a
    exact key h
  · exact paired_app h (.cons ⟨rfl, hy⟩ .nil)
theorem ev_dgetT (hd : Ev td Γ M (Own q) M) (hk : Ev tk Γ M (NT l) M1) (hx : Ev tx Γ M1 (D K (dT w)) M2) (e0 : M[j]? = some (q, MDP K L)) (e : M2[j]? = some (q, MDP K L)) : Ev (tDGet2 td tk tx) Γ M (D K (dT ((lkD L l).getD w))) M2 := fun E F σ H a b Q k => hd E F σ H a b _ fun v F1 H1 e1 g1 p1 => by
  have p1 : v = .ref q := p1
  subst p1
  obtain ⟨_, o, ho1, kvs0, rfl, _⟩ := g1.at e0
  refine ⟨q, rfl, .inr ⟨kvs0, .inl ho1⟩, hk E F1 σ H1 g1 (b.mono e1) _ fun y F2 H2 e2 g2 ⟨bb, ey, hb⟩ => hx E F2 σ H2 g2 (b.mono (e1.trans e2)) _ fun z F3 H3 e3 g3 p3 => ?_⟩
  subst ey
  obtain ⟨_, o, ho3, kvs, rfl, pr⟩ := g3.at e
  refine ⟨_, DGet.t ho3 (k := l.map Sum.inl) (by rw [kv_ints]; exact g3.ex _ _ (e3 _ _ hb)), ?_⟩
  refine k _ F3 H3 ((e1.trans e2).trans e3) g3 ?_
  rcases prd_val (l := l) (show Paired (PrD K F3) kvs L from pr) with ⟨h1, h2⟩ | ⟨w', v', h1, h2, h3⟩
  · rw [h1, h2]; exact p3
  · rw [h1, h2]; exact h3
theorem go_dputT (hv : Ev tv Γ M (D K (dT w)) M1) (hd : Ev td Γ M1 (Own q) M1) (hk : Ev tk Γ M1 (NT l) M1) (e : M1[j]? = some (q, MDP K L)) (hz : L.length < 100000) (k : Nx E Γ (M1.set j (q, MDP K (putD L l w))) D1.nx) : Nx E Γ M (sDPut td tk tv D1) := fun σ H ⟨F, a, b⟩ => by
  refine hv E F σ H a b _ fun y F1 H1 e1 g1 p1 => hd E F1 σ H1 g1 (b.mono e1) _ fun x F2 H2 e2 g2 p2 => hk E F2 σ H2 g2 (b.mono (e1.trans e2)) _ fun z F3 H3 e3 g3 ⟨bb, ez, hb⟩ => ?_
  subst ez
  have p2 : x = .ref q := p2
  subst p2
  obtain ⟨fq, o, ho, kvs, rfl, pr⟩ := g3.at e
  have hlen : kvs.length = L.length := Paired.length pr
  refine ⟨q, _, rfl, DPut.t ho (k := l.map Sum.inl) (by rw [kv_ints]; exact g3.ex _ _ hb) (sz_lt (by omega)), ?_⟩
  exact k _ _ ⟨F3, g3.mut e ⟨_, rfl, prd_put (show Paired (PrD K F3) kvs L from pr) ((D K _).mono (e2.trans e3) p1)⟩, b.mono ((e1.trans e2).trans e3)⟩
end
end Hq
namespace HqW
open PySem PySem.Spec PySem.W
section
variable {prog : Program} {w : World} {r d : Addr} {es : Array DictEntry} {ep : Nat}
/-! ### list(d.values()), whatever the keys are -/
theorem src_values : KdlSrc prog w "dict_values" r d es.size (fun i v => ∃ hi : i < es.size, v = es[i].val) (fun h => h.IsValuesView r d ∧ h.DictRaw d es ep) where
  type := fun _ hm => hm.1.typeIs
  there := fun _ hm => ⟨let ⟨_, ho, _⟩ := hm.1; Heap.lt_size ho, let ⟨_, ho, _⟩ := hm.2; Heap.lt_size ho⟩
  keep := fun _ _ hm hk => ⟨let ⟨o, ho, x⟩ := hm.1; ⟨o, hk r (.inl rfl) o ho, x⟩, hm.2.at fun o e => hk d (.inr rfl) o e⟩
  notList := by decide
  notTuple := by decide
  hint := fun _ _ _ _ hm hq => kdl_hint_values hm.1.typeIs hq
  iter := fun _ s hh hm => ⟨_, _, (fun _ _ hq => wpAny_pyIter_values_raw hm.1 hm.2 hq), Walks.rawValues hh _ d (let ⟨_, ho, _⟩ := hm.2; Nat.ne_of_lt (Heap.lt_size ho)) es ep, ⟨⟨_, Heap.get?_push_size _ rfl, rfl, rfl⟩, hm.2.at fun _ e => Heap.get?_push_of_some _ e⟩⟩
end
end HqW
namespace L2
open PySem PySem.Spec PyProof.Rows
def tListValsT (te : TE) : TE := fun σ H Q => te σ H fun x H1 => ∃ d kvs, x = .ref d ∧ H1 d = some (.dT kvs) ∧ ∀ p, H1 p = none → Q (.ref p) (upd H1 p (.lst (kvs.map (·.2))))
section
variable {X : Cx} {e : Expr} {te : TE} {p pos apos cpos : Pos}
theorem pe_listValsT (hc : X.calm = true) (he : PE X e te) (hg : Gl X "list") (hm : X.mg "list" = none) (hv : bootBuiltins "list" = some (.type "list")) (hbase : attributeBase e "values" X.env (eval e X.env) = eval e X.env := by rfl) (hline : (apos.endLine == cpos.line) = true := by rfl)
    (hs : starEach [.Call (.Attribute e "values" apos) [] [] cpos] X.env = (false, eval (.Call (.Attribute e "values" apos) [] [] cpos) X.env) :: starEach [] X.env := by rfl) :
    PE X (.Call (.Name "list" p) [.Call (.Attribute e "values" apos) [] [] cpos] [] pos) (tListValsT te) := by
  refine ⟨fun pins s σ H Q I hq => ?_⟩
  refine wpAny_Call_Name_kw (ld_blt I hg hm hv ?_)
  refine PyProof.Rows.callWith_type1 ?_ hs rfl
  rw [hs]
  show wpAny _ _ (spliced ((false, eval (.Call (.Attribute e "values" apos) [] [] cpos) X.env) :: backTo pos (starEach [] X.env))) _ _ s
  refine Calls.spliced_cons ?_
  refine wpAny_Call_method (T := "dict") (id := "dict.values") hbase rfl hline F.plainAttrs_dict F.slot_dict_values F.type_dict_values (thn (he.run pins s σ H _ I hq) fun u s1 ⟨x, H1, I1, rx, d, kvs, ex, hd, q⟩ => ?_)
  subst ex
  obtain rfl : u = Value.ref d := rx
  obtain ⟨z, hs0, xs, pr, o, es, ep, ho, hx, hdt, hE, hrest⟩ := dt_of I1.hok hd
  have raw : s1.heap.DictRaw d es ep := ⟨o, ho, hx, hdt⟩
  have l1 : es.size = xs.length := size_of_entries hE
  have l2 : kvs.length = xs.length := Paired.length pr
  refine ⟨raw.typeIs, fun b eb => by cases eb; exact ⟨o, ho, hx.2.1⟩, ?_⟩
  show wpAny _ _ (callWith cpos (.builtin "dict.values") [.ref d] [] []) _ X.xe s1
  refine method_meetsIn F.slot_dict_values F.entry_dict_values rfl (PySem.evalArgs_none ⟨rfl, raw.typeIs, F.args_dict_values_1 _, _, meets_dict_values_raw d hs0, ⟨⟨es, ep, raw⟩, ?_⟩⟩)
  refine Calls.spliced_nil ?_
  refine PySem.W.kdl_call (HqW.src_values (d := d) (es := es) (ep := ep)) (I1.ok.hd hc) ⟨⟨_, Heap.get?_push_size _ rfl, rfl, rfl⟩, raw.at fun _ e => Heap.get?_push_of_some _ e⟩ (by omega) fun h' tk acc c hk hS hacc => ?_
  have hlt : s1.heap.objs.size ≤ (s1.heap.push { cls := .type "dict_values", data := .fields #[.ref d] }).objs.size := by rw [Heap.size_push]; omega
  have vals : Vals (kvs.map (·.2)) acc.toList := by
    have key : ∀ (ks : List V) (vs : List Value), ks.length = vs.length → (∀ (i : Nat) (x : V) (v : Value), ks[i]? = some x → vs[i]? = some v → RelV x v) → Vals ks vs := by
      intro ks
      induction ks with
      | nil => intro vs hl _; cases vs with | nil => exact .nil | cons _ _ => simp at hl
      | cons x ks ih =>
        intro vs hl h
        cases vs with
        | nil => simp at hl
        | cons v vs => exact .cons (h 0 x v rfl rfl) (ih vs (by simpa using hl) fun i y u h1 h2 => h (i + 1) y u h1 h2)
    refine key _ _ (by have ha := hacc.1; have e1 : acc.toList.length = acc.size := Array.length_toList; have e2 : (kvs.map (·.2)).length = kvs.length := List.length_map _; omega) fun i x v h1 h2 => ?_
    rw [List.getElem?_map] at h1
    obtain ⟨kv, hkv, rfl⟩ := Option.map_eq_some_iff.mp h1
    obtain ⟨b, hb, e1, e2, e3⟩ := paired_get pr hkv
    have q := entry_at hE i
    rw [hb] at q
    obtain ⟨hi, rfl⟩ := hacc.2 i v (by rw [← Array.getElem?_toList]; exact h2)
    rw [Array.getElem?_eq_getElem hi] at q
    have q : es[i] = _ := Option.some.inj q
    rw [q]
    exact e3
  refine ⟨.ref _, upd H1 (s1.heap.push { cls := .type "dict_values", data := .fields #[.ref d] }).objs.size (.lst (kvs.map (·.2))), I1.laid (t' := tk) (fun b o e => hk b o (Heap.get?_push_of_some _ e)) hlt (show ObjOk X.prog X.w _ _ _ (.lst (kvs.map (·.2))) from ⟨by rw [List.length_map]; omega, acc.toList, c, vals, ?_⟩), rfl, q _ (I1.hok.fresh hlt)⟩
  rw [Array.toArray_toList]
  exact hS
end
end L2
namespace Hq
open PySem L2
section
variable {K : PySem.W.Frag} {E E0 : Ent} {F H : Hp} {M M1 M2 M' : Ms} {Γ : Gm} {P P1 : MP} {O O' : MO} {q : Addr} {te ta tb tl tk tv td tx : TE} {tr : TA} {D1 : Ends} {tu tz : TS} {t u : TT} {ps : List MP} {i j v jj : Nat} {L : List (List Int × List Int)} {l w : List Int} {b : Bool}
theorem prd_vals {F : Hp} : ∀ {kvs : List (List Key × V)} {L : List (List Int × List Int)}, Paired (PrD K F) kvs L → Ps F (kvs.map (·.2)) (L.map fun z => D K (dT z.2))
  | _, _, .nil => .nil
  | _, _, .cons a t => .cons a.2 (prd_vals t)
theorem evn_listValsT (hd : Ev td Γ M (Own q) M) (e : M[j]? = some (q, MDP K L)) : EvN (tListValsT td) Γ M (ML (L.map fun z => D K (dT z.2))) M := fun E F σ H a b Q k => hd E F σ H a b _ fun v F1 H1 e1 g1 p1 => by
  have p1 : v = .ref q := p1
  subst p1
  obtain ⟨_, o, ho, kvs, rfl, pr⟩ := g1.at e
  exact ⟨q, kvs, rfl, ho, fun p hp => k p F1 _ (g1.fresh hp) e1 (g1.new hp ⟨_, rfl, prd_vals pr⟩)⟩
theorem evn_dnewT : EvN tDNewT Γ M (MDP K []) M := fun E F σ H a b Q k p hp => k p F _ (a.fresh hp) (Evl.Ex.refl _) (a.new hp ⟨[], rfl, .nil⟩)
theorem evn_dispP (hk : ∀ M, Ev tk Γ M (NT l) M) (hv : ∀ M, Ev tv Γ M (D K (dT w)) M) : EvN (tDispT tk tv) Γ M (MDP K [(l, w)]) M := fun E F σ H a b Q k p hp => by
  have g0 := a.new (q := p) (O := MDP K []) (o := .dT []) hp ⟨[], rfl, .nil⟩
  refine hk _ E F σ _ g0 b _ fun x F1 H1 e1 g1 ⟨bb, ex, hb⟩ => hv _ E F1 σ H1 g1 (b.mono e1) _ fun y F2 H2 e2 g2 p2 => ?_
  subst ex
  obtain ⟨fq, o, ho, kvs, rfl, hkv⟩ := g2.at (j := 0) rfl
  cases hkv
  refine ⟨bb, l.map Sum.inl, rfl, ho, by rw [kv_ints]; exact g2.ex _ _ (e2 _ _ hb), ?_⟩
  exact k p F2 _ (a.fresh hp) (e1.trans e2) (g2.mut (j := 0) rfl ⟨[(l.map Sum.inl, y)], rfl, .cons ⟨rfl, p2⟩ .nil⟩)
/-- a if t else b, made -/
theorem evn_ifE (h : EvT t Γ M (· = b) M1) (h1 : b = true → EvN ta Γ M1 O M2) (h2 : b = false → EvN tb Γ M1 O M2) : EvN (tIf t ta tb) Γ M O M2 := fun E F σ H a c Q k => h E F σ H a c _ fun z F1 H1 e1 g1 hz => by
  subst hz
  cases z with
  | true => exact h1 rfl E F1 σ H1 g1 (c.mono e1) Q fun q F2 H2 f e2 g2 => k q F2 H2 f (e1.trans e2) g2
  | false => exact h2 rfl E F1 σ H1 g1 (c.mono e1) Q fun q F2 H2 f e2 g2 => k q F2 H2 f (e1.trans e2) g2
theorem ev_ifE (h : EvT t Γ M (· = b) M1) (h1 : b = true → Ev ta Γ M1 P M2) (h2 : b = false → Ev tb Γ M1 P M2) : Ev (tIf t ta tb) Γ M P M2 := fun E F σ H a c Q k => h E F σ H a c _ fun z F1 H1 e1 g1 hz => by
  subst hz
  cases z with
  | true => exact h1 rfl E F1 σ H1 g1 (c.mono e1) Q fun v F2 H2 e2 g2 p => k v F2 H2 (e1.trans e2) g2 p
  | false => exact h2 rfl E F1 σ H1 g1 (c.mono e1) Q fun v F2 H2 e2 g2 p => k v F2 H2 (e1.trans e2) g2 p
end
end Hq
/-! ### zip of a list and a tuple -/
namespace HqA
open PySem PySem.Spec PyProof.Rows L2
abbrev mH1 (h : Heap) (l : Addr) : Heap := h.push { cls := .type "list_iterator", data := .fields #[.ref l, .int 0 0] }
abbrev mH2 (h : Heap) (l t : Addr) : Heap := (mH1 h l).push { cls := .type "tuple_iterator", data := .fields #[.ref t, .int 0 0] }
abbrev mH3 (h : Heap) (l t : Addr) : Heap := (mH2 h l t).push { cls := .type "tuple", data := .seq #[.ref h.objs.size, .ref (mH1 h l).objs.size] }
abbrev mH4 (h : Heap) (l t : Addr) : Heap := (mH3 h l t).push { cls := .type "tuple", data := .seq #[.none, .none] }
abbrev mH5 (h : Heap) (l t : Addr) : Heap := (mH4 h l t).push { cls := .type "zip", data := .fields #[.none, .bool false, .bool false, .ref (mH2 h l t).objs.size, .ref (mH3 h l t).objs.size] }
theorem meets_zipM (l t : Addr) (xs ys : Array Value) :
    Meets (Builtin.«zip.__new__» ⟨[.type "zip", .ref l, .ref t], []⟩) (fun _ R s => s.heap.IsList l xs ∧ s.heap.IsTuple t ys ∧
      R (.ok (.ret (.ref (mH4 s.heap l t).objs.size))) { s with heap := mH5 s.heap l t }) :=
  .of_wp fun prog w A R s h => by
    obtain ⟨hp, g, d, tk, os⟩ := s; obtain ⟨hl1, hl2, h⟩ := h
    have hsub := sub_zip
    have hL1 : Heap.IsList (Shared.heap ⟨hp, g, d, tk, os⟩) l xs := hl1
    have hL2 : Heap.IsTuple (Shared.heap ⟨hp.push { cls := .type "list_iterator", data := .fields #[.ref l, .int 0 0] }, g, d, tk, os⟩) t ys := Heap.IsTuple.push hl2 _
    wp_walk using wpAny_pyIter_list hL1, wpAny_pyIter_tuple hL2
    exact ⟨_, rfl, h⟩
section
variable {prog : Program} {w : World} {A : Around} {E : Value → Shared → Prop} {s : Shared}
theorem call_zipM {l t : Addr} {xs ys : Array Value} {Q : Value → Shared → Prop} (hl : s.heap.IsList l xs) (ht : s.heap.IsTuple t ys)
    (h : ∀ h', IsZip h' (s.heap.objs.size + 4) (s.heap.objs.size + 2) (s.heap.objs.size + 3) .none → IsTupOf2 h' (s.heap.objs.size + 2) (.ref s.heap.objs.size) (.ref (s.heap.objs.size + 1)) →
      IsTupOf2 h' (s.heap.objs.size + 3) .none .none → h'.IsListIter s.heap.objs.size l 0 → h'.IsTupleIter (s.heap.objs.size + 1) t 0 →
      (∀ c o, s.heap.get? c = some o → h'.get? c = some o) → Q (.ref (s.heap.objs.size + 4)) { s with heap := h' }) :
    wpAny (model prog w) A (call (.type "zip") [.ref l, .ref t]) Q E s := by
  refine callType_new F.called_zip (by decide) (F.typeCall_zip_2 _ _) (F.newCall_zip_2 _ _) (fun obj => F.args_object_init_3 obj _ _) F.entry_zip_new (meets_zipM l t xs ys) ⟨hl, ht, ?_⟩
  have z1 : (mH1 s.heap l).objs.size = s.heap.objs.size + 1 := Heap.size_push ..
  have z2 : (mH2 s.heap l t).objs.size = s.heap.objs.size + 2 := by rw [Heap.size_push, z1]
  have z3 : (mH3 s.heap l t).objs.size = s.heap.objs.size + 3 := by rw [Heap.size_push, z2]
  have z4 : (mH4 s.heap l t).objs.size = s.heap.objs.size + 4 := by rw [Heap.size_push, z3]
  have old : ∀ {h : Heap} {a : Obj} {c : Addr} {o : Obj}, h.get? c = some o → (h.push a).get? c = some o := fun e => Heap.get?_push_of_some _ e
  have g5 : (mH5 s.heap l t).get? (mH4 s.heap l t).objs.size = some _ := Heap.get?_push_size _ rfl
  have g4 : (mH5 s.heap l t).get? (mH3 s.heap l t).objs.size = some _ := old (Heap.get?_push_size _ rfl)
  have g3 : (mH5 s.heap l t).get? (mH2 s.heap l t).objs.size = some _ := old (old (Heap.get?_push_size _ rfl))
  have g2 : (mH5 s.heap l t).get? (mH1 s.heap l).objs.size = some _ := old (old (old (Heap.get?_push_size _ rfl)))
  have g1 : (mH5 s.heap l t).get? s.heap.objs.size = some _ := old (old (old (old (Heap.get?_push_size _ rfl))))
  show _ ∧ _
  rw [z2, z3, z4] at g5
  rw [z1, z2] at g3
  rw [z3] at g4
  rw [z1] at g2
  rw [z4]
  exact ⟨⟨_, g5, rfl⟩, h _ g5 g3 g4 ⟨_, g1, rfl, rfl⟩ ⟨_, g2, rfl, rfl⟩ fun c o x => old (old (old (old (old x))))⟩
end
/-- the list at a and the tuple at b as they stand at each turn, the items in new pairs -/
def ItzM (K : PySem.W.Frag) (a b : Addr) : It :=
  ⟨fun i H => ∃ (xs ys : List V) (x y : V), SqL K H a xs ∧ SqT K H b ys ∧ xs[i]? = some x ∧ ys[i]? = some y,
    fun i H v H' => ∃ T x y, v = .ref T ∧ H T = none ∧ H' = upd H T (.tup [x, y]) ∧ (∀ xs, SqL K H a xs → xs[i]? = some x) ∧ ∀ ys, SqT K H b ys → ys[i]? = some y,
    fun i H => ∃ xs ys : List V, SqL K H a xs ∧ SqT K H b ys ∧ i ≤ xs.length ∧ i ≤ ys.length ∧ (xs.length = i ∨ ys.length = i)⟩
theorem sep {I a b : Addr} (ha : a < I) (hb : b < I) : ZipSep2 (I + 4) (I + 2) (I + 3) I (I + 1) [I, a] [I + 1, b] := by
  have ha : @LT.lt Nat _ a I := ha
  have hb : @LT.lt Nat _ b I := hb
  constructor <;> first
    | exact List.mem_cons_self
    | (intro e; have e : ((_ : Nat) = _) := e; omega)
    | (intro h
       rcases List.mem_cons.mp h with e | h
       · have e : ((_ : Nat) = _) := e
         omega
       · have e : ((_ : Nat) = _) := List.mem_singleton.mp h
         omega)
theorem turn_zipM {P : Program} {w : World} {K : PySem.W.Frag} {elts : List Expr} {kk : Nat} {tpos : Pos} {a b z TI TO i1 i2 : Addr} (D : ZipSep2 z TI TO i1 i2 [i1, a] [i2, b]) (n1 : a ≠ i1) (n2 : b ≠ i2) :
    Turn P w K (.Tuple elts kk tpos) (ItzM K a b) [z, TI, TO, i1, i2] z (fun i h => IsZip h z TI TO .none ∧ IsTupOf2 h TI (.ref i1) (.ref i2) ∧ (∃ x y, IsTupOf2 h TO x y) ∧ h.IsListIter i1 a i ∧ h.IsTupleIter i2 b i) where
  mem := by simp
  obj := fun i h st c hc => by
    obtain ⟨hz, hTI, ⟨x, y, hTO⟩, ⟨o1, e1, _, d1⟩, ⟨o2, e2, _, d2⟩⟩ := st
    have e' : c = z ∨ c = TI ∨ c = TO ∨ c = i1 ∨ c = i2 := by simpa using hc
    rcases e' with rfl | rfl | rfl | rfl | rfl
    · exact ⟨_, hz, fun v q => nomatch q⟩
    · exact ⟨_, hTI, fun v q => nomatch q⟩
    · exact ⟨_, hTO, fun v q => nomatch q⟩
    · exact ⟨o1, e1, fun v q => by rw [d1] at q; cases q⟩
    · exact ⟨o2, e2, fun v q => by rw [d2] at q; cases q⟩
  keep := fun i h h' st k => by
    obtain ⟨hz, hTI, ⟨x, y, hTO⟩, h1, h2⟩ := st
    exact ⟨k z (by simp) _ hz, k TI (by simp) _ hTI, ⟨x, y, k TO (by simp) _ hTO⟩, h1.at fun o q => k i1 (by simp) o q, h2.at fun o q => k i2 (by simp) o q⟩
  item := by
    intro X hP hw hK hc i pins s σ H E I hf st hg
    subst hP hw hK
    obtain ⟨hz, hTI, ⟨x0, y0, hTO⟩, h1, h2⟩ := st
    obtain ⟨xs, ys, x, y, hqx, hqy, hx, hy⟩ := hg
    obtain ⟨its, rv, p, _⟩ := I.list hqx
    obtain ⟨its2, rv2, p2, _⟩ := I.tuple hqy
    obtain ⟨u, hu, ru⟩ := rv.get hx
    obtain ⟨u2, hu2, ru2⟩ := rv2.get hy
    have hzl : z < s.heap.objs.size := Heap.lt_size hz
    have c1 : i < its.toArray.size := by rw [List.size_toArray]; exact (List.getElem?_eq_some_iff.mp hu).1
    have c2 : i < its2.toArray.size := by rw [List.size_toArray]; exact (List.getElem?_eq_some_iff.mp hu2).1
    refine wpAny_pyNext_zipD2_item D (Draws.list (A := X.A.in1) (I.ok.hd hc) i1 a n1 its.toArray) (Draws.tuple (A := X.A.in1) (I.ok.hd hc) i2 b n2 its2.toArray) hz hTI hTO ⟨h1, p.isList⟩ ⟨h2, p2⟩ c1 c2 fun v1 v2 h' tk e1 e2 z' TO' h1' h2' hT hsz hk => ?_
    have e1 : u = v1 := by
      have e1 : its.toArray[i]? = some v1 := e1
      rw [List.getElem?_toArray, hu] at e1; exact Option.some.inj e1
    have e2 : u2 = v2 := by
      have e2 : its2.toArray[i]? = some v2 := e2
      rw [List.getElem?_toArray, hu2] at e2; exact Option.some.inj e2
    subst e1 e2
    refine ⟨_, rfl, wpAny_letOwnedTupleGo_zip (s := { s with heap := h', toks := tk }) z' fun h'' z'' sb => ?_⟩
    have hT2 : h''.get? s.heap.objs.size = some { cls := .type "tuple", data := .seq #[u, u2] } := (sb.2 _ (Nat.ne_of_gt hzl)).trans hT
    have new : ObjOk X.prog X.w (upd H s.heap.objs.size (.tup [x, y])) h'' s.heap.objs.size (.tup [x, y]) :=
      ⟨by show 2 ≤ sizeLine; decide, [u, u2], .cons ru (.cons ru2 .nil), ⟨_, hT2, rfl, _, rfl⟩⟩
    have I1 : Inv X pins σ (upd H s.heap.objs.size (.tup [x, y])) { s with heap := h'', toks := tk } :=
      I.turnedNew (t' := tk) (ch := [z, TI, TO, i1, i2]) (fun c o hb q => (sb.2 c (fun q' => hb (by simp [q']))).trans (hk c o (fun q' => hb (by simp [q'])) (fun q' => hb (by simp [q'])) (fun q' => hb (by simp [q'])) (fun q' => hb (by simp [q'])) q)) hf (Nat.le_refl _) new
    refine ⟨.ref s.heap.objs.size, _, I1, rfl, ⟨_, x, y, rfl, I.hok.fresh (Nat.le_refl _), rfl, fun l hl => by rw [I.list_inj hl hqx]; exact hx, fun l hl => by rw [I.tuple_inj hl hqy]; exact hy⟩, ⟨z'', ?_, ⟨u, u2, ?_⟩, ?_, ?_⟩, fun c hcm => ?_⟩
    · exact (sb.2 _ D.TIz).trans (hk _ _ D.TIz D.TITO D.TIi1 D.TIi2 hTI)
    · exact (sb.2 _ D.TOz).trans TO'
    · exact h1'.1.at fun o q => (sb.2 _ D.zi1.symm).trans q
    · exact h2'.1.at fun o q => (sb.2 _ D.zi2.symm).trans q
    · have hlt : c < s.heap.objs.size := by
        have e' : c = z ∨ c = TI ∨ c = TO ∨ c = i1 ∨ c = i2 := by simpa using hcm
        rcases e' with rfl | rfl | rfl | rfl | rfl
        · exact hzl
        · exact Heap.lt_size hTI
        · exact Heap.lt_size hTO
        · obtain ⟨_, e1, _⟩ := h1; exact Heap.lt_size e1
        · obtain ⟨_, e2, _⟩ := h2; exact Heap.lt_size e2
      rw [upd_ne (Nat.ne_of_lt hlt)]
      exact (hf c hcm).1
  done := by
    intro X hP hw hK hc i pins s σ H E I hf st hg
    subst hP hw hK
    obtain ⟨hz, hTI, ⟨x0, y0, hTO⟩, h1, h2⟩ := st
    obtain ⟨xs, ys, hqx, hqy, l1, l2, hend⟩ := hg
    obtain ⟨its, rv, p, _⟩ := I.list hqx
    obtain ⟨its2, rv2, p2, _⟩ := I.tuple hqy
    have r1 := rv.length
    have r2 := rv2.length
    refine wpAny_pyNext_zipD2_end D (Draws.list (A := X.A.in1) (I.ok.hd hc) i1 a n1 its.toArray) (Draws.tuple (A := X.A.in1) (I.ok.hd hc) i2 b n2 its2.toArray) hz hTI hTO ⟨h1, p.isList⟩ ⟨h2, p2⟩ (by rw [List.size_toArray]; omega) (by rw [List.size_toArray]; omega) (by rw [List.size_toArray, List.size_toArray]; omega) fun h' tk hk => ⟨rfl, I.turnedL (t' := tk) (ch := [z, TI, TO, i1, i2]) (fun c o hb q =>
      hk c o (fun q' => hb (by simp [q'])) (fun q' => hb (by simp [q'])) (fun q' => hb (by simp [q'])) (fun q' => hb (by simp [q'])) q) hf⟩
  self := fun A i s Q E st h => wpAny_pyIter_zip st.1 h
def iZipM (K : PySem.W.Frag) (ta : TA) : TI := fun σ H R => ta σ H fun vs H1 => ∃ a b xs ys, vs = [.ref a, .ref b] ∧ SqL K H1 a xs ∧ SqT K H1 b ys ∧ R (ItzM K a b) H1
theorem pi_zipM {X : Cx} {e e2 : Expr} {ta : TA} {p pos tpos : Pos} {elts : List Expr} {kk : Nat} (hg : Gl X "zip") (hm : X.mg "zip" = none) (ha : PA X [e, e2] ta)
    (hs : starEach [e, e2] X.env = (false, eval e X.env) :: starEach [e2] X.env := by rfl) (hpl : (backTo pos (starEach [e2] X.env)).any (·.1) = false := by rfl) :
    PI X (.Tuple elts kk tpos) (.Call (.Name "zip" p) [e, e2] [] pos) (iZipM X.K ta) := by
  refine ⟨fun pins s σ H R I h => ?_⟩
  refine Call_ (ld_blt I hg hm PyProof.Rows.boot_zip (PyProof.Rows.callWith_type1 (thn (ha.run pos pins s σ H _ I h) fun us s1 ⟨vs, H1, I1, r1, q1⟩ => ?_) hs hpl))
  obtain ⟨a, b, xs, ys, rfl, hqx, hqy, q⟩ := q1
  obtain ⟨u, u2, rfl, e1, e2⟩ := vals2 r1
  cases e1
  cases e2
  obtain ⟨its, rv, p1, _⟩ := I1.list hqx
  obtain ⟨its2, rv2, p2, _⟩ := I1.tuple hqy
  have fresh5 : ∀ c, c ∈ [s1.heap.objs.size + 4, s1.heap.objs.size + 2, s1.heap.objs.size + 3, s1.heap.objs.size, s1.heap.objs.size + 1] → FpOk X pins H1 c := fun c hcm => by
    have e' : c = s1.heap.objs.size + 4 ∨ c = s1.heap.objs.size + 2 ∨ c = s1.heap.objs.size + 3 ∨ c = s1.heap.objs.size ∨ c = s1.heap.objs.size + 1 := by simpa using hcm
    have hle : s1.heap.objs.size ≤ c := by
      rcases e' with rfl | rfl | rfl | rfl | rfl <;> first | exact Nat.le_refl _ | exact Nat.le_add_right _ _
    exact I1.fpOk hle (I1.hok.fresh hle)
  obtain ⟨o2, ho2, _⟩ := id p2
  have la := p1.lt
  have lb := Heap.lt_size ho2
  refine call_zipM p1.isList (show s1.heap.IsTuple b its2.toArray from p2) fun h' hz hTI hTO h1 h2 hk => wpAny_pyIter_zip hz ?_
  have I2 : Inv X pins σ H1 { s1 with heap := h' } := I1.kept (t' := s1.toks) hk
  exact ⟨s1.heap.objs.size + 4, [s1.heap.objs.size + 4, s1.heap.objs.size + 2, s1.heap.objs.size + 3, s1.heap.objs.size, s1.heap.objs.size + 1], _, _, H1, rfl, I2, turn_zipM (sep la lb) (Nat.ne_of_lt la) (Nat.ne_of_lt (Nat.lt_succ_of_lt lb)), ⟨hz, hTI, ⟨_, _, hTO⟩, h1, h2⟩, fresh5, q⟩
end HqA
namespace Hq
open PySem L2 HqA
section
variable {K : PySem.W.Frag} {E E0 : Ent} {F H : Hp} {M M1 M2 M' : Ms} {Γ : Gm} {P P1 : MP} {O O' : MO} {q : Addr} {te ta tb tl tk tv td tx : TE} {tr : TA} {D1 : Ends} {tu tz : TS} {t u : TT} {ps : List MP} {i j v jj : Nat} {b : Bool}
theorem walk_zipM {a b : Addr} {xs ys : List V} {n : Nat} (hn : n = xs.length ∧ n = ys.length) : Walk (ItzM K a b) n (fun H => SqL K H a xs ∧ SqT K H b ys) (YPair (fun i => xs[i]?) (fun i => ys[i]?)) := by
  obtain ⟨h1, h2⟩ := hn
  refine ⟨fun i _ hi q => ⟨xs, ys, xs[i]'(by omega), ys[i]'(by omega), q.1, q.2, by simp [show i < xs.length by omega], by simp [show i < ys.length by omega]⟩, fun _ q => ⟨xs, ys, q.1, q.2, by omega, by omega, by omega⟩, fun i H v H' _ q y => ?_⟩
  obtain ⟨T, x, z, h1, h2, h3, h4, h5⟩ := y
  exact ⟨T, x, z, h1, h2, h3, h4 xs q.1, h5 ys q.2⟩
/-- over zip of a list and a tuple of one length -/
theorem evn_lcZipM {γ : Type} {zs : List γ} {RA RB G : γ → MP} {f : γ → Bool} (hij : i ≠ j) (h1 : Ev ta Γ M (PLi K (zs.map RA)) M1) (h2 : Ev tb Γ M1 (PTu K (zs.map RB)) M2) (hz : zs.length ≤ 50000)
    (ht : ∀ z ∈ zs, EvT t ((((Γ.set j none).set i none).set i (some (RA z))).set j (some (RB z))) M2 (· = f z) M2)
    (he : ∀ z ∈ zs, f z = true → Ev te ((((Γ.set j none).set i none).set i (some (RA z))).set j (some (RB z))) M2 (G z) M2) :
    EvN (tLc (iZipM K (tCons ta (tCons tb tNil))) (gPair K i j) t te [i, j]) Γ M (ML ((zs.filter f).map G)) M2 := fun E F σ H a b Q k => h1 E F σ H a b _ fun v F1 H1 e1 g1 ⟨p, vs, hp, s, q⟩ => h2 E F1 σ H1 g1 (b.mono e1) _ fun v2 F2 H2 e2 g2 ⟨p2, vs2, hp2, s2, q2⟩ => by
  have l1 : vs.length = zs.length := by have := paired_len q; rwa [List.length_map] at this
  have l2 : vs2.length = zs.length := by have := paired_len q2; rwa [List.length_map] at this
  have q := Ps.mono e2 q
  refine ⟨p, p2, vs, vs2, by rw [hp, hp2], Evl.ex_l (e2.trans g2.ex) s, Evl.ex_t g2.ex s2, ?_⟩
  refine lc_pairs (K := K) (zs := zs) (us := vs) (vs := vs2) hij (walk_zipM ⟨l1.symm, l2.symm⟩) hz g2 (b.mono (e1.trans e2)) q q2 (fun F' H' e e' => ⟨Evl.ex_l ((e2.trans e).trans e') s, Evl.ex_t (e.trans e') s2⟩) ht he fun q F' H' f e g => k q F' H' f ((e1.trans e2).trans e) g
theorem pi_zipM' {X : Cx} (eK : X.K = K) {e e2 : Expr} {ta : TA} {p pos tpos : Pos} {elts : List Expr} {kk : Nat} (hg : Gl X "zip") (hm : X.mg "zip" = none) (ha : PA X [e, e2] ta)
    (hs : starEach [e, e2] X.env = (false, eval e X.env) :: starEach [e2] X.env := by rfl) (hpl : (backTo pos (starEach [e2] X.env)).any (·.1) = false := by rfl) :
    PI X (.Tuple elts kk tpos) (.Call (.Name "zip" p) [e, e2] [] pos) (iZipM K ta) := eK ▸ pi_zipM hg hm ha hs hpl
end
end Hq
/-! ### dicts with tuple keys, values of any kind -/
namespace Hq
open PySem L2
/-- a dict whose keys are tuples of ints, whose values data tuples of ints -/
def MDV {β : Type} (R : β → MP) (L : List (List Int × β)) : MO :=
  ⟨fun F o => ∃ kvs : List (List Key × V), o = .dT kvs ∧ Paired (fun (p : List Key × V) (z : List Int × β) => p.1 = z.1.map Sum.inl ∧ (R z.2).p F p.2) kvs L, fun e ⟨kvs, h, p⟩ => ⟨kvs, h, Paired.mapP p fun _ _ q => ⟨q.1, (R _).mono e q.2⟩⟩, fun ⟨kvs, h, _⟩ xs z => by rw [h] at z; cases z⟩
section
variable {K : PySem.W.Frag} {E E0 : Ent} {F H : Hp} {M M1 M2 M' : Ms} {Γ : Gm} {P P1 : MP} {O O' : MO} {q : Addr} {te ta tb tl tk tv td tx : TE} {tr : TA} {D1 : Ends} {tu tz : TS} {t u : TT} {ps : List MP} {i j v jj : Nat} {β : Type} {R : β → MP} {L : List (List Int × β)} {l : List Int} {w : β}
theorem go_forItV (hv : Γ[v]? = some (some (Own q))) (e : M[jj]? = some (q, MDV R L)) (J : MO → Nat → Gm → Ms → Prop) (h0 : ∀ O, J O 0 Γ (M.set jj (q, O))) (hJ : ∀ O n Γ' M', J O n Γ' M' → Γ'[v]? = some (some (Own q)) ∧ ∃ j' : Nat, M'[j']? = some (q, O))
    (hs : ∀ E', Le E' E → ∀ O n z, L[n]? = some z → ∀ Γ' M', J O n Γ' M' → ∀ r b, Nx E' ((Γ'.set i (some (NT z.1))).set j (some (R z.2))) M' (tu ⟨JA E' (J O (n + 1)), r, b, JA E' (J O (n + 1))⟩))
    (hd : ∀ O Γ' M', J O L.length Γ' M' → ∃ j' : Nat, M'[j']? = some (q, O) ∧ Nx E Γ' (M'.set j' (q, MDV R L)) D1.nx) : Nx E Γ M (tLock (tFor (iItemsT (tVar v)) (gPair K i j) tu) D1) := fun σ H ⟨F, a, b⟩ => by
  obtain ⟨fq, o, ho, kvs, rfl, pr⟩ := a.at e
  refine ⟨q, .dT kvs, ho, True.intro, fun od => ?_⟩
  have gl : Pt E F (M.set jj (q, MLk od kvs)) (upd H q (.frz od (.dT kvs))) := a.mut e rfl
  unfold tFor iItemsT
  refine (ev_var hv) E F σ _ gl b _ fun x F1 H1 e1 g1 hx => ?_
  have hx : x = .ref q := hx
  subst hx
  have ljj : jj < M.length := (List.getElem?_eq_some_iff.mp e).1
  obtain ⟨_, ob, ho1, rfl⟩ := g1.at (j := jj) (O := MLk od kvs) (by rw [List.getElem?_set_self ljj])
  refine ⟨q, od, kvs, rfl, ho1, for_ItiT (fun n σ H => JA ⟨F1, H1, keys (M.set jj (q, MLk od kvs))⟩ (J (MLk od kvs) n) σ H) ⟨Γ, _, h0 _, F1, g1.enter, b.mono e1⟩ (fun n σ2 H2 ⟨Γ', M', hJn, F2, g2, _⟩ => ?_) (fun n k y qk T σ2 H2 hkv hk hT ⟨Γ', M', hJn, F2, g2, b2⟩ => ?_) (fun σ2 H2 ⟨Γ', M', hJn, F2, g2, b2⟩ => ?_)⟩
  · obtain ⟨_, j', hj⟩ := hJ _ _ _ _ hJn
    obtain ⟨_, _, h, rfl⟩ := g2.at hj
    exact h
  · obtain ⟨z, hz, ek, dy⟩ := paired_get' pr hkv
    obtain ⟨F3, e3, hF3, g3⟩ := g2.learn hk
    have g4 := g3.junk (o := .tup [.ref qk, y]) hT
    have nt : (NT z.1).p F3 (.ref qk) := ⟨qk, rfl, by rw [hF3, show k = z.1.map Sum.inl from ek, kv_ints]⟩
    have ex : Ex F F3 := e1.trans (g2.gr.ex.trans e3)
    refine ⟨T, [.ref qk, y], rfl, SqT.of upd_same, rfl, .ref qk, [y], rfl, y, [], rfl, rfl, ?_⟩
    exact hs ⟨F1, H1, keys (M.set jj (q, MLk od kvs))⟩ g1.le (MLk od kvs) n z hz Γ' M' hJn _ _ _ _ ⟨F3, g4, ((b2.mono e3).set i (P := NT z.1) nt).set j ((R z.2).mono ex dy)⟩
  · have hl : kvs.length = L.length := Paired.length pr
    rw [hl] at hJn
    obtain ⟨j', hj, hn⟩ := hd _ Γ' M' hJn
    obtain ⟨_, _, h, rfl⟩ := g2.at hj
    refine ⟨h, ?_⟩
    have g5 := g1.back g2
    have g6 := g5.mut (O' := MDV R L) (o' := .dT kvs) hj ⟨kvs, rfl, Paired.mapP pr fun _ _ c => ⟨c.1, (R _).mono (e1.trans g2.gr.ex) c.2⟩⟩
    exact hn _ _ ⟨F2, g6, b2⟩
/-! ### d.get(t, x), d[t] = x -/
def lkV {β : Type} (L : List (List Int × β)) (l : List Int) : Option β := (L.find? fun z => decide (z.1 = l)).map (·.2)
def putV {β : Type} (L : List (List Int × β)) (l : List Int) (w : β) : List (List Int × β) := if (L.any fun z => decide (z.1 = l)) = true then L.map (fun z => if z.1 = l then (z.1, w) else z) else L ++ [(l, w)]
def PrV {β : Type} (R : β → MP) (F : Hp) : (List Key × V) → (List Int × β) → Prop := fun p z => p.1 = z.1.map Sum.inl ∧ (R z.2).p F p.2
theorem prv_key {a b : List Int} {k : List Key} (h : k = a.map Sum.inl) : (decide (k = (b.map Sum.inl : List Key))) = decide (a = b) := by
  rw [h, Bool.eq_iff_iff, decide_eq_true_iff, decide_eq_true_iff]
  exact inl_inj
theorem prv_val {F : Hp} : ∀ {kvs : List (List Key × V)} {L : List (List Int × β)}, Paired (PrV R F) kvs L → (lkV L l = none ∧ valV kvs (l.map Sum.inl) = none) ∨ ∃ w v, lkV L l = some w ∧ valV kvs (l.map Sum.inl) = some v ∧ (R w).p F v
  | _, _, .nil => .inl ⟨rfl, rfl⟩
  | p :: kvs, z :: L, .cons a t => by
    have e := prv_key (b := l) a.1
    by_cases c : z.1 = l
    · rw [decide_eq_true c] at e
      refine .inr ⟨z.2, p.2, ?_, valV_pos (of_decide_eq_true e), a.2⟩
      unfold lkV
      rw [List.find?_cons, decide_eq_true c]; rfl
    · rw [decide_eq_false c] at e
      have h1 : lkV (z :: L) l = lkV L l := by
        unfold lkV
        rw [List.find?_cons, decide_eq_false c]
      rw [h1, valV_neg (of_decide_eq_false e)]
      exact prv_val t
theorem prv_any {F : Hp} : ∀ {kvs : List (List Key × V)} {L : List (List Int × β)}, Paired (PrV R F) kvs L → (kvs.any fun kv => decide (kv.1 = (l.map Sum.inl : List Key))) = L.any fun z => decide (z.1 = l)
  | _, _, .nil => rfl
  | p :: kvs, z :: L, .cons a t => by
    rw [List.any_cons, List.any_cons, prv_key (b := l) a.1, prv_any t]
theorem prv_put {F : Hp} {y : V} {kvs : List (List Key × V)} {L : List (List Int × β)} (h : Paired (PrV R F) kvs L) (hy : (R w).p F y) : Paired (PrV R F) (putK kvs (l.map Sum.inl) y) (putV L l w) := by
  unfold putK putV
  rw [prv_any h]
  split
  · have key : ∀ {kvs : List (List Key × V)} {L : List (List Int × β)}, Paired (PrV R F) kvs L → Paired (PrV R F) (kvs.map fun kv => if kv.1 = (l.map Sum.inl : List Key) then (kv.1, y) else kv) (L.map fun z => if z.1 = l then (z.1, w) else z) := fun {kvs L} h => by
      induction h with
      | nil => exact .nil
      | @cons p z kvs L a t ih =>
        refine .cons ?_ ih
        dsimp only
        have e := prv_key (b := l) a.1
        by_cases c : z.1 = l
        · rw [decide_eq_true c] at e
          rw [if_pos c, if_pos (of_decide_eq_true e)]
          exact ⟨a.1, hy⟩
        · rw [decide_eq_false c] at e
          rw [if_neg c, if_neg (of_decide_eq_false e)]
          exact a
    exact key h
  · exact paired_app h (.cons ⟨rfl, hy⟩ .nil)
theorem ev_dgetV (hd : Ev td Γ M (Own q) M) (hk : Ev tk Γ M (NT l) M1) (hx : Ev tx Γ M1 (R w) M2) (e0 : M[j]? = some (q, MDV R L)) (e : M2[j]? = some (q, MDV R L)) : Ev (tDGet2 td tk tx) Γ M (R ((lkV L l).getD w)) M2 := fun E F σ H a b Q k => hd E F σ H a b _ fun v F1 H1 e1 g1 p1 => by
  have p1 : v = .ref q := p1
  subst p1
  obtain ⟨_, o, ho1, kvs0, rfl, _⟩ := g1.at e0
  refine ⟨q, rfl, .inr ⟨kvs0, .inl ho1⟩, hk E F1 σ H1 g1 (b.mono e1) _ fun y F2 H2 e2 g2 ⟨bb, ey, hb⟩ => hx E F2 σ H2 g2 (b.mono (e1.trans e2)) _ fun z F3 H3 e3 g3 p3 => ?_⟩
  subst ey
  obtain ⟨_, o, ho3, kvs, rfl, pr⟩ := g3.at e
  refine ⟨_, DGet.t ho3 (k := l.map Sum.inl) (by rw [kv_ints]; exact g3.ex _ _ (e3 _ _ hb)), ?_⟩
  refine k _ F3 H3 ((e1.trans e2).trans e3) g3 ?_
  rcases prv_val (l := l) (show Paired (PrV R F3) kvs L from pr) with ⟨h1, h2⟩ | ⟨w', v', h1, h2, h3⟩
  · rw [h1, h2]; exact p3
  · rw [h1, h2]; exact h3
theorem go_dputV (hv : Ev tv Γ M (R w) M1) (hd : Ev td Γ M1 (Own q) M1) (hk : Ev tk Γ M1 (NT l) M1) (e : M1[j]? = some (q, MDV R L)) (hz : L.length < 100000) (k : Nx E Γ (M1.set j (q, MDV R (putV L l w))) D1.nx) : Nx E Γ M (sDPut td tk tv D1) := fun σ H ⟨F, a, b⟩ => by
  refine hv E F σ H a b _ fun y F1 H1 e1 g1 p1 => hd E F1 σ H1 g1 (b.mono e1) _ fun x F2 H2 e2 g2 p2 => hk E F2 σ H2 g2 (b.mono (e1.trans e2)) _ fun z F3 H3 e3 g3 ⟨bb, ez, hb⟩ => ?_
  subst ez
  have p2 : x = .ref q := p2
  subst p2
  obtain ⟨fq, o, ho, kvs, rfl, pr⟩ := g3.at e
  have hlen : kvs.length = L.length := Paired.length pr
  refine ⟨q, _, rfl, DPut.t ho (k := l.map Sum.inl) (by rw [kv_ints]; exact g3.ex _ _ hb) (sz_lt (by omega)), ?_⟩
  exact k _ _ ⟨F3, g3.mut e ⟨_, rfl, prv_put (show Paired (PrV R F3) kvs L from pr) ((R _).mono (e2.trans e3) p1)⟩, b.mono ((e1.trans e2).trans e3)⟩
theorem prv_vals {F : Hp} : ∀ {kvs : List (List Key × V)} {L : List (List Int × β)}, Paired (PrV R F) kvs L → Ps F (kvs.map (·.2)) (L.map fun z => R z.2)
  | _, _, .nil => .nil
  | _, _, .cons a t => .cons a.2 (prv_vals t)
theorem evn_listValsV (hd : Ev td Γ M (Own q) M) (e : M[j]? = some (q, MDV R L)) : EvN (tListValsT td) Γ M (ML (L.map fun z => R z.2)) M := fun E F σ H a b Q k => hd E F σ H a b _ fun v F1 H1 e1 g1 p1 => by
  have p1 : v = .ref q := p1
  subst p1
  obtain ⟨_, o, ho, kvs, rfl, pr⟩ := g1.at e
  exact ⟨q, kvs, rfl, ho, fun p hp => k p F1 _ (g1.fresh hp) e1 (g1.new hp ⟨_, rfl, prv_vals pr⟩)⟩
theorem evn_dnewV : EvN tDNewT Γ M (MDV R []) M := fun E F σ H a b Q k p hp => k p F _ (a.fresh hp) (Evl.Ex.refl _) (a.new hp ⟨[], rfl, .nil⟩)
theorem evn_dispV (hk : ∀ M, Ev tk Γ M (NT l) M) (hv : ∀ M, Ev tv Γ M (R w) M) : EvN (tDispT tk tv) Γ M (MDV R [(l, w)]) M := fun E F σ H a b Q k p hp => by
  have g0 := a.new (q := p) (O := MDV R []) (o := .dT []) hp ⟨[], rfl, .nil⟩
  refine hk _ E F σ _ g0 b _ fun x F1 H1 e1 g1 ⟨bb, ex, hb⟩ => hv _ E F1 σ H1 g1 (b.mono e1) _ fun y F2 H2 e2 g2 p2 => ?_
  subst ex
  obtain ⟨fq, o, ho, kvs, rfl, hkv⟩ := g2.at (j := 0) rfl
  cases hkv
  refine ⟨bb, l.map Sum.inl, rfl, ho, by rw [kv_ints]; exact g2.ex _ _ (e2 _ _ hb), ?_⟩
  exact k p F2 _ (a.fresh hp) (e1.trans e2) (g2.mut (j := 0) rfl ⟨[(l.map Sum.inl, y)], rfl, .cons ⟨rfl, p2⟩ .nil⟩)
end
end Hq
namespace My
/-! ### Pascal's numbers -/
def chs : Nat → Nat → Nat
  | _, 0 => 1
  | 0, _ + 1 => 0
  | n + 1, k + 1 => chs n k + chs n (k + 1)
theorem chs_zero (n : Nat) : chs n 0 = 1 := by cases n <;> rfl
theorem chs_succ (n k : Nat) : chs (n + 1) (k + 1) = chs n k + chs n (k + 1) := rfl
theorem chs_gt : ∀ {n k : Nat}, n < k → chs n k = 0
  | n, 0, h => absurd h (Nat.not_lt_zero _)
  | 0, k + 1, _ => rfl
  | n + 1, k + 1, h => by rw [chs_succ, chs_gt (show n < k by omega), chs_gt (show n < k + 1 by omega)]
theorem chs_self : ∀ n : Nat, chs n n = 1
  | 0 => rfl
  | n + 1 => by rw [chs_succ, chs_self n, chs_gt (Nat.lt_succ_self n)]
theorem chs_sym : ∀ {n k : Nat}, k ≤ n → chs n (n - k) = chs n k
  | n, 0, _ => by rw [Nat.sub_zero, chs_self, chs_zero]
  | 0, k + 1, h => absurd h (Nat.not_succ_le_zero _)
  | n + 1, k + 1, h => by
    rw [show n + 1 - (k + 1) = n - k by omega]
    rcases Nat.lt_or_eq_of_le (show k ≤ n by omega) with c | rfl
    · rw [show n - k = (n - (k + 1)) + 1 by omega, chs_succ, chs_succ, chs_sym (show k + 1 ≤ n by omega), show n - (k + 1) + 1 = n - k by omega, chs_sym (show k ≤ n by omega), Nat.add_comm]
    · rw [Nat.sub_self, chs_zero, chs_self]
open PySem PySem.W in
theorem fp_up (n : Nat) : ∀ k : Nat, Builtin.Math.fallingProduct ((n : Int) + 1) (k + 1) = ((n : Int) + 1) * Builtin.Math.fallingProduct (n : Int) k
  | 0 => by rw [mc_fp_succ, mc_fp_zero, mc_fp_zero]; simp
  | k + 1 => by
    rw [mc_fp_succ, fp_up n k, mc_fp_succ, Int.mul_assoc]
    congr 2
    omega
open PySem PySem.W in
theorem fp_none : ∀ k : Nat, Builtin.Math.fallingProduct 0 (k + 1) = 0
  | 0 => by rw [mc_fp_succ, mc_fp_zero]; rfl
  | k + 1 => by rw [mc_fp_succ, fp_none k, Int.zero_mul]
open PySem PySem.W in
theorem fp_chs : ∀ n k : Nat, Builtin.Math.fallingProduct (n : Int) k = (chs n k : Int) * Builtin.Math.fallingProduct (k : Int) k
  | n, 0 => by rw [mc_fp_zero, mc_fp_zero, chs_zero]; rfl
  | 0, k + 1 => by
    show Builtin.Math.fallingProduct 0 (k + 1) = ((0 : Nat) : Int) * _
    rw [fp_none, Int.natCast_zero, Int.zero_mul]
  | n + 1, k + 1 => by
    have e1 := fp_chs n k
    have e2 := fp_chs n (k + 1)
    rw [mc_fp_succ (n : Int) k] at e2
    have e3 := fp_up k k
    have e4 := fp_up n k
    have c1 : ((n + 1 : Nat) : Int) = (n : Int) + 1 := by omega
    have c2 : ((k + 1 : Nat) : Int) = (k : Int) + 1 := by omega
    rw [c2, e3] at e2
    rw [c1, e4, chs_succ, Int.natCast_add, c2, e3]
    generalize Builtin.Math.fallingProduct (n : Int) k = X at *
    generalize Builtin.Math.fallingProduct (k : Int) k = Y at *
    generalize ((chs n k : Nat) : Int) = A at *
    generalize ((chs n (k + 1) : Nat) : Int) = B at *
    rw [Int.add_mul A B, ← e2, Int.mul_left_comm A ((k : Int) + 1) Y, ← e1, Int.mul_comm X, ← Int.add_mul]
    congr 1
    omega
open PySem PySem.W in
theorem comb_chs {n k : Nat} (h : k ≤ n) : mcComb (n : Int) (k : Int) = (chs n k : Int) := by
  have pos : ∀ m : Nat, Builtin.Math.fallingProduct (m : Int) m ≠ 0 := fun m => by
    have := mc_fp_pos (n := (m : Int)) m (Int.le_refl _)
    omega
  have key : ∀ m : Nat, min (k : Int) ((n : Int) - k) = (m : Int) → chs n m = chs n k → mcComb (n : Int) (k : Int) = (chs n k : Int) := fun m hm hc => by
    rw [mcComb_at (by omega) (by omega) hm, Int.toNat_natCast, fp_chs n m, hc, Int.mul_ediv_cancel _ (pos m)]
  by_cases c : k ≤ n - k
  · exact key k (by omega) rfl
  · exact key (n - k) (by omega) (chs_sym h)
end My
namespace L2
open PySem PySem.Spec PyProof.Rows
section
variable {X : Cx}
/-- math.comb -/
def rComb : List V → Hp → VK → Prop := fun vs H Q => ∃ n k : Nat, vs = [.int n, .int k] ∧ k ≤ n ∧ n ≤ 1000 ∧ Q (.int ((My.chs n k : Nat) : Int)) H
theorem cr_comb : CallR X (.builtin "math.comb") rComb := by
  intro pins s σ H vs us Q I r h
  obtain ⟨n, k, rfl, hk, hn, q⟩ := h
  obtain ⟨t, u, rfl⟩ := Vals.int2 r
  exact PySem.W.mc_comb_v (by omega) (by omega) (by omega) (.inl (by omega)) (My.comb_chs hk) ⟨.int _, H, I.tok _, ⟨_, rfl⟩, q⟩
end
end L2
namespace Hq
open PySem L2
section
variable {K : PySem.W.Frag} {M : Ms}
theorem rc_comb {n k : Nat} (h : k ≤ n) (hn : n ≤ 1000) : RC rComb [D K (.int (n : Int)), D K (.int (k : Int))] M (D K (.int ((My.chs n k : Nat) : Int))) M := fun E F H vs g hp Q q => by
  obtain ⟨v, w, rfl, p1, p2⟩ := ps2 hp
  cases dp_int p1; cases dp_int p2
  exact ⟨n, k, rfl, h, hn, q _ F H (Evl.Ex.refl _) g (.int _)⟩
end
end Hq
namespace My
/-! ### letters, places: plain lists -/
abbrev Lets := List (List Int)
/-- the places of a letter -/
def pl (ls : Lets) (a : Int) : List Int := ls.getD a.toNat []
def disj (l m : List Int) : Bool := !(l.any fun x => decide (x ∈ m))
/-- two letters without a common place -/
def free (ls : Lets) (a b : Int) : Bool := disj (pl ls a) (pl ls b)
structure AlphaOk (k : Int) (ls : Lets) : Prop where
  k1 : 1 ≤ k
  k4 : k ≤ 4
  l1 : 1 ≤ ls.length
  l6 : ls.length ≤ 6
  ok : ∀ l ∈ ls, l ≠ [] ∧ l.Pairwise (· < ·) ∧ ∀ x ∈ l, 0 ≤ x ∧ x < k
/-- a word of the letters -/
def WordOk (ls : Lets) (w : List Int) : Prop := ∀ x ∈ w, 0 ≤ x ∧ x < (ls.length : Int)
theorem pl_get {ls : Lets} {a : Int} (h0 : 0 ≤ a) (h : a < (ls.length : Int)) : ls[a.toNat]? = some (pl ls a) := by
  unfold pl
  have : a.toNat < ls.length := by omega
  rw [List.getD_eq_getElem?_getD, List.getElem?_eq_getElem this]; rfl
theorem pl_mem {ls : Lets} {a : Int} (h0 : 0 ≤ a) (h : a < (ls.length : Int)) : pl ls a ∈ ls := List.mem_of_getElem? (pl_get h0 h)
theorem disj_filter (l m : List Int) : decide (((l.filter fun x => decide (x ∈ m)).length : Int) = 0) = disj l m := by
  unfold disj
  induction l with
  | nil => rfl
  | cons x l ih =>
    rw [List.filter_cons, List.any_cons]
    by_cases h : x ∈ m
    · simp [h]
      omega
    · simp only [h, decide_false, Bool.false_eq_true, if_false, Bool.false_or]
      exact ih
theorem disj_comm (l m : List Int) : disj l m = disj m l := by
  unfold disj
  congr 1
  rw [Bool.eq_iff_iff, List.any_eq_true, List.any_eq_true]
  simp only [decide_eq_true_eq]
  exact ⟨fun ⟨x, a, b⟩ => ⟨x, b, a⟩, fun ⟨x, a, b⟩ => ⟨x, b, a⟩⟩
theorem free_comm (ls : Lets) (a b : Int) : free ls a b = free ls b a := disj_comm _ _
theorem disj_iff {l m : List Int} : disj l m = true ↔ ∀ x ∈ l, x ∉ m := by
  unfold disj
  simp
theorem not_disj {l m : List Int} : disj l m = false ↔ ∃ x ∈ l, x ∈ m := by
  unfold disj
  simp
/-- the word of a place -/
def at_ (ls : Lets) (p : Int) (w : List Int) : List Int := w.filter fun a => decide (p ∈ pl ls a)
/-- swaps of independent neighbours -/
inductive Swp (ls : Lets) : List Int → List Int → Prop where
  | refl (w) : Swp ls w w
  | step {w u v a b} : Swp ls w (u ++ a :: b :: v) → free ls a b = true → Swp ls w (u ++ b :: a :: v)
theorem Swp.word {ls w w'} (h : Swp ls w w') (k : WordOk ls w) : WordOk ls w' ∧ w'.length = w.length := by
  induction h with
  | refl => exact ⟨k, rfl⟩
  | step h f ih =>
    obtain ⟨a, b⟩ := ih
    refine ⟨fun x hx => a x ?_, ?_⟩
    · simp only [List.mem_append, List.mem_cons] at hx ⊢
      rcases hx with h | h | h | h
      · exact .inl h
      · exact .inr (.inr (.inl h))
      · exact .inr (.inl h)
      · exact .inr (.inr (.inr h))
    · rw [← b]; simp
theorem Swp.at_ {ls w w'} (h : Swp ls w w') (p : Int) : at_ ls p w' = at_ ls p w := by
  induction h with
  | refl => rfl
  | @step u v a b h f ih =>
    rw [← ih]
    unfold My.at_
    rw [List.filter_append, List.filter_append]
    congr 1
    have : ¬ (p ∈ pl ls a ∧ p ∈ pl ls b) := fun ⟨x, y⟩ => disj_iff.mp f p x y
    by_cases ha : p ∈ pl ls a
    · have hb : p ∉ pl ls b := fun y => this ⟨ha, y⟩
      simp [List.filter_cons, ha, hb]
    · simp [List.filter_cons, ha]
end My
namespace My
/-! ### sorted lists -/
theorem sorted_unique : ∀ {l m : List Int}, l.Perm m → l.Pairwise (· ≤ ·) → m.Pairwise (· ≤ ·) → l = m
  | [], m, p, _, _ => (List.Perm.nil_eq p)
  | a :: l, [], p, _, _ => absurd p.symm (by simp)
  | a :: l, b :: m, p, h1, h2 => by
    have hab : a = b := by
      have ha : a ∈ b :: m := p.subset List.mem_cons_self
      have hb : b ∈ a :: l := p.symm.subset List.mem_cons_self
      rcases List.mem_cons.mp ha with e | e
      · exact e
      · rcases List.mem_cons.mp hb with e2 | e2
        · exact e2.symm
        · have x := (List.pairwise_cons.mp h1).1 b e2
          have y := (List.pairwise_cons.mp h2).1 a e
          omega
    subst hab
    rw [sorted_unique (List.Perm.cons_inv p) (List.pairwise_cons.mp h1).2 (List.pairwise_cons.mp h2).2]
/-- the items in ascending order -/
def srt (l : List Int) : List Int := l.mergeSort
theorem srt_perm (l : List Int) : (srt l).Perm l := List.mergeSort_perm _ _
theorem srt_up (l : List Int) : (srt l).Pairwise (· ≤ ·) := by
  have := List.pairwise_mergeSort (le := fun a b : Int => decide (a ≤ b)) (fun a b c h1 h2 => by simp at *; omega) (fun a b => by simp; omega) l
  unfold srt
  refine List.Pairwise.imp ?_ this
  intro a b h
  simpa using h
theorem srt_eq {l m : List Int} (p : m.Perm l) (h : m.Pairwise (· ≤ ·)) : m = srt l := sorted_unique (p.trans (srt_perm l).symm) h (srt_up l)
/-- the greatest of some numbers that are not negative -/
def top0 (l : List Int) : Int := l.foldr max 0
theorem top0_le {l : List Int} : ∀ y ∈ l, y ≤ top0 l := by
  induction l with
  | nil => intro y h; cases h
  | cons a l ih =>
    intro y h
    show y ≤ max a (top0 l)
    rcases List.mem_cons.mp h with e | e
    · subst e; omega
    · have := ih y e; omega
theorem top0_eq {l : List Int} {m : Int} (h : m ∈ l) (hm : ∀ y ∈ l, y ≤ m) (h0 : ∀ y ∈ l, 0 ≤ y) : top0 l = m := by
  have h1 := top0_le m h
  have h2 : ∀ (l : List Int), (∀ y ∈ l, y ≤ m) → 0 ≤ m → top0 l ≤ m := by
    intro l
    induction l with
    | nil => intro _ h; exact h
    | cons a l ih =>
      intro h hm0
      have := ih (fun y hy => h y (List.mem_cons_of_mem _ hy)) hm0
      have := h a List.mem_cons_self
      show max a (top0 l) ≤ m
      omega
  have := h2 l hm (h0 m h)
  omega
theorem top0_mem {l : List Int} (h : l ≠ []) (h0 : ∀ y ∈ l, 0 ≤ y) : top0 l ∈ l := by
  induction l with
  | nil => exact absurd rfl h
  | cons a l ih =>
    show max a (top0 l) ∈ a :: l
    by_cases e : l = []
    · subst e
      have := h0 a List.mem_cons_self
      have : max a (top0 []) = a := by show max a 0 = a; omega
      rw [this]; exact List.mem_cons_self
    · have := ih e fun y hy => h0 y (List.mem_cons_of_mem _ hy)
      by_cases c : a ≤ top0 l
      · rw [show max a (top0 l) = top0 l by omega]; exact List.mem_cons_of_mem _ this
      · rw [show max a (top0 l) = a by omega]; exact List.mem_cons_self
/-! ### layers: a turn for each letter -/
def setAll (hs : List Int) (ps : List Int) (v : Int) : List Int := ps.foldl (fun hs p => hs.set p.toNat v) hs
def addRow (rs : List (List Int)) (h : Nat) (a : Int) : List (List Int) := if h = rs.length then rs ++ [[a]] else rs.set h (rs.getD h [] ++ [a])
def hts (ls : Lets) (hs : List Int) (a : Int) : List Int := (pl ls a).map fun p => hs.getD p.toNat 0
def lstep (ls : Lets) (s : List Int × List (List Int)) (a : Int) : List Int × List (List Int) :=
  (setAll s.1 (pl ls a) (top0 (hts ls s.1 a) + 1), addRow s.2 (top0 (hts ls s.1 a)).toNat a)
def lay (ls : Lets) (k : Int) (w : List Int) : List Int × List (List Int) := w.foldl (lstep ls) (List.replicate k.toNat 0, [])
def layers (ls : Lets) (k : Int) (w : List Int) : List (List Int) := (lay ls k w).2.map srt
theorem setAll_len (ps : List Int) (v : Int) : ∀ hs : List Int, (setAll hs ps v).length = hs.length := by
  induction ps with
  | nil => intro hs; rfl
  | cons p ps ih =>
    intro hs
    show (setAll (hs.set p.toNat v) ps v).length = hs.length
    rw [ih, List.length_set]
theorem setAll_get {ps : List Int} {v : Int} (h0 : ∀ p ∈ ps, 0 ≤ p) {q : Nat} : ∀ {hs : List Int}, q < hs.length → (setAll hs ps v).getD q 0 = if (q : Int) ∈ ps then v else hs.getD q 0 := by
  induction ps with
  | nil => intro hs _; simp [setAll]
  | cons p ps ih =>
    intro hs hq
    show (setAll (hs.set p.toNat v) ps v).getD q 0 = _
    rw [ih (fun x hx => h0 x (List.mem_cons_of_mem _ hx)) (by rw [List.length_set]; exact hq)]
    have hp := h0 p List.mem_cons_self
    by_cases h1 : (q : Int) ∈ ps
    · rw [if_pos h1, if_pos (List.mem_cons_of_mem _ h1)]
    · rw [if_neg h1]
      by_cases h2 : p = q
      · subst h2
        rw [if_pos List.mem_cons_self]
        simp [List.getD_eq_getElem?_getD, hq]
      · rw [if_neg (by simp [h1]; omega)]
        have : p.toNat ≠ q := by omega
        simp [List.getD_eq_getElem?_getD, List.getElem?_set, this]
theorem addRow_len {rs : List (List Int)} {h : Nat} {a : Int} (hh : h ≤ rs.length) : (addRow rs h a).length = max rs.length (h + 1) := by
  unfold addRow
  split
  · rw [List.length_append, List.length_singleton]; omega
  · rw [List.length_set]; omega
theorem addRow_get {rs : List (List Int)} {h : Nat} {a : Int} (hh : h ≤ rs.length) (i : Nat) : (addRow rs h a).getD i [] = if i = h then rs.getD h [] ++ [a] else rs.getD i [] := by
  unfold addRow
  split
  · rename_i e
    subst e
    by_cases h1 : i < rs.length
    · rw [if_neg (by omega)]
      simp [List.getD_eq_getElem?_getD, List.getElem?_append_left h1]
    · by_cases h2 : i = rs.length
      · subst h2
        rw [if_pos rfl]
        simp [List.getD_eq_getElem?_getD]
      · rw [if_neg h2]
        have : rs.length ≤ i := by omega
        rw [List.getD_eq_getElem?_getD, List.getD_eq_getElem?_getD, List.getElem?_append_right this, List.getElem?_eq_none (by simp; omega), List.getElem?_eq_none (by omega)]
  · by_cases h2 : i = h
    · subst h2
      rw [if_pos rfl]
      simp [List.getD_eq_getElem?_getD, show i < rs.length by omega]
    · rw [if_neg h2]
      simp [List.getD_eq_getElem?_getD, List.getElem?_set, Ne.symm h2]
/-- what holds between the turns -/
structure LInv (ls : Lets) (k : Int) (w : List Int) (s : List Int × List (List Int)) : Prop where
  len : s.1.length = k.toNat
  hi : ∀ q : Nat, q < k.toNat → 0 ≤ s.1.getD q 0 ∧ s.1.getD q 0 ≤ s.2.length
  word : ∀ p, at_ ls p s.2.flatten = at_ ls p w
  above : ∀ (q : Nat) (i : Nat), q < k.toNat → s.1.getD q 0 ≤ i → at_ ls q (s.2.getD i []) = []
  apart : ∀ i, (s.2.getD i []).Pairwise fun a b => free ls a b = true
  rests : ∀ i a, a ∈ s.2.getD (i + 1) [] → ∃ b ∈ s.2.getD i [], free ls a b = false
  full : ∀ i, i < s.2.length → s.2.getD i [] ≠ []
  some : ∀ (q : Nat), q < k.toNat → 0 < s.1.getD q 0 → at_ ls q (s.2.getD ((s.1.getD q 0).toNat - 1) []) ≠ []
  ok : ∀ i, ∀ x ∈ s.2.getD i [], 0 ≤ x ∧ x < (ls.length : Int)
  cnt : s.2.length ≤ w.length
  few : ∀ i, (s.2.getD i []).length ≤ w.length
theorem at_append (ls : Lets) (p : Int) (u v : List Int) : at_ ls p (u ++ v) = at_ ls p u ++ at_ ls p v := List.filter_append ..
theorem at_flatten (ls : Lets) (p : Int) (rs : List (List Int)) : at_ ls p rs.flatten = (rs.map (at_ ls p)).flatten := by
  induction rs with
  | nil => rfl
  | cons r rs ih => rw [List.flatten_cons, at_append, ih]; rfl
theorem flat_nil {rs : List (List Int)} (h : ∀ r ∈ rs, r = []) : rs.flatten = [] := by
  induction rs with
  | nil => rfl
  | cons r rs ih => rw [List.flatten_cons, h r List.mem_cons_self, ih fun x hx => h x (List.mem_cons_of_mem _ hx)]; rfl
theorem addRow_at {ls : Lets} {rs : List (List Int)} {h : Nat} {a p : Int} (hh : h ≤ rs.length) (hp : p ∈ pl ls a → ∀ i, h ≤ i → at_ ls p (rs.getD i []) = []) : at_ ls p (addRow rs h a).flatten = at_ ls p rs.flatten ++ at_ ls p [a] := by
  unfold addRow
  split
  · rw [List.flatten_append, at_append]
    congr 1
  · have hlt : h < rs.length := by omega
    have e1 : rs.set h (rs.getD h [] ++ [a]) = rs.take h ++ (rs.getD h [] ++ [a]) :: rs.drop (h + 1) := by
      rw [List.set_eq_take_append_cons_drop, if_pos hlt]
    have e2 : rs = rs.take h ++ rs.getD h [] :: rs.drop (h + 1) := by
      conv => lhs; rw [← List.take_append_drop h rs, List.drop_eq_getElem_cons hlt]
      simp [List.getD_eq_getElem?_getD, hlt]
    rw [e1]
    conv => rhs; rw [e2]
    rw [List.flatten_append, List.flatten_cons, List.flatten_append, List.flatten_cons]
    simp only [at_append, List.append_assoc]
    congr 2
    by_cases hpa : p ∈ pl ls a
    · have hn := hp hpa
      have : at_ ls p (rs.drop (h + 1)).flatten = [] := by
        rw [at_flatten]
        apply flat_nil
        intro r hr
        obtain ⟨r0, hr0, rfl⟩ := List.mem_map.mp hr
        obtain ⟨n, hn2, e⟩ := List.getElem_of_mem hr0
        rw [List.getElem_drop] at e
        have := hn (h + 1 + n) (by omega)
        rw [← e]
        rw [List.length_drop] at hn2
        simpa [List.getD_eq_getElem?_getD, show h + 1 + n < rs.length by omega] using this
      rw [this]; simp
    · have : at_ ls p [a] = [] := by simp [at_, hpa]
      rw [this]; simp
theorem at_one {ls : Lets} {p a : Int} : at_ ls p [a] = if p ∈ pl ls a then [a] else [] := by
  by_cases h : p ∈ pl ls a <;> simp [at_, h]
theorem at_nil_iff {ls : Lets} {p : Int} {l : List Int} : at_ ls p l = [] ↔ ∀ x ∈ l, p ∉ pl ls x := by
  unfold at_
  rw [List.filter_eq_nil_iff]
  simp
theorem LInv.step {ls : Lets} {k : Int} {w : List Int} {s : List Int × List (List Int)} (A : AlphaOk k ls) (I : LInv ls k w s) {a : Int} (ha : 0 ≤ a ∧ a < (ls.length : Int)) : LInv ls k (w ++ [a]) (lstep ls s a) := by
  obtain ⟨hs, rs⟩ := s
  obtain ⟨pne, _, pok⟩ := A.ok _ (pl_mem ha.1 ha.2)
  have pin : ∀ p ∈ pl ls a, p.toNat < k.toNat ∧ ((p.toNat : Nat) : Int) = p := fun p hp => by have := pok p hp; omega
  -- the height
  have hmem : top0 (hts ls hs a) ∈ hts ls hs a := top0_mem (by simp [hts, pne]) fun y hy => by
    obtain ⟨p, hp, rfl⟩ := List.mem_map.mp hy
    exact (I.hi _ (pin p hp).1).1
  obtain ⟨p0, hp0, e0⟩ := List.mem_map.mp hmem
  have hge : ∀ p ∈ pl ls a, hs.getD p.toNat 0 ≤ top0 (hts ls hs a) := fun p hp => top0_le _ (List.mem_map_of_mem hp)
  have hb := I.hi _ (pin p0 hp0).1
  generalize hh : top0 (hts ls hs a) = h at *
  obtain ⟨n, rfl⟩ : ∃ n : Nat, h = n := ⟨h.toNat, by dsimp only at hb; omega⟩
  have hn : n ≤ rs.length := by dsimp only at hb; omega
  have E : lstep ls (hs, rs) a = (setAll hs (pl ls a) ((n : Int) + 1), addRow rs n a) := by
    show (setAll hs (pl ls a) (top0 (hts ls hs a) + 1), addRow rs (top0 (hts ls hs a)).toNat a) = _
    rw [hh]; rfl
  rw [E]
  have hl : hs.length = k.toNat := I.len
  have gs : ∀ q : Nat, q < k.toNat → (setAll hs (pl ls a) ((n : Int) + 1)).getD q 0 = if (q : Int) ∈ pl ls a then (n : Int) + 1 else hs.getD q 0 := fun q hq => setAll_get (fun p hp => (pok p hp).1) (by omega)
  have gr := addRow_get (a := a) hn
  have gl := addRow_len (a := a) hn
  have emp : ∀ p ∈ pl ls a, ∀ i, n ≤ i → at_ ls p (rs.getD i []) = [] := fun p hp i hi => by
    have := I.above p.toNat i (pin p hp).1 (by have := hge p hp; dsimp only; omega)
    rw [(pin p hp).2] at this
    exact this
  refine ⟨by rw [setAll_len]; exact hl, fun q hq => ?_, fun p => ?_, fun q i hq hi => ?_, fun i => ?_, fun i b hbm => ?_, fun i hi => ?_, fun q hq h0 => ?_, fun i x hx => ?_, by have := I.cnt; dsimp only at this ⊢; rw [gl, List.length_append, List.length_singleton]; omega, fun i => by
    have := I.few i
    have h2 := I.few n
    dsimp only at this h2 ⊢
    rw [gr, List.length_append, List.length_singleton]
    split
    · rw [List.length_append, List.length_singleton]; omega
    · omega⟩
  · dsimp only
    rw [gs q hq, gl]
    have := I.hi q hq
    dsimp only at this
    split <;> omega
  · dsimp only
    rw [addRow_at hn (fun hp => emp p hp), at_append, I.word p]
  · dsimp only at hi ⊢
    rw [gs q hq] at hi
    rw [gr]
    split at hi
    · rename_i hqa
      rw [if_neg (by omega)]
      exact emp _ hqa i (by omega)
    · rename_i hqa
      split
      · rename_i e
        subst e
        rw [at_append, at_one, if_neg hqa, I.above q i hq hi]; rfl
      · exact I.above q i hq hi
  · dsimp only
    rw [gr]
    split
    · rw [List.pairwise_append]
      refine ⟨I.apart n, List.pairwise_singleton _ _, fun b hb c hc => ?_⟩
      rw [List.mem_singleton.mp hc]
      refine disj_iff.mpr fun p hpb hpa => ?_
      exact at_nil_iff.mp (emp p hpa n (Nat.le_refl _)) b hb hpb
    · exact I.apart i
  · dsimp only at hbm ⊢
    rw [gr] at hbm
    have old : ∀ (c : Int), c ∈ rs.getD i [] → c ∈ (addRow rs n a).getD i [] := fun c hc => by
      rw [gr]
      split
      · rename_i e; subst e; exact List.mem_append_left _ hc
      · exact hc
    have fromold : b ∈ rs.getD (i + 1) [] → ∃ c ∈ (addRow rs n a).getD i [], free ls b c = false := fun h => by
      obtain ⟨c, hc, f⟩ := I.rests i b h
      exact ⟨c, old c hc, f⟩
    split at hbm
    · rename_i e
      rcases List.mem_append.mp hbm with h | h
      · exact fromold (by rw [e]; exact h)
      · rw [List.mem_singleton.mp h]
        have sm := I.some p0.toNat (pin p0 hp0).1 (by dsimp only; omega)
        dsimp only at sm
        rw [show (hs.getD p0.toNat 0).toNat - 1 = i by omega, (pin p0 hp0).2] at sm
        cases hat : at_ ls p0 (rs.getD i []) with
        | nil => exact absurd hat sm
        | cons c cs =>
          have hc : c ∈ at_ ls p0 (rs.getD i []) := by rw [hat]; exact List.mem_cons_self
          unfold at_ at hc
          obtain ⟨h1, h2⟩ := List.mem_filter.mp hc
          exact ⟨c, old c h1, not_disj.mpr ⟨p0, hp0, by simpa using h2⟩⟩
    · exact fromold hbm
  · dsimp only at hi ⊢
    rw [gr]
    rw [gl] at hi
    split
    · simp
    · exact I.full i (by dsimp only; omega)
  · dsimp only at h0 ⊢
    rw [gs q hq] at h0 ⊢
    split
    · rename_i hqa
      rw [show (((n : Int) + 1).toNat - 1) = n by omega, gr, if_pos rfl, at_append, at_one, if_pos hqa]
      simp
    · rename_i hqa
      rw [if_neg hqa] at h0
      have := I.some q hq h0
      dsimp only at this
      rw [gr]
      split
      · rename_i e
        rw [e] at this
        rw [at_append]
        intro z
        exact this (List.append_eq_nil_iff.mp z).1
      · exact this
  · dsimp only at hx
    rw [gr] at hx
    split at hx
    · rcases List.mem_append.mp hx with h | h
      · exact I.ok n x h
      · rw [List.mem_singleton.mp h]; exact ha
    · exact I.ok i x hx
theorem LInv.start {ls : Lets} {k : Int} : LInv ls k [] (List.replicate k.toNat 0, []) := by
  have g : ∀ q : Nat, (List.replicate k.toNat (0 : Int)).getD q 0 = 0 := fun q => by
    rw [List.getD_eq_getElem?_getD, List.getElem?_replicate]; split <;> rfl
  refine ⟨List.length_replicate, fun q _ => ?_, fun p => rfl, fun q i _ _ => rfl, fun i => List.Pairwise.nil, fun i a h => (by cases h), fun i h => (by cases h), fun q _ h => ?_, fun i x h => (by cases h), Nat.le_refl _, fun i => Nat.le_refl _⟩
  · dsimp only; rw [g]; exact ⟨Int.le_refl _, Int.le_refl _⟩
  · dsimp only at h; rw [g] at h; omega
theorem lay_inv {ls : Lets} {k : Int} (A : AlphaOk k ls) {w : List Int} (hw : WordOk ls w) : LInv ls k w (lay ls k w) := by
  have key : ∀ (v u : List Int) (s : List Int × List (List Int)), WordOk ls v → LInv ls k u s → LInv ls k (u ++ v) (v.foldl (lstep ls) s) := by
    intro v
    induction v with
    | nil => intro u s _ I; rw [List.append_nil]; exact I
    | cons a v ih =>
      intro u s h I
      have := ih (u ++ [a]) (lstep ls s a) (fun x hx => h x (List.mem_cons_of_mem _ hx)) (I.step A (h a List.mem_cons_self))
      rw [List.append_assoc] at this
      exact this
  exact key w [] _ hw LInv.start
/-! ### the order of free neighbours doesn't matter -/
structure Like (s t : List Int × List (List Int)) : Prop where
  hs : s.1 = t.1
  len : s.2.length = t.2.length
  row : ∀ i, (s.2.getD i []).Perm (t.2.getD i [])
theorem hgt_le {ls : Lets} {k : Int} {w : List Int} {s : List Int × List (List Int)} (A : AlphaOk k ls) (I : LInv ls k w s) {a : Int} (ha : 0 ≤ a ∧ a < (ls.length : Int)) : (top0 (hts ls s.1 a)).toNat ≤ s.2.length ∧ 0 ≤ top0 (hts ls s.1 a) := by
  obtain ⟨pne, _, pok⟩ := A.ok _ (pl_mem ha.1 ha.2)
  have hb : ∀ p ∈ pl ls a, 0 ≤ s.1.getD p.toNat 0 ∧ s.1.getD p.toNat 0 ≤ s.2.length := fun p hp => I.hi _ (by have := pok p hp; omega)
  have hmem : top0 (hts ls s.1 a) ∈ hts ls s.1 a := top0_mem (by simp [hts, pne]) fun y hy => by
    obtain ⟨p, hp, rfl⟩ := List.mem_map.mp hy
    exact (hb p hp).1
  obtain ⟨p, hp, e⟩ := List.mem_map.mp hmem
  have := hb p hp
  omega
theorem Like.step {ls : Lets} {k : Int} {w : List Int} {s t : List Int × List (List Int)} (A : AlphaOk k ls) (I : LInv ls k w s) (L : Like s t) {a : Int} (ha : 0 ≤ a ∧ a < (ls.length : Int)) : Like (lstep ls s a) (lstep ls t a) := by
  have h1 := (hgt_le A I ha).1
  have e : hts ls t.1 a = hts ls s.1 a := by rw [L.hs]
  refine ⟨?_, ?_, fun i => ?_⟩
  · show setAll s.1 _ (top0 (hts ls s.1 a) + 1) = setAll t.1 _ (top0 (hts ls t.1 a) + 1)
    rw [e, L.hs]
  · show (addRow s.2 _ a).length = (addRow t.2 (top0 (hts ls t.1 a)).toNat a).length
    rw [e, addRow_len h1, addRow_len (by rw [← L.len]; exact h1), L.len]
  · show ((addRow s.2 _ a).getD i []).Perm ((addRow t.2 (top0 (hts ls t.1 a)).toNat a).getD i [])
    rw [e, addRow_get h1, addRow_get (by rw [← L.len]; exact h1)]
    split
    · exact (L.row _).append_right _
    · exact L.row i
theorem addRow2 {rs : List (List Int)} {h1 h2 : Nat} {a b : Int} (l1 : h1 ≤ rs.length) (l2 : h2 ≤ rs.length) : (addRow (addRow rs h1 a) h2 b).length = max (max rs.length (h1 + 1)) (h2 + 1) ∧
    ∀ i, (addRow (addRow rs h1 a) h2 b).getD i [] = if i = h2 then (if h2 = h1 then rs.getD h1 [] ++ [a] else rs.getD h2 []) ++ [b] else if i = h1 then rs.getD h1 [] ++ [a] else rs.getD i [] := by
  have e := addRow_len (a := a) l1
  have l3 : h2 ≤ (addRow rs h1 a).length := by rw [e]; omega
  refine ⟨by rw [addRow_len l3, e], fun i => ?_⟩
  rw [addRow_get l3, addRow_get l1, addRow_get l1]
theorem lstep_comm {ls : Lets} {k : Int} {w : List Int} {s : List Int × List (List Int)} (A : AlphaOk k ls) (I : LInv ls k w s) {a b : Int} (ha : 0 ≤ a ∧ a < (ls.length : Int)) (hb : 0 ≤ b ∧ b < (ls.length : Int)) (f : free ls a b = true) : Like (lstep ls (lstep ls s a) b) (lstep ls (lstep ls s b) a) := by
  obtain ⟨_, _, oka⟩ := A.ok _ (pl_mem ha.1 ha.2)
  obtain ⟨_, _, okb⟩ := A.ok _ (pl_mem hb.1 hb.2)
  have l1 := (hgt_le A I ha).1
  have l2 := (hgt_le A I hb).1
  have other : ∀ {x y : Int} {v : Int}, (∀ p ∈ pl ls x, 0 ≤ p ∧ p < k) → (∀ p ∈ pl ls y, 0 ≤ p ∧ p < k) → free ls x y = true → hts ls (setAll s.1 (pl ls x) v) y = hts ls s.1 y := fun {x y v} ox oy fr => by
    refine List.map_congr_left fun p hp => ?_
    have hp2 := oy p hp
    rw [setAll_get (fun q hq => (ox q hq).1) (by rw [I.len]; omega), if_neg fun z => ?_]
    rw [show ((p.toNat : Nat) : Int) = p by omega] at z
    exact disj_iff.mp fr p z hp
  have e1 : hts ls (lstep ls s a).1 b = hts ls s.1 b := other oka okb f
  have e2 : hts ls (lstep ls s b).1 a = hts ls s.1 a := other okb oka (by rw [free_comm]; exact f)
  refine ⟨?_, ?_, fun i => ?_⟩
  · show setAll (setAll s.1 (pl ls a) _) (pl ls b) (top0 (hts ls (lstep ls s a).1 b) + 1) = setAll (setAll s.1 (pl ls b) _) (pl ls a) (top0 (hts ls (lstep ls s b).1 a) + 1)
    rw [e1, e2]
    apply List.ext_getElem
    · simp only [setAll_len]
    · intro n h1 h2
      simp only [setAll_len] at h1 h2
      have g : ∀ (l : List Int) (h : n < l.length), l[n] = l.getD n 0 := fun l h => by rw [List.getD_eq_getElem?_getD, List.getElem?_eq_getElem h]; rfl
      rw [g, g, setAll_get (fun q hq => (okb q hq).1) (by rw [setAll_len]; exact h1), setAll_get (fun q hq => (oka q hq).1) h1, setAll_get (fun q hq => (oka q hq).1) (by rw [setAll_len]; exact h1), setAll_get (fun q hq => (okb q hq).1) h1]
      by_cases c1 : (n : Int) ∈ pl ls b
      · rw [if_pos c1, if_pos c1, if_neg fun c2 => disj_iff.mp f _ c2 c1]
      · rw [if_neg c1, if_neg c1]
  · show (addRow (addRow s.2 _ a) (top0 (hts ls (lstep ls s a).1 b)).toNat b).length = (addRow (addRow s.2 _ b) (top0 (hts ls (lstep ls s b).1 a)).toNat a).length
    rw [e1, e2, (addRow2 l1 l2).1, (addRow2 l2 l1).1]
    omega
  · show ((addRow (addRow s.2 _ a) (top0 (hts ls (lstep ls s a).1 b)).toNat b).getD i []).Perm ((addRow (addRow s.2 _ b) (top0 (hts ls (lstep ls s b).1 a)).toNat a).getD i [])
    rw [e1, e2, (addRow2 l1 l2).2, (addRow2 l2 l1).2]
    generalize (top0 (hts ls s.1 a)).toNat = x
    generalize (top0 (hts ls s.1 b)).toNat = y
    by_cases c1 : i = x <;> by_cases c2 : i = y
    · subst c1; subst c2
      simp only [if_true, List.append_assoc]
      exact (List.perm_append_comm (l₁ := [a]) (l₂ := [b])).append_left _
    · subst c1
      simp only [if_neg c2, if_true]
      exact List.Perm.refl _
    · subst c2
      simp only [if_neg c1, if_true]
      exact List.Perm.refl _
    · simp only [if_neg c1, if_neg c2]
      exact List.Perm.refl _
theorem srt_congr {l m : List Int} (p : l.Perm m) : srt l = srt m := srt_eq ((srt_perm l).trans p) (srt_up l)
theorem Like.same {s t : List Int × List (List Int)} (L : Like s t) : s.2.map srt = t.2.map srt := by
  apply List.ext_getElem
  · simp [L.len]
  · intro n h1 h2
    rw [List.length_map] at h1 h2
    rw [List.getElem_map, List.getElem_map]
    have := L.row n
    rw [List.getD_eq_getElem?_getD, List.getD_eq_getElem?_getD, List.getElem?_eq_getElem h1, List.getElem?_eq_getElem h2] at this
    exact srt_congr this
theorem lay_foldl {ls : Lets} {k : Int} (A : AlphaOk k ls) : ∀ (v : List Int) (w : List Int) (s t : List Int × List (List Int)), WordOk ls v → LInv ls k w s → Like s t → Like (v.foldl (lstep ls) s) (v.foldl (lstep ls) t)
  | [], _, _, _, _, _, L => L
  | a :: v, w, s, t, hv, I, L => lay_foldl A v (w ++ [a]) _ _ (fun x hx => hv x (List.mem_cons_of_mem _ hx)) (I.step A (hv a List.mem_cons_self)) (L.step A I (hv a List.mem_cons_self))
theorem layers_swp {ls : Lets} {k : Int} (A : AlphaOk k ls) {w w' : List Int} (h : Swp ls w w') (hw : WordOk ls w) : layers ls k w' = layers ls k w := by
  induction h with
  | refl => rfl
  | @step u v a b h f ih =>
    rw [← ih]
    obtain ⟨ok, _⟩ := h.word hw
    have oka := ok a (by simp)
    have okb := ok b (by simp)
    have oku : WordOk ls u := fun x hx => ok x (List.mem_append_left _ hx)
    have okv : WordOk ls v := fun x hx => ok x (by simp [hx])
    have I := lay_inv A oku
    have L := lstep_comm A I okb oka (by rw [free_comm]; exact f)
    refine Like.same ?_
    unfold lay
    rw [List.foldl_append, List.foldl_append]
    exact lay_foldl A v (u ++ [b] ++ [a]) _ _ okv ((I.step A okb).step A oka) L
/-! ### what the law asks of the layers -/
theorem free_self {ls : Lets} {k : Int} (A : AlphaOk k ls) {a : Int} (ha : 0 ≤ a ∧ a < (ls.length : Int)) : free ls a a = false := by
  obtain ⟨h, _, _⟩ := A.ok _ (pl_mem ha.1 ha.2)
  obtain ⟨x, xs, e⟩ := List.exists_cons_of_ne_nil h
  exact not_disj.mpr ⟨x, by rw [e]; exact List.mem_cons_self, by rw [e]; exact List.mem_cons_self⟩
theorem at_few {ls : Lets} {p : Int} : ∀ {l m : List Int}, l.Pairwise (fun a b => free ls a b = true) → m.Perm l → at_ ls p m = at_ ls p l := by
  intro l m h pm
  have h1 : (at_ ls p l).length ≤ 1 := by
    have hp : (at_ ls p l).Pairwise (fun a b => free ls a b = true) := h.sublist List.filter_sublist
    have hm : ∀ x ∈ at_ ls p l, p ∈ pl ls x := fun x hx => by simpa using (List.mem_filter.mp hx).2
    match hq : at_ ls p l with
    | [] => simp
    | [_] => simp
    | a :: b :: r =>
      rw [hq] at hp hm
      have f := (List.pairwise_cons.mp hp).1 b List.mem_cons_self
      exact absurd (hm b (by simp)) (disj_iff.mp f p (hm a (by simp)))
  have pq : (at_ ls p m).Perm (at_ ls p l) := pm.filter _
  match hq : at_ ls p l, h1 with
  | [], _ => rw [hq] at pq; exact pq.eq_nil
  | [x], _ => rw [hq] at pq; exact List.perm_singleton.mp pq
structure LayOk (ls : Lets) (w : List Int) (l : List (List Int)) : Prop where
  full : ∀ x ∈ l, x ≠ []
  up : ∀ x ∈ l, x.Pairwise (· < ·)
  apart : ∀ x ∈ l, ∀ a ∈ x, ∀ b ∈ x, a ≠ b → free ls a b = true
  rests : ∀ i x y, l[i]? = some x → l[i + 1]? = some y → ∀ a ∈ y, ∃ b ∈ x, free ls a b = false
  word : ∀ p, at_ ls p l.flatten = at_ ls p w
  ok : ∀ x ∈ l, ∀ a ∈ x, 0 ≤ a ∧ a < (ls.length : Int)
  cnt : l.length ≤ w.length
  few : l.flatten.length ≤ w.length * w.length
  row : ∀ x ∈ l, x.length ≤ w.length
theorem srt_lt {ls : Lets} {k : Int} (A : AlphaOk k ls) {l : List Int} (h : l.Pairwise (fun a b => free ls a b = true)) (ok : ∀ x ∈ l, 0 ≤ x ∧ x < (ls.length : Int)) : (srt l).Pairwise (· < ·) := by
  have nd : (srt l).Nodup := (srt_perm l).nodup_iff.mpr (by
    rw [List.nodup_iff_pairwise_ne]
    refine List.Pairwise.imp_of_mem ?_ h
    intro a b ha hb f e
    subst e
    rw [free_self A (ok a ha)] at f
    cases f)
  have up := srt_up l
  rw [List.nodup_iff_pairwise_ne] at nd
  refine List.Pairwise.imp₂ ?_ up nd
  intro a b h1 h2
  omega
theorem layers_ok {ls : Lets} {k : Int} (A : AlphaOk k ls) {w : List Int} (hw : WordOk ls w) : LayOk ls w (layers ls k w) := by
  have I := lay_inv A hw
  unfold layers
  generalize lay ls k w = s at I
  obtain ⟨hs, rs⟩ := s
  dsimp only at I ⊢
  have get : ∀ x ∈ rs, ∃ i, rs.getD i [] = x ∧ i < rs.length := fun x hx => by
    obtain ⟨i, hi, e⟩ := List.getElem_of_mem hx
    exact ⟨i, by rw [List.getD_eq_getElem?_getD, List.getElem?_eq_getElem hi]; exact e, hi⟩
  have sub : ∀ (P : List Int → Prop), (∀ i, i < rs.length → P (srt (rs.getD i []))) → ∀ x ∈ rs.map srt, P x := fun P h x hx => by
    obtain ⟨y, hy, rfl⟩ := List.mem_map.mp hx
    obtain ⟨i, e, hi⟩ := get y hy
    rw [← e]; exact h i hi
  have pw : ∀ {l : List Int}, l.Pairwise (fun a b => free ls a b = true) → ∀ a ∈ l, ∀ b ∈ l, a ≠ b → free ls a b = true := by
    intro l
    induction l with
    | nil => intro _ a ha; cases ha
    | cons x l ih =>
      intro h a ha b hb ne
      obtain ⟨h1, h2⟩ := List.pairwise_cons.mp h
      rcases List.mem_cons.mp ha with e | ha <;> rcases List.mem_cons.mp hb with e2 | hb
      · exact absurd (e.trans e2.symm) ne
      · rw [e]; exact h1 b hb
      · rw [e2, free_comm]; exact h1 a ha
      · exact ih h2 a ha b hb ne
  refine ⟨sub _ fun i hi e => ?_, sub _ fun i _ => srt_lt A (I.apart i) (I.ok i), sub _ fun i _ a ha b hb ne => ?_, fun i x y hx hy a ha => ?_, fun p => ?_, sub _ fun i _ a ha => I.ok i a ((srt_perm _).subset ha), by rw [List.length_map]; exact I.cnt, ?_, sub _ fun i _ => by rw [(srt_perm _).length_eq]; exact I.few i⟩
  · have := (srt_perm (rs.getD i [])).length_eq
    rw [e] at this
    exact I.full i hi (List.eq_nil_of_length_eq_zero this.symm)
  · exact pw (I.apart i) a ((srt_perm _).subset ha) b ((srt_perm _).subset hb) ne
  · rw [List.getElem?_map] at hx hy
    obtain ⟨x0, hx0, rfl⟩ := Option.map_eq_some_iff.mp hx
    obtain ⟨y0, hy0, rfl⟩ := Option.map_eq_some_iff.mp hy
    have ex : rs.getD i [] = x0 := by rw [List.getD_eq_getElem?_getD, hx0]; rfl
    have ey : rs.getD (i + 1) [] = y0 := by rw [List.getD_eq_getElem?_getD, hy0]; rfl
    obtain ⟨b, hb, f⟩ := I.rests i a (by dsimp only; rw [ey]; exact (srt_perm _).subset ha)
    dsimp only at hb
    rw [ex] at hb
    exact ⟨b, (srt_perm _).symm.subset hb, f⟩
  · rw [← I.word p, at_flatten, at_flatten, List.map_map]
    dsimp only
    congr 1
    refine List.map_congr_left fun x hx => ?_
    obtain ⟨i, e, hi⟩ := get x hx
    refine at_few ?_ (srt_perm x)
    rw [← e]; exact I.apart i
  · have bound : ∀ (l : List (List Int)) (n : Nat), (∀ x ∈ l, x.length ≤ n) → l.flatten.length ≤ l.length * n := by
      intro l n
      induction l with
      | nil => intro _; simp
      | cons x l ih =>
        intro h
        have := ih fun y hy => h y (List.mem_cons_of_mem _ hy)
        have := h x List.mem_cons_self
        rw [List.flatten_cons, List.length_append, List.length_cons, Nat.add_mul]
        omega
    have := bound (rs.map srt) w.length (sub _ fun i _ => by rw [(srt_perm _).length_eq]; exact I.few i)
    rw [List.length_map] at this
    exact Nat.le_trans this (Nat.mul_le_mul_right _ I.cnt)
theorem lt_unique : ∀ {l m : List Int}, l.Pairwise (· < ·) → m.Pairwise (· < ·) → (∀ k, k ∈ l ↔ k ∈ m) → l = m
  | [], [], _, _, _ => rfl
  | [], b :: m, _, _, h => absurd ((h b).mpr List.mem_cons_self) (by simp)
  | a :: l, [], _, _, h => absurd ((h a).mp List.mem_cons_self) (by simp)
  | a :: l, b :: m, h1, h2, h => by
    obtain ⟨x1, x2⟩ := List.pairwise_cons.mp h1
    obtain ⟨y1, y2⟩ := List.pairwise_cons.mp h2
    have hab : a = b := by
      rcases List.mem_cons.mp ((h a).mp List.mem_cons_self) with e | e
      · exact e
      · rcases List.mem_cons.mp ((h b).mpr List.mem_cons_self) with e2 | e2
        · exact e2.symm
        · have := x1 b e2; have := y1 a e; omega
    subst hab
    refine congrArg _ (lt_unique x2 y2 fun k => ⟨fun hk => ?_, fun hk => ?_⟩)
    · rcases List.mem_cons.mp ((h k).mp (List.mem_cons_of_mem _ hk)) with e | e
      · subst e; have := x1 k hk; omega
      · exact e
    · rcases List.mem_cons.mp ((h k).mpr (List.mem_cons_of_mem _ hk)) with e | e
      · subst e; have := y1 k hk; omega
      · exact e
end My
namespace My
/-! ### words of places, swaps, least forms -/
/-- the same words of all places -/
def Alk (ls : Lets) (k : Int) (u v : List Int) : Prop := ∀ p : Int, 0 ≤ p → p < k → at_ ls p u = at_ ls p v
theorem Alk.symm {ls k u v} (h : Alk ls k u v) : Alk ls k v u := fun p a b => (h p a b).symm
theorem Alk.trans {ls k u v x} (h : Alk ls k u v) (g : Alk ls k v x) : Alk ls k u x := fun p a b => (h p a b).trans (g p a b)
theorem AlphaOk.pl_ok {k : Int} {ls : Lets} (A : AlphaOk k ls) {a : Int} (ha : 0 ≤ a ∧ a < (ls.length : Int)) : pl ls a ≠ [] ∧ ∀ p ∈ pl ls a, 0 ≤ p ∧ p < k := by
  obtain ⟨h1, _, h3⟩ := A.ok _ (pl_mem ha.1 ha.2)
  exact ⟨h1, h3⟩
theorem AlphaOk.some {k : Int} {ls : Lets} (A : AlphaOk k ls) {a : Int} (ha : 0 ≤ a ∧ a < (ls.length : Int)) : ∃ p ∈ pl ls a, 0 ≤ p ∧ p < k := by
  obtain ⟨h1, h3⟩ := A.pl_ok ha
  obtain ⟨p, hp⟩ := List.exists_mem_of_ne_nil _ h1
  exact ⟨p, hp, h3 p hp⟩
/-- the letter comes next at each of its places -/
def rdy (ls : Lets) (r : List Int) (a : Int) : Bool := (pl ls a).all fun p => decide ((at_ ls p r).head? = some a)
theorem rdy_iff {ls : Lets} {r : List Int} {a : Int} : rdy ls r a = true ↔ ∀ p ∈ pl ls a, (at_ ls p r).head? = some a := by
  unfold rdy; simp
theorem at_cons_in {ls : Lets} {p a : Int} {r : List Int} (h : p ∈ pl ls a) : at_ ls p (a :: r) = a :: at_ ls p r := by
  unfold at_; rw [List.filter_cons, if_pos (by simpa using h)]
theorem at_cons_out {ls : Lets} {p a : Int} {r : List Int} (h : p ∉ pl ls a) : at_ ls p (a :: r) = at_ ls p r := by
  unfold at_; rw [List.filter_cons, if_neg (by simpa using h)]
theorem rdy_first {ls : Lets} {r : List Int} {a : Int} : rdy ls (a :: r) a = true := rdy_iff.mpr fun p hp => by rw [at_cons_in hp]; rfl
theorem WordOk.tail {ls : Lets} {a : Int} {r : List Int} (h : WordOk ls (a :: r)) : WordOk ls r := fun x hx => h x (List.mem_cons_of_mem _ hx)
theorem WordOk.erase {ls : Lets} {a : Int} {r : List Int} (h : WordOk ls r) : WordOk ls (r.erase a) := fun x hx => h x (List.mem_of_mem_erase hx)
theorem rdy_split {k : Int} {ls : Lets} (A : AlphaOk k ls) {a : Int} (ha : 0 ≤ a ∧ a < (ls.length : Int)) : ∀ {r : List Int}, rdy ls r a = true → ∃ r1 r2, r = r1 ++ a :: r2 ∧ a ∉ r1 ∧ (∀ b ∈ r1, free ls b a = true) ∧ r.erase a = r1 ++ r2
  | [], h => by
    obtain ⟨p, hp, _⟩ := A.some ha
    have := rdy_iff.mp h p hp
    simp [at_] at this
  | b :: r, h => by
    by_cases e : b = a
    · subst e
      exact ⟨[], r, rfl, by simp, (by simp), by simp⟩
    · have hp : ∀ p ∈ pl ls a, p ∉ pl ls b := fun p hp hb => by
        have := rdy_iff.mp h p hp
        rw [at_cons_in hb] at this
        exact e (by simpa using this)
      have h2 : rdy ls r a = true := rdy_iff.mpr fun p q => by
        have := rdy_iff.mp h p q
        rwa [at_cons_out (hp p q)] at this
      obtain ⟨r1, r2, e1, n1, f1, x1⟩ := rdy_split A ha h2
      refine ⟨b :: r1, r2, by rw [e1]; rfl, ?_, ?_, ?_⟩
      · intro hm
        rcases List.mem_cons.mp hm with hm | hm
        · exact e hm.symm
        · exact n1 hm
      · intro c hc
        rcases List.mem_cons.mp hc with rfl | hc
        · exact disj_iff.mpr fun p hpb hpa => hp p hpa hpb
        · exact f1 c hc
      · rw [List.erase_cons, if_neg (by simpa using e), x1]; rfl
theorem rdy_at {k : Int} {ls : Lets} (A : AlphaOk k ls) {a : Int} (ha : 0 ≤ a ∧ a < (ls.length : Int)) {r : List Int} (h : rdy ls r a = true) (p : Int) : at_ ls p r = at_ ls p (a :: r.erase a) := by
  obtain ⟨r1, r2, e1, n1, f1, x1⟩ := rdy_split A ha h
  rw [x1]
  by_cases hp : p ∈ pl ls a
  · have : at_ ls p r1 = [] := at_nil_iff.mpr fun b hb q => disj_iff.mp (f1 b hb) p q hp
    rw [at_cons_in hp, e1, at_append, at_append, this, at_cons_in hp]; rfl
  · rw [at_cons_out hp, e1, at_append, at_append, at_cons_out hp]
theorem rdy_mem {k : Int} {ls : Lets} (A : AlphaOk k ls) {a : Int} (ha : 0 ≤ a ∧ a < (ls.length : Int)) {r : List Int} (h : rdy ls r a = true) : a ∈ r := by
  obtain ⟨r1, r2, e1, _⟩ := rdy_split A ha h
  rw [e1]; simp
theorem Swp.trans1 {ls : Lets} {w u v : List Int} {a : Int} : ∀ {r : List Int}, Swp ls w (u ++ (r ++ a :: v)) → (∀ b ∈ r, free ls b a = true) → Swp ls w (u ++ a :: (r ++ v)) := by
  intro r
  induction r generalizing u with
  | nil => intro h _; exact h
  | cons b r ih =>
    intro h hf
    have h1 : Swp ls w ((u ++ [b]) ++ (r ++ a :: v)) := by simpa using h
    have h2 := ih h1 fun c hc => hf c (List.mem_cons_of_mem _ hc)
    have h3 : Swp ls w (u ++ b :: a :: (r ++ v)) := by simpa using h2
    exact .step h3 (hf b List.mem_cons_self)
theorem Alk.nil {k : Int} {ls : Lets} (A : AlphaOk k ls) {u : List Int} (hu : WordOk ls u) (h : Alk ls k u []) : u = [] := by
  cases u with
  | nil => rfl
  | cons a u =>
    obtain ⟨p, hp, h0, h1⟩ := A.some (hu a List.mem_cons_self)
    have := h p h0 h1
    rw [at_cons_in hp] at this
    cases this
theorem Alk.rdy {k : Int} {ls : Lets} (A : AlphaOk k ls) {u v : List Int} (h : Alk ls k u v) {a : Int} (ha : 0 ≤ a ∧ a < (ls.length : Int)) : rdy ls u a = rdy ls v a := by
  have := (A.pl_ok ha).2
  rw [Bool.eq_iff_iff, rdy_iff, rdy_iff]
  exact ⟨fun x p hp => by rw [← h p (this p hp).1 (this p hp).2]; exact x p hp, fun x p hp => by rw [h p (this p hp).1 (this p hp).2]; exact x p hp⟩
theorem Alk.tail {k : Int} {ls : Lets} {a : Int} {u v : List Int} (h : Alk ls k (a :: u) (a :: v)) : Alk ls k u v := fun p h0 h1 => by
  have := h p h0 h1
  by_cases hp : p ∈ pl ls a
  · rw [at_cons_in hp, at_cons_in hp] at this
    exact (List.cons.inj this).2
  · rwa [at_cons_out hp, at_cons_out hp] at this
theorem Alk.erase {k : Int} {ls : Lets} (A : AlphaOk k ls) {u v : List Int} (h : Alk ls k u v) {a : Int} (ha : 0 ≤ a ∧ a < (ls.length : Int)) (r : My.rdy ls u a = true) : Alk ls k (u.erase a) (v.erase a) := by
  have r2 : My.rdy ls v a = true := by rw [← h.rdy A ha]; exact r
  refine Alk.tail (a := a) fun p h0 h1 => ?_
  rw [← rdy_at A ha r, ← rdy_at A ha r2]
  exact h p h0 h1
theorem Alk.head {k : Int} {ls : Lets} (A : AlphaOk k ls) {u v : List Int} {a : Int} (h : Alk ls k u (a :: v)) (ha : 0 ≤ a ∧ a < (ls.length : Int)) : My.rdy ls u a = true ∧ Alk ls k (u.erase a) v := by
  have r : My.rdy ls u a = true := by rw [h.rdy A ha]; exact rdy_first
  have := h.erase A ha r
  rw [List.erase_cons_head] at this
  exact ⟨r, this⟩
theorem swp_of_alk {k : Int} {ls : Lets} (A : AlphaOk k ls) : ∀ {v u w x : List Int}, WordOk ls u → WordOk ls v → Alk ls k u v → Swp ls w (x ++ u) → Swp ls w (x ++ v)
  | [], u, w, x, hu, hv, h, s => by rw [h.nil A hu] at s; exact s
  | a :: v, u, w, x, hu, hv, h, s => by
    have ha := hv a List.mem_cons_self
    obtain ⟨r, h2⟩ := h.head A ha
    obtain ⟨r1, r2, e1, n1, f1, x1⟩ := rdy_split A ha r
    have s2 : Swp ls w (x ++ a :: (r1 ++ r2)) := by
      rw [e1] at s
      exact s.trans1 f1
    rw [← x1] at s2
    have s3 : Swp ls w ((x ++ [a]) ++ u.erase a) := by simpa using s2
    have := swp_of_alk A hu.erase hv.tail h2 s3
    simpa using this
theorem Alk.len {k : Int} {ls : Lets} (A : AlphaOk k ls) {u v : List Int} (hu : WordOk ls u) (hv : WordOk ls v) (h : Alk ls k u v) : v.length = u.length :=
  (swp_of_alk A (x := []) hu hv h (.refl u)).word hu |>.2
theorem Alk.layers {k : Int} {ls : Lets} (A : AlphaOk k ls) {u v : List Int} (hu : WordOk ls u) (hv : WordOk ls v) (h : Alk ls k u v) : My.layers ls k v = My.layers ls k u :=
  layers_swp A (swp_of_alk A (x := []) hu hv h (.refl u)) hu
/-! least forms -/
def nxt (ls : Lets) (r : List Int) : Option Nat := ((List.range ls.length).filter fun a : Nat => rdy ls r a).head?
def lfN (ls : Lets) : Nat → List Int → List Int
  | 0, _ => []
  | n + 1, r => match nxt ls r with
    | none => []
    | some a => (a : Int) :: lfN ls n (r.erase a)
theorem lfN_succ {ls : Lets} {n : Nat} {r : List Int} : lfN ls (n + 1) r = match nxt ls r with | none => [] | some a => (a : Int) :: lfN ls n (r.erase a) := rfl
def lf (ls : Lets) (w : List Int) : List Int := lfN ls w.length w
theorem nxt_some {ls : Lets} {r : List Int} (hr : WordOk ls r) (h : r ≠ []) : ∃ a : Nat, nxt ls r = some a ∧ a < ls.length ∧ rdy ls r a = true := by
  obtain ⟨b, r', rfl⟩ := List.exists_cons_of_ne_nil h
  have hb := hr b List.mem_cons_self
  obtain ⟨c, rfl⟩ := Int.eq_ofNat_of_zero_le hb.1
  have hc : c ∈ (List.range ls.length).filter fun a : Nat => rdy ls ((c : Int) :: r') a := List.mem_filter.mpr ⟨List.mem_range.mpr (by omega), rdy_first⟩
  cases e : nxt ls ((c : Int) :: r') with
  | none =>
    unfold nxt at e
    rw [List.head?_eq_none_iff] at e
    rw [e] at hc; cases hc
  | some a =>
    have hm := List.mem_of_mem_head? (by exact e : _ ∈ ((List.range ls.length).filter fun a : Nat => rdy ls ((c : Int) :: r') a).head?)
    obtain ⟨h1, h2⟩ := List.mem_filter.mp hm
    exact ⟨a, rfl, List.mem_range.mp h1, h2⟩
theorem nxt_alk {k : Int} {ls : Lets} (A : AlphaOk k ls) {u v : List Int} (h : Alk ls k u v) : nxt ls u = nxt ls v := by
  unfold nxt
  congr 1
  apply List.filter_congr
  intro a ha
  have := List.mem_range.mp ha
  exact h.rdy A ⟨by omega, by omega⟩
theorem lfN_ok {k : Int} {ls : Lets} (A : AlphaOk k ls) : ∀ {n : Nat} {r : List Int}, WordOk ls r → r.length = n → (lfN ls n r).length = n ∧ WordOk ls (lfN ls n r) ∧ ∀ p, at_ ls p (lfN ls n r) = at_ ls p r
  | 0, r, hr, h => by
    have : r = [] := List.length_eq_zero_iff.mp h
    subst this
    exact ⟨rfl, (fun x hx => absurd hx (by simp [lfN]) : WordOk ls (lfN ls 0 [])), fun p => rfl⟩
  | n + 1, r, hr, h => by
    obtain ⟨a, e, ha, rd⟩ := nxt_some hr (fun z => by subst z; cases h)
    have hA : 0 ≤ (a : Int) ∧ (a : Int) < (ls.length : Int) := ⟨by omega, by omega⟩
    have hm := rdy_mem A hA rd
    have hl : (r.erase (a : Int)).length = n := by rw [List.length_erase_of_mem hm]; omega
    obtain ⟨i1, i2, i3⟩ := lfN_ok A hr.erase hl
    have e2 : lfN ls (n + 1) r = (a : Int) :: lfN ls n (r.erase a) := by rw [lfN_succ, e]
    rw [e2]
    refine ⟨by simpa using i1, fun x hx => ?_, fun p => ?_⟩
    · rcases List.mem_cons.mp hx with rfl | hx
      · exact hA
      · exact i2 x hx
    · rw [rdy_at A hA rd p]
      by_cases hp : p ∈ pl ls a
      · rw [at_cons_in hp, at_cons_in hp, i3]
      · rw [at_cons_out hp, at_cons_out hp, i3]
theorem lfN_alk {k : Int} {ls : Lets} (A : AlphaOk k ls) : ∀ {n : Nat} {u v : List Int}, WordOk ls u → WordOk ls v → Alk ls k u v → lfN ls n u = lfN ls n v
  | 0, u, v, _, _, _ => rfl
  | n + 1, u, v, hu, hv, h => by
    rw [lfN_succ, lfN_succ, nxt_alk A h]
    cases e : nxt ls v with
    | none => rfl
    | some a =>
      have hm := List.mem_of_mem_head? (by exact e : _ ∈ ((List.range ls.length).filter fun a : Nat => rdy ls v a).head?)
      obtain ⟨h1, h2⟩ := List.mem_filter.mp hm
      have := List.mem_range.mp h1
      have hA : 0 ≤ (a : Int) ∧ (a : Int) < (ls.length : Int) := ⟨by omega, by omega⟩
      have := lfN_alk A (n := n) hu.erase hv.erase (h.erase A hA (by rw [h.rdy A hA]; exact h2))
      simp only [this]
theorem lf_ok {k : Int} {ls : Lets} (A : AlphaOk k ls) {w : List Int} (hw : WordOk ls w) : (lf ls w).length = w.length ∧ WordOk ls (lf ls w) ∧ ∀ p, at_ ls p (lf ls w) = at_ ls p w := lfN_ok A hw rfl
theorem lf_alk {k : Int} {ls : Lets} (A : AlphaOk k ls) {u v : List Int} (hu : WordOk ls u) (hv : WordOk ls v) : lf ls u = lf ls v ↔ Alk ls k u v := by
  constructor
  · intro h p _ _
    rw [← (lf_ok A hu).2.2 p, h, (lf_ok A hv).2.2 p]
  · intro h
    have := h.len A hu hv
    unfold lf
    rw [this]
    exact lfN_alk A hu hv h
theorem lf_lf {k : Int} {ls : Lets} (A : AlphaOk k ls) {w : List Int} (hw : WordOk ls w) : lf ls (lf ls w) = lf ls w :=
  (lf_alk A (lf_ok A hw).2.1 hw).mpr fun p _ _ => (lf_ok A hw).2.2 p
theorem lf_step {ls : Lets} {r : List Int} {a : Nat} (h : nxt ls r = some a) (hm : (a : Int) ∈ r) : lf ls r = (a : Int) :: lf ls (r.erase a) := by
  unfold lf
  obtain ⟨n, e⟩ : ∃ n, r.length = n + 1 := ⟨r.length - 1, by have := List.length_pos_of_mem hm; omega⟩
  have hl : (r.erase (a : Int)).length = n := by rw [List.length_erase_of_mem hm]; omega
  rw [e, hl]
  show (match nxt ls r with | none => [] | some a => (a : Int) :: lfN ls n (r.erase a)) = _
  rw [h]
/-! lists of swaps -/
def swp1 (ls : Lets) (w : List Int) (a : Int) : Option (List Int) :=
  if 0 ≤ a ∧ a + 1 < (w.length : Int) ∧ free ls (w.getD a.toNat 0) (w.getD (a.toNat + 1) 0) = true then some ((w.set a.toNat (w.getD (a.toNat + 1) 0)).set (a.toNat + 1) (w.getD a.toNat 0)) else none
def swpAll (ls : Lets) (w : List Int) (ps : List Int) : Option (List Int) := ps.foldl (fun o a => o.bind fun w => swp1 ls w a) (some w)
theorem swpAll_snoc {ls : Lets} {w : List Int} {ps : List Int} {a : Int} : swpAll ls w (ps ++ [a]) = (swpAll ls w ps).bind fun w => swp1 ls w a := by
  unfold swpAll; rw [List.foldl_append]; rfl
theorem swpAll_none {ls : Lets} : ∀ {ps : List Int}, ps.foldl (fun o a => o.bind fun w => swp1 ls w a) none = none
  | [] => rfl
  | _ :: ps => by rw [List.foldl_cons]; exact swpAll_none
theorem swpAll_take {ls : Lets} {w : List Int} {ps : List Int} {i : Nat} (h : swpAll ls w (ps.take i) = none) : swpAll ls w ps = none := by
  unfold swpAll at h ⊢
  rw [← List.take_append_drop i ps, List.foldl_append, h]
  exact swpAll_none
theorem swp1_mid {ls : Lets} {x y : List Int} {b a : Int} (h : free ls b a = true) : swp1 ls (x ++ b :: a :: y) (x.length : Int) = some (x ++ a :: b :: y) := by
  unfold swp1
  have g1 : (x ++ b :: a :: y).getD x.length 0 = b := by simp [List.getD_eq_getElem?_getD]
  have g2 : (x ++ b :: a :: y).getD (x.length + 1) 0 = a := by simp [List.getD_eq_getElem?_getD]
  rw [Int.toNat_natCast, g1, g2, if_pos ⟨by omega, by simp; omega, h⟩]
  congr 1
  rw [List.set_append_right _ _ (by omega), List.set_append_right _ _ (by omega)]
  simp
theorem swpAll_word {ls : Lets} {w : List Int} : ∀ {ps v : List Int}, WordOk ls w → swpAll ls w ps = some v → WordOk ls v ∧ v.length = w.length := by
  intro ps
  induction ps generalizing w with
  | nil => intro v hw h; cases h; exact ⟨hw, rfl⟩
  | cons a ps ih =>
    intro v hw h
    unfold swpAll at h
    rw [List.foldl_cons] at h
    cases e : swp1 ls w a with
    | none => rw [show (Option.bind (some w) fun w => swp1 ls w a) = none from e, swpAll_none] at h; cases h
    | some u =>
      rw [show (Option.bind (some w) fun w => swp1 ls w a) = some u from e] at h
      have hu : WordOk ls u ∧ u.length = w.length := by
        unfold swp1 at e
        split at e
        · rename_i c
          cases e
          refine ⟨fun x hx => ?_, by simp⟩
          have m : ∀ i : Nat, i < w.length → w.getD i 0 ∈ w := fun i hi => by rw [List.getD_eq_getElem?_getD, List.getElem?_eq_getElem hi]; exact List.getElem_mem hi
          rcases List.mem_or_eq_of_mem_set hx with hx | rfl
          · rcases List.mem_or_eq_of_mem_set hx with hx | rfl
            · exact hw x hx
            · exact hw _ (m _ (by omega))
          · exact hw _ (m _ (by omega))
        · cases e
      obtain ⟨h1, h2⟩ := ih hu.1 h
      exact ⟨h1, by omega⟩
end My
namespace My
/-! ### swaps counted -/
def tot : List Int → List Int → Nat
  | _, [] => 0
  | x, a :: v => x.idxOf a + tot (x.erase a) v
theorem idxOf_mid {r1 r2 : List Int} {a : Int} (h : a ∉ r1) : (r1 ++ a :: r2).idxOf a = r1.length := by
  rw [List.idxOf_append, if_neg h, List.idxOf_cons_self]; omega
/-- how often the letter at e stands before e -/
def occ (u : List Int) (e : Nat) : Nat := (u.take e).count (u.getD e 0)
def num (u : List Int) : List (Int × Int) := (List.range u.length).map fun e => (u.getD e 0, (occ u e : Int))
def pk (u : List Int) : List Int → List Int → List Nat
  | _, [] => []
  | pre, a :: v => (num u).idxOf (a, (pre.count a : Int)) :: pk u (pre ++ [a]) v
def rho (u pre : List Int) : List Nat := (List.range u.length).filter fun e => decide (pre.count (u.getD e 0) ≤ occ u e)
theorem occ_ex : ∀ {u : List Int} {a : Int} {c : Nat}, c < u.count a → ∃ e, e < u.length ∧ u.getD e 0 = a ∧ (u.take e).count a = c
  | [], a, c, h => by simp at h
  | b :: u, a, c, h => by
    by_cases e : b = a
    · subst e
      cases c with
      | zero => exact ⟨0, by simp, rfl, rfl⟩
      | succ c =>
        rw [List.count_cons_self] at h
        obtain ⟨e, h1, h2, h3⟩ := occ_ex (u := u) (a := b) (c := c) (by omega)
        exact ⟨e + 1, by simp; omega, by simpa using h2, by rw [List.take_succ_cons, List.count_cons_self, h3]⟩
    · rw [List.count_cons_of_ne (by simpa using e)] at h
      obtain ⟨i, h1, h2, h3⟩ := occ_ex (u := u) h
      exact ⟨i + 1, by simp; omega, by simpa using h2, by rw [List.take_succ_cons, List.count_cons_of_ne (by simpa using e), h3]⟩
theorem occ_mono {u : List Int} {a : Int} {d e : Nat} (hd : d < e) (he : e < u.length) (ha : u.getD d 0 = a) : (u.take d).count a < (u.take e).count a := by
  have e1 : u.take (d + 1) = u.take d ++ [a] := by
    rw [List.take_add_one, List.getElem?_eq_getElem (by omega)]
    rw [List.getD_eq_getElem?_getD, List.getElem?_eq_getElem (by omega)] at ha
    have ha : u[d] = a := ha
    rw [ha]; rfl
  have e2 : (u.take (d + 1)).count a ≤ (u.take e).count a := by
    have : u.take (d + 1) = (u.take e).take (d + 1) := by rw [List.take_take, Nat.min_eq_left (by omega)]
    rw [this]
    exact List.Sublist.count_le _ (List.take_sublist _ _)
  rw [e1, List.count_append] at e2
  simp at e2
  omega
theorem occ_inj {u : List Int} {d e : Nat} (hd : d < u.length) (he : e < u.length) (h : u.getD d 0 = u.getD e 0) (h2 : occ u d = occ u e) : d = e := by
  unfold occ at h2
  rcases Nat.lt_trichotomy d e with x | x | x
  · have := occ_mono x he h
    rw [h] at h2; omega
  · exact x
  · have := occ_mono x hd h.symm
    rw [← h] at h2
    omega
theorem num_at {u : List Int} {e : Nat} (h : e < u.length) : (num u)[e]? = some (u.getD e 0, (occ u e : Int)) := by
  unfold num; rw [List.getElem?_map, List.getElem?_range h]; rfl
theorem num_idx {u : List Int} {e : Nat} (h : e < u.length) : (num u).idxOf (u.getD e 0, (occ u e : Int)) = e := by
  have hm : (u.getD e 0, (occ u e : Int)) ∈ num u := List.mem_of_getElem? (num_at h)
  have hl := List.idxOf_lt_length_of_mem hm
  have hlen : (num u).length = u.length := by unfold num; simp
  have hg : (num u)[(num u).idxOf (u.getD e 0, (occ u e : Int))] = _ := List.getElem_idxOf hl
  have h2 := num_at (u := u) (e := (num u).idxOf (u.getD e 0, (occ u e : Int))) (by omega)
  rw [List.getElem?_eq_getElem hl, hg] at h2
  have h3 := Option.some.inj h2
  have h4 := congrArg Prod.fst h3
  have h5 := congrArg Prod.snd h3
  dsimp only at h4 h5
  exact (occ_inj h (by omega) h4 (by omega)).symm
/-- a run: each time one of what is left is taken -/
inductive Run : List Nat → List Nat → Nat → Prop where
  | nil : Run [] [] 0
  | cons {r1 r2 P e t} : Run (r1 ++ r2) P t → Run (r1 ++ e :: r2) (e :: P) (r1.length + t)
def inv : List Nat → Nat
  | [] => 0
  | e :: P => (P.filter fun p => decide (p < e)).length + inv P
theorem Run.ok {r P t} (h : Run r P t) : r.Pairwise (· < ·) → r.Perm P ∧ t = inv P := by
  induction h with
  | nil => exact fun _ => ⟨.refl _, rfl⟩
  | @cons r1 r2 P e t h ih =>
    intro hp
    have hs : List.Sublist (r1 ++ r2) (r1 ++ e :: r2) := List.Sublist.append_left (List.sublist_cons_self _ _) _
    obtain ⟨p1, p2⟩ := ih (hp.sublist hs)
    refine ⟨List.perm_middle.trans (.cons e p1), ?_⟩
    have hf : (P.filter fun p => decide (p < e)).length = r1.length := by
      rw [← (p1.filter _).length_eq, List.filter_append]
      obtain ⟨q1, q2, q3⟩ := List.pairwise_append.mp hp
      rw [List.filter_eq_self.mpr fun x hx => decide_eq_true (q3 x hx e List.mem_cons_self), List.filter_eq_nil_iff.mpr fun x hx => by
        have := (List.pairwise_cons.mp q2).1 x hx
        simp; omega]
      simp
    unfold inv
    rw [hf, p2]
theorem run_of {u : List Int} : ∀ {v pre : List Int}, u.Perm (pre ++ v) → Run (rho u pre) (pk u pre v) (tot ((rho u pre).map fun e => u.getD e 0) v)
  | [], pre, h => by
    have : rho u pre = [] := by
      unfold rho
      rw [List.filter_eq_nil_iff]
      intro e he
      have he := List.mem_range.mp he
      rw [List.append_nil] at h
      have h1 := h.count_eq (u.getD e 0)
      have e1 : u = u.take e ++ u.getD e 0 :: u.drop (e + 1) := by
        conv => lhs; rw [← List.take_append_drop e u, List.drop_eq_getElem_cons he]
        rw [List.getD_eq_getElem?_getD, List.getElem?_eq_getElem he]; rfl
      have h2 : u.count (u.getD e 0) = (u.take e).count (u.getD e 0) + ((u.drop (e + 1)).count (u.getD e 0) + 1) := by
        conv => lhs; rw [e1]
        rw [List.count_append]
        have : u.take e ++ u.getD e 0 :: u.drop (e + 1) = u := e1.symm
        rw [show (u.take e ++ u.getD e 0 :: u.drop (e + 1)).getD e 0 = u.getD e 0 by rw [this], List.count_cons_self]
      simp only [decide_eq_true_eq]
      unfold occ
      omega
    rw [this]
    exact .nil
  | a :: v, pre, h => by
    have hc : pre.count a < u.count a := by
      rw [h.count_eq a, List.count_append, List.count_cons_self]; omega
    obtain ⟨e, h1, h2, h3⟩ := occ_ex hc
    have ho : occ u e = pre.count a := by unfold occ; rw [h2]; exact h3
    have hi : (num u).idxOf (a, (pre.count a : Int)) = e := by
      rw [← num_idx h1, h2, ho]
    have hm : e ∈ rho u pre := List.mem_filter.mpr ⟨List.mem_range.mpr h1, by rw [h2, ho]; simp⟩
    have hpw : (rho u pre).Pairwise (· < ·) := List.pairwise_lt_range.sublist List.filter_sublist
    obtain ⟨r1, r2, er⟩ := List.append_of_mem hm
    have hpw2 := hpw
    rw [er] at hpw2
    obtain ⟨q1, q2, q3⟩ := List.pairwise_append.mp hpw2
    have hr : rho u (pre ++ [a]) = r1 ++ r2 := by
      have : rho u (pre ++ [a]) = (rho u pre).filter fun d => decide (d ≠ e) := by
        unfold rho
        rw [List.filter_filter]
        apply List.filter_congr
        intro d hd
        have hd := List.mem_range.mp hd
        rw [Bool.eq_iff_iff]
        simp only [Bool.and_eq_true, decide_eq_true_eq, List.count_append]
        by_cases z : u.getD d 0 = a
        · rw [z, List.count_singleton_self]
          constructor
          · intro hh
            refine ⟨?_, by omega⟩
            rintro rfl; omega
          · rintro ⟨hh1, hh2⟩
            rcases Nat.lt_or_ge (pre.count a) (occ u d) with hlt | hge
            · omega
            · exact absurd (occ_inj hd h1 (by rw [z, h2]) (by omega)) hh1
        · rw [List.count_eq_zero_of_not_mem (a := u.getD d 0) (l := [a]) (by simpa using z)]
          constructor
          · intro hh
            exact ⟨by rintro rfl; exact z h2, by omega⟩
          · rintro ⟨_, hh⟩; omega
      rw [this, er, List.filter_append, List.filter_cons]
      have n1 : r1.filter (fun d => decide (d ≠ e)) = r1 := List.filter_eq_self.mpr fun x hx => by
        have := q3 x hx e List.mem_cons_self
        simp; omega
      have n2 : r2.filter (fun d => decide (d ≠ e)) = r2 := List.filter_eq_self.mpr fun x hx => by
        have := (List.pairwise_cons.mp q2).1 x hx
        simp; omega
      rw [n1, n2]; simp
    have hn : a ∉ r1.map fun e => u.getD e 0 := by
      intro hx
      obtain ⟨d, hd, hda⟩ := List.mem_map.mp hx
      have hlt := q3 d hd e List.mem_cons_self
      have hdm : d ∈ rho u pre := by rw [er]; simp [hd]
      obtain ⟨hd1, hd2⟩ := List.mem_filter.mp hdm
      have hd1 := List.mem_range.mp hd1
      have := occ_mono hlt h1 hda
      have hd2 : pre.count (u.getD d 0) ≤ occ u d := by simpa using hd2
      unfold occ at hd2
      rw [hda] at hd2
      omega
    have ih := run_of (u := u) (v := v) (pre := pre ++ [a]) (by simpa using h)
    have et : (rho u pre).map (fun e => u.getD e 0) = r1.map (fun e => u.getD e 0) ++ a :: r2.map (fun e => u.getD e 0) := by rw [er, List.map_append, List.map_cons, h2]
    have eT : tot ((rho u pre).map fun e => u.getD e 0) (a :: v) = r1.length + tot ((r1 ++ r2).map fun e => u.getD e 0) v := by
      show List.idxOf a _ + tot (List.erase _ a) v = _
      rw [et, idxOf_mid hn, List.erase_append_right _ hn, List.erase_cons_head, List.length_map, List.map_append]
    rw [eT]
    show Run _ ((num u).idxOf (a, (pre.count a : Int)) :: pk u (pre ++ [a]) v) _
    rw [hi, er]
    rw [hr] at ih
    exact .cons ih
theorem rho_nil {u : List Int} : (rho u []).map (fun e => u.getD e 0) = u := by
  have : rho u [] = List.range u.length := by
    unfold rho
    exact List.filter_eq_self.mpr fun x _ => by simp
  rw [this]
  apply List.ext_getElem
  · simp
  · intro i h1 h2
    simp [List.getD_eq_getElem?_getD, h2]
theorem tot_inv {u v : List Int} (h : u.Perm v) : tot u v = inv (pk u [] v) := by
  have r := run_of (u := u) (v := v) (pre := []) (by simpa using h)
  rw [rho_nil] at r
  refine (r.ok ?_).2
  exact List.pairwise_lt_range.sublist List.filter_sublist
/-- the crossings as they are counted, row by row -/
def crs (P : List Nat) : Nat → Nat
  | 0 => 0
  | k + 1 => crs P k + ((List.range k).filter fun j => decide (P.getD j 0 > P.getD k 0)).length
theorem crs_cons {e : Nat} {P : List Nat} : ∀ {i : Nat}, i ≤ P.length → crs (e :: P) (i + 1) = crs P i + ((P.take i).filter fun p => decide (p < e)).length
  | 0, _ => by simp [crs]
  | i + 1, h => by
    have ih := crs_cons (e := e) (P := P) (i := i) (by omega)
    show crs (e :: P) (i + 1) + _ = crs P i + _ + _
    rw [ih, List.take_add_one, List.getElem?_eq_getElem (by omega), List.filter_append, List.length_append, List.range_succ_eq_map, List.filter_cons]
    have e1 : (e :: P).getD (i + 1) 0 = P[i] := by simp [List.getD_eq_getElem?_getD, List.getElem?_eq_getElem (show i < P.length by omega)]
    have e2 : P.getD i 0 = P[i] := by simp [List.getD_eq_getElem?_getD, List.getElem?_eq_getElem (show i < P.length by omega)]
    rw [e1, e2, List.filter_map]
    have e3 : ((List.range i).filter ((fun j => decide ((e :: P).getD j 0 > P[i])) ∘ Nat.succ)) = (List.range i).filter fun j => decide (P.getD j 0 > P[i]) := by
      apply List.filter_congr
      intro j hj
      simp [List.getD_eq_getElem?_getD]
    show _ + List.length (if decide ((e :: P).getD 0 0 > P[i]) = true then _ else _) = _
    have e4 : (e :: P).getD 0 0 = e := rfl
    rw [e4]
    by_cases hlt : P[i] < e
    · rw [if_pos (by simpa using hlt), List.length_cons, List.length_map, e3]
      simp [hlt]; omega
    · rw [if_neg (by simpa using hlt), List.length_map, e3]
      simp [hlt]; omega
theorem crs_inv : ∀ {P : List Nat}, crs P P.length = inv P
  | [] => rfl
  | e :: P => by
    rw [List.length_cons, crs_cons (Nat.le_refl _), List.take_length, crs_inv]
    show _ = (P.filter fun p => decide (p < e)).length + inv P
    omega
theorem swp_perm {ls : Lets} {u v : List Int} (h : Swp ls u v) : u.Perm v := by
  induction h with
  | refl => exact .refl _
  | step h f ih => exact ih.trans (List.Perm.append_left _ (List.Perm.swap _ _ _))
end My
namespace My
theorem num_perm {u v : List Int} (h : u.Perm v) {x : Int × Int} (hx : x ∈ num v) : x ∈ num u := by
  obtain ⟨e, he, rfl⟩ := List.mem_map.mp hx
  have he := List.mem_range.mp he
  have hc : occ v e < u.count (v.getD e 0) := by
    rw [h.count_eq]
    have e1 : v = v.take e ++ v.getD e 0 :: v.drop (e + 1) := by
      conv => lhs; rw [← List.take_append_drop e v, List.drop_eq_getElem_cons he]
      rw [List.getD_eq_getElem?_getD, List.getElem?_eq_getElem he]; rfl
    unfold occ
    generalize v.getD e 0 = a at e1 ⊢
    conv => rhs; rw [e1]
    rw [List.count_append, List.count_cons_self]; omega
  obtain ⟨d, h1, h2, h3⟩ := occ_ex hc
  have := List.mem_of_getElem? (num_at h1)
  unfold occ at this
  rw [h2, h3] at this
  exact this
theorem pk_map {u : List Int} : ∀ {v pre : List Int}, pk u pre v = (List.range v.length).map fun e => (num u).idxOf (v.getD e 0, ((pre.count (v.getD e 0) + occ v e : Nat) : Int))
  | [], pre => rfl
  | a :: v, pre => by
    show (num u).idxOf (a, (pre.count a : Int)) :: pk u (pre ++ [a]) v = _
    rw [pk_map, List.length_cons, List.range_succ_eq_map, List.map_cons, List.map_map]
    congr 1
    apply List.map_congr_left
    intro e he
    have e1 : (a :: v).getD (e + 1) 0 = v.getD e 0 := by simp [List.getD_eq_getElem?_getD]
    have e2 : occ (a :: v) (e + 1) = [a].count (v.getD e 0) + occ v e := by
      unfold occ
      rw [e1, List.take_succ_cons, List.count_cons, List.count_cons, List.count_nil]; omega
    show _ = List.idxOf ((a :: v).getD (e + 1) 0, _) _
    rw [e1]
    show _ = List.idxOf (v.getD e 0, ((pre.count ((a :: v).getD (e + 1) 0) + occ (a :: v) (e + 1) : Nat) : Int)) _
    rw [e1, e2, List.count_append, Nat.add_assoc]
theorem pk_num {u v : List Int} : pk u [] v = (num v).map fun x => (num u).idxOf x := by
  rw [pk_map]
  unfold num
  rw [List.map_map]
  apply List.map_congr_left
  intro e _
  simp
end My
namespace My
/-! ### all orders of a word, found breadth first -/
def ins (a : Int) : List Int → List (List Int)
  | [] => [[a]]
  | b :: l => (a :: b :: l) :: (ins a l).map (b :: ·)
def prms : List Int → List (List Int)
  | [] => [[]]
  | a :: w => (prms w).flatMap (ins a)
def fct : Nat → Nat
  | 0 => 1
  | n + 1 => (n + 1) * fct n
theorem ins_len {a : Int} : ∀ {l : List Int}, (ins a l).length = l.length + 1
  | [] => rfl
  | b :: l => by show (_ :: (ins a l).map _).length = _; rw [List.length_cons, List.length_map, ins_len]; rfl
theorem ins_mem {a : Int} {t : List Int} : ∀ {s : List Int}, s ++ a :: t ∈ ins a (s ++ t)
  | [] => by cases t <;> simp [ins]
  | b :: s => by
    show b :: (s ++ a :: t) ∈ (a :: b :: (s ++ t)) :: (ins a (s ++ t)).map (b :: ·)
    exact List.mem_cons_of_mem _ (List.mem_map.mpr ⟨_, ins_mem, rfl⟩)
theorem prms_mem : ∀ {w x : List Int}, x.Perm w → x ∈ prms w
  | [], x, h => by rw [h.eq_nil]; simp [prms]
  | a :: w, x, h => by
    have ha : a ∈ x := h.symm.subset List.mem_cons_self
    obtain ⟨s, t, rfl⟩ := List.append_of_mem ha
    have h2 : (s ++ t).Perm w := (List.perm_middle.symm.trans h).cons_inv
    exact List.mem_flatMap.mpr ⟨s ++ t, prms_mem h2, ins_mem⟩
theorem ins_each {a : Int} : ∀ {l x : List Int}, x ∈ ins a l → x.length = l.length + 1
  | [], x, h => by simp [ins] at h; rw [h]; rfl
  | b :: l, x, h => by
    rcases List.mem_cons.mp h with rfl | h
    · rfl
    · obtain ⟨y, hy, rfl⟩ := List.mem_map.mp h
      rw [List.length_cons, ins_each hy]; rfl
theorem prms_each : ∀ {w x : List Int}, x ∈ prms w → x.length = w.length
  | [], x, h => by simp [prms] at h; rw [h]
  | a :: w, x, h => by
    obtain ⟨y, hy, hx⟩ := List.mem_flatMap.mp h
    rw [ins_each hx, prms_each hy]; rfl
theorem flat_len {f : List Int → List (List Int)} {n : Nat} : ∀ {l : List (List Int)}, (∀ x ∈ l, (f x).length = n) → (l.flatMap f).length = n * l.length
  | [], _ => by simp
  | x :: l, h => by
    rw [List.flatMap_cons, List.length_append, h x List.mem_cons_self, flat_len fun y hy => h y (List.mem_cons_of_mem _ hy), List.length_cons, Nat.mul_add]; omega
theorem prms_len : ∀ {w : List Int}, (prms w).length = fct w.length
  | [] => rfl
  | a :: w => by
    show ((prms w).flatMap (ins a)).length = (w.length + 1) * fct w.length
    rw [flat_len (n := w.length + 1) fun x hx => by rw [ins_len, prms_each hx], prms_len]
theorem nodup_le {α : Type} [DecidableEq α] : ∀ {l m : List α}, l.Nodup → (∀ x ∈ l, x ∈ m) → l.length ≤ m.length
  | [], m, _, _ => Nat.zero_le _
  | x :: l, m, h, s => by
    obtain ⟨h1, h2⟩ := List.nodup_cons.mp h
    have hx := s x List.mem_cons_self
    have := nodup_le (l := l) (m := m.erase x) h2 fun y hy => by
      have hne : y ≠ x := fun e => h1 (e ▸ hy)
      exact (List.mem_erase_of_ne hne).mpr (s y (List.mem_cons_of_mem _ hy))
    rw [List.length_erase_of_mem hx] at this
    have := List.length_pos_of_mem hx
    rw [List.length_cons]; omega
theorem fct_mono : ∀ {n m : Nat}, n ≤ m → fct n ≤ fct m := by
  intro n m h
  induction h with
  | refl => exact Nat.le_refl _
  | step h ih =>
    refine Nat.le_trans ih ?_
    show _ ≤ (_ + 1) * fct _
    exact Nat.le_mul_of_pos_left _ (Nat.succ_pos _)
/-- one swap, at a -/
def swq (l : List Int) (a : Nat) : List Int := (l.set a (l.getD (a + 1) 0)).set (a + 1) (l.getD a 0)
def add1 (ls : Lets) (one : List Int) (f : List (List Int)) (a : Nat) : List (List Int) :=
  if free ls (one.getD a 0) (one.getD (a + 1) 0) = true ∧ swq one a ∉ f then f ++ [swq one a] else f
def turn1 (ls : Lets) (one : List Int) (f : List (List Int)) (m : Nat) : List (List Int) := (List.range m).foldl (add1 ls one) f
def turn (ls : Lets) (f : List (List Int)) (i : Nat) : List (List Int) := if i < f.length then turn1 ls (f.getD i []) f ((f.getD i []).length - 1) else f
def bfs (ls : Lets) (w : List Int) (m : Nat) : List (List Int) := (List.range m).foldl (turn ls) [w]
theorem turn1_succ {ls : Lets} {one : List Int} {f : List (List Int)} {m : Nat} : turn1 ls one f (m + 1) = add1 ls one (turn1 ls one f m) m := by
  unfold turn1; rw [List.range_succ, List.foldl_append]; rfl
theorem bfs_succ {ls : Lets} {w : List Int} {m : Nat} : bfs ls w (m + 1) = turn ls (bfs ls w m) m := by
  unfold bfs; rw [List.range_succ, List.foldl_append]; rfl
theorem swq_split {l : List Int} {a : Nat} (h : a + 1 < l.length) : l = l.take a ++ l.getD a 0 :: l.getD (a + 1) 0 :: l.drop (a + 2) ∧ swq l a = l.take a ++ l.getD (a + 1) 0 :: l.getD a 0 :: l.drop (a + 2) := by
  have g1 : l.getD a 0 = l[a] := by simp [List.getD_eq_getElem?_getD, show a < l.length by omega]
  have g2 : l.getD (a + 1) 0 = l[a + 1] := by simp [List.getD_eq_getElem?_getD, h]
  have e : l = l.take a ++ l.getD a 0 :: l.getD (a + 1) 0 :: l.drop (a + 2) := by
    rw [g1, g2]
    conv => lhs; rw [← List.take_append_drop a l, List.drop_eq_getElem_cons (show a < l.length by omega), List.drop_eq_getElem_cons h]
  refine ⟨e, ?_⟩
  have tl : (l.take a).length = a := by rw [List.length_take]; omega
  unfold swq
  generalize l.getD a 0 = x at e ⊢
  generalize l.getD (a + 1) 0 = y at e ⊢
  conv => lhs; rw [e]
  rw [List.set_append_right _ _ (by omega), List.set_append_right _ _ (by omega), tl]
  simp
structure Bfs (ls : Lets) (w : List Int) (f : List (List Int)) : Prop where
  nd : f.Nodup
  sw : ∀ x ∈ f, Swp ls w x
  me : w ∈ f
theorem add1_ok {ls : Lets} {w one : List Int} {f : List (List Int)} {a : Nat} (h : Bfs ls w f) (h1 : Swp ls w one) (ha : a + 1 < one.length) : Bfs ls w (add1 ls one f a) ∧ f <+: add1 ls one f a ∧ (free ls (one.getD a 0) (one.getD (a + 1) 0) = true → swq one a ∈ add1 ls one f a) := by
  unfold add1
  split
  · rename_i c
    refine ⟨⟨?_, fun x hx => ?_, List.mem_append_left _ h.me⟩, List.prefix_append _ _, fun _ => by simp⟩
    · rw [List.nodup_append]
      refine ⟨h.nd, by simp, fun x hx y hy e => ?_⟩
      rw [List.mem_singleton] at hy
      subst hy; subst e
      exact c.2 hx
    · rcases List.mem_append.mp hx with hx | hx
      · exact h.sw x hx
      · rw [List.mem_singleton.mp hx]
        obtain ⟨e1, e2⟩ := swq_split ha
        rw [e2]
        exact .step (by rw [← e1]; exact h1) c.1
  · rename_i c
    refine ⟨h, List.prefix_refl _, fun hf => ?_⟩
    by_cases z : swq one a ∈ f
    · exact z
    · exact absurd ⟨hf, z⟩ c
theorem turn1_ok {ls : Lets} {w one : List Int} {f : List (List Int)} (h : Bfs ls w f) (h1 : Swp ls w one) : ∀ {m : Nat}, m + 1 ≤ one.length ∨ m = 0 → Bfs ls w (turn1 ls one f m) ∧ f <+: turn1 ls one f m ∧ ∀ a, a < m → free ls (one.getD a 0) (one.getD (a + 1) 0) = true → swq one a ∈ turn1 ls one f m
  | 0, _ => ⟨h, List.prefix_refl _, fun a ha => absurd ha (Nat.not_lt_zero _)⟩
  | m + 1, hm => by
    obtain ⟨i1, i2, i3⟩ := turn1_ok h h1 (m := m) (by omega)
    obtain ⟨j1, j2, j3⟩ := add1_ok i1 h1 (a := m) (by omega)
    rw [turn1_succ]
    refine ⟨j1, i2.trans j2, fun a ha hf => ?_⟩
    by_cases e : a = m
    · subst e; exact j3 hf
    · exact j2.subset (i3 a (by omega) hf)
def Done (ls : Lets) (f : List (List Int)) (x : List Int) : Prop := ∀ a, a + 1 < x.length → free ls (x.getD a 0) (x.getD (a + 1) 0) = true → swq x a ∈ f
theorem bfs_ok {ls : Lets} {w : List Int} : ∀ {m : Nat}, Bfs ls w (bfs ls w m) ∧ ∀ i, i < m → i < (bfs ls w m).length → Done ls (bfs ls w m) ((bfs ls w m).getD i [])
  | 0 => ⟨⟨by simp [bfs], fun x hx => by
      have : x = w := by simpa [bfs] using hx
      rw [this]; exact .refl _, by simp [bfs]⟩, fun i hi => absurd hi (Nat.not_lt_zero _)⟩
  | m + 1 => by
    obtain ⟨b, d⟩ := bfs_ok (m := m) (ls := ls) (w := w)
    rw [bfs_succ]
    unfold turn
    split
    · rename_i hlt
      have hm : (bfs ls w m).getD m [] ∈ bfs ls w m := by rw [List.getD_eq_getElem?_getD, List.getElem?_eq_getElem hlt]; exact List.getElem_mem hlt
      obtain ⟨t1, t2, t3⟩ := turn1_ok b (b.sw _ hm) (m := ((bfs ls w m).getD m []).length - 1) (by omega)
      have same : ∀ i, i < (bfs ls w m).length → (turn1 ls ((bfs ls w m).getD m []) (bfs ls w m) (((bfs ls w m).getD m []).length - 1)).getD i [] = (bfs ls w m).getD i [] := fun i hi => by
        obtain ⟨t, ht⟩ := t2
        rw [← ht, List.getD_eq_getElem?_getD, List.getElem?_append_left hi, List.getD_eq_getElem?_getD]
      refine ⟨t1, fun i hi hil => ?_⟩
      rcases Nat.lt_or_ge i m with h | h
      · rw [same i (by omega)]
        exact fun a ha hf => t2.subset (d i h (by omega) a ha hf)
      · have : i = m := by omega
        subst this
        rw [same i hlt]
        exact fun a ha hf => t3 a (by omega) hf
    · rename_i hge
      refine ⟨b, fun i hi hil => ?_⟩
      exact d i (by omega) hil
/-- after enough turns all orders are found, each once -/
theorem bfs_all {ls : Lets} {w : List Int} {m : Nat} (hm : fct w.length ≤ m) : (bfs ls w m).Nodup ∧ (bfs ls w m).length ≤ fct w.length ∧ ∀ x, x ∈ bfs ls w m ↔ Swp ls w x := by
  obtain ⟨b, d⟩ := bfs_ok (m := m) (ls := ls) (w := w)
  have hl : (bfs ls w m).length ≤ fct w.length := by
    rw [← prms_len]
    exact nodup_le b.nd fun x hx => prms_mem (swp_perm (b.sw x hx)).symm
  refine ⟨b.nd, hl, fun x => ⟨b.sw x, fun h => ?_⟩⟩
  induction h with
  | refl => exact b.me
  | @step u v p q h f ih =>
    obtain ⟨i, hi, e⟩ := List.getElem_of_mem ih
    have := d i (by omega) hi
    rw [List.getD_eq_getElem?_getD, List.getElem?_eq_getElem hi] at this
    have this : Done ls (bfs ls w m) (u ++ p :: q :: v) := by rw [← e]; exact this
    have g1 : (u ++ p :: q :: v).getD u.length 0 = p := by simp [List.getD_eq_getElem?_getD]
    have g2 : (u ++ p :: q :: v).getD (u.length + 1) 0 = q := by simp [List.getD_eq_getElem?_getD]
    have := this u.length (by simp) (by rw [g1, g2]; exact f)
    have hs := (swq_split (l := u ++ p :: q :: v) (a := u.length) (by simp)).2
    rw [g1, g2] at hs
    rw [hs] at this
    simpa using this
end My
namespace Hq
open PySem L2
/-! ### sorted(set(t)) of a long tuple with few different items -/
def rSetB (K : PySem.W.Frag) (w : World) : List V → Hp → VK → Prop := fun xs H Q => ∃ (a : Addr) (ns D : List Int), xs = [V.ref a] ∧ SqT K H a (ns.map V.int) ∧ ns.length < 1000 ∧ D.length ≤ 60 ∧ (∀ x ∈ ns, x ∈ D) ∧
  ∀ p c, H p = none → c ≤ D.length → Q (.ref p) (upd H p (SetO w p (fun j => decide (j ∈ ns)) c))
theorem cr_setB {X : Cx} (hc : X.calm = true) : CallR X (.type "set") (rSetB X.K X.w) := by
  intro pins s σ H xs us Q I r h
  obtain ⟨a, ns, D, rfl, hs, few, hD, sub, q⟩ := h
  have few2 : ns.length + 1 < scanBound := Nat.lt_trans (by omega : ns.length + 1 < 1001) (by decide)
  rw [Vals.ref1 r]
  obtain ⟨its, rv, hl, _⟩ := I.tuple hs
  refine call_set_tupI ns (I.ok.hd hc) hl (by simpa using vals_ints rv) few2 fun g tk c hS _ k => ?_
  have hc2 : c ≤ D.length := by
    obtain ⟨o, es, ep, t, _, _, _, _, nd, mem, _, _, hn, _⟩ := id hS
    have := My.nodup_le nd fun x hx => sub x (of_decide_eq_true ((mem x).mpr hx))
    rw [List.length_map, Array.length_toList] at this
    omega
  exact ⟨.ref _, upd H s.heap.objs.size (SetO X.w s.heap.objs.size (fun j => decide (j ∈ ns)) c), I.laid (t' := tk) k (Nat.le_refl _) (setO_new hS), rfl, q _ c (I.hok.fresh (Nat.le_refl _)) hc2⟩
theorem c_setB {K : PySem.W.Frag} {w : World} {Y : Cx} (eK : Y.K = K) (e : Y.w = w) (hc : Y.calm = true) : CallR Y (.type "set") (rSetB K w) := by subst eK e; exact cr_setB hc
section
variable {K : PySem.W.Frag} {E : Ent} {F H : Hp} {M M1 : Ms} {Γ : Gm} {te : TE}
theorem ev_sortsB {w : World} {ns D : List Int} (h : Ev te Γ M (PTu K (ns.map fun n => Hq.D K (.int n))) M1) (hn : ns.length < 1000) (hD : D.length ≤ 60) (sub : ∀ x ∈ ns, x ∈ D) :
    Ev (tCB (rSortedSet w) (tCons (tCB (rSetB K w) (tCons te tNil)) tNil)) Γ M (PEx fun ns' : List Int => PAn (ns'.Pairwise (· < ·) ∧ ∀ k, k ∈ ns' ↔ k ∈ ns) (PLi K (ns'.map fun n => Hq.D K (.int n)))) M1 := by
  refine (ev_fr (?_ : EvN _ Γ M (MX fun ns' : List Int => MA (ns'.Pairwise (· < ·) ∧ ∀ k, k ∈ ns' ↔ k ∈ ns) (MInts K ns')) M1)).weak (MP.le_trans fr_X (PEx.le fun _ => MP.le_trans fr_A (PAn.le fun _ => fr_L (K := K))))
  exact fun E F σ H a b Q k => h E F σ H a b _ fun v F1 H1 e1 g1 p1 => by
    obtain ⟨x, vs, rfl, s, p⟩ := p1
    cases ints_map p
    refine ⟨x, ns, D, rfl, Evl.ex_t g1.ex s, hn, hD, sub, fun p c hp hc => ⟨p, _, c, rfl, upd_same, by omega, fun ns' l h1 h2 h3 hl => ?_⟩⟩
    have g2 : Pt E F1 M1 (upd H1 p (SetO w p (fun j => decide (j ∈ ns)) c)) := g1.junk hp
    exact k l F1 _ (g2.fresh hl) e1 (g2.new hl ⟨ns', ⟨h1, fun k => by rw [h2]; exact decide_eq_true_iff⟩, _, rfl, map_ints ns'⟩)
end
end Hq
/-! ### sorted lists of lists; try .. except X as e; an object against an int; C(.., an own list) -/
namespace Hq
open PySem L2
section
open PySem.W in
theorem le_lists {β : Type} (x : β → List Int) : dataLe false (fun b => dL (x b)) = fun p q => decide (x p ≤ x q) := by
  funext p q
  show (!dataLt (.list ((x q).map .int)) (.list ((x p).map .int))) = _
  rw [dataLt_list]
  show (!rowLt ((x q).map .int) ((x p).map .int)) = _
  rw [dataLt_ints]
  rw [Bool.eq_iff_iff]
  simp [List.not_lt]
def rSortLL (K : PySem.W.Frag) : List V → Hp → VK → Prop := fun vs H Q => ∃ (a : Addr) (xs : List V) (L : List (List Int)), vs = [.ref a] ∧ SqL K H a xs ∧ Paired (fun x l => Dp K H x (dL l)) xs L ∧
  ∀ (B : List (V × List Int)) (p : Addr), B.Perm (xs.zip L) → (B.map (·.2)).Pairwise (· ≤ ·) → H p = none → Q (.ref p) (upd H p (.lst (B.map (·.1))))
theorem eachL_of {K : PySem.W.Frag} {H : Hp} : ∀ {xs : List V} {its : List Value} {L : List (List Int)}, Vals xs its → Paired (fun x l => Dp K H x (dL l)) xs L → PySem.W.EachIs (fun (v : Value) (b : V × List Int) => RelV b.1 v ∧ Dp K H b.1 (dL b.2)) its (xs.zip L)
  | _, _, _, .nil, .nil => .nil
  | _, _, _, .cons a t, .cons b u => .cons ⟨a, b⟩ (eachL_of t u)
theorem eachL_vals {K : PySem.W.Frag} {H : Hp} : ∀ {out : List Value} {B : List (V × List Int)}, PySem.W.EachIs (fun (v : Value) (b : V × List Int) => RelV b.1 v ∧ Dp K H b.1 (dL b.2)) out B → Vals (B.map (·.1)) out ∧ Paired (fun x l => Dp K H x (dL l)) (B.map (·.1)) (B.map (·.2))
  | _, _, .nil => ⟨.nil, .nil⟩
  | _, _, .cons a t => ⟨.cons a.1 (eachL_vals t).1, .cons a.2 (eachL_vals t).2⟩
theorem cr_sortLL {X : Cx} (hu : X.A.units + 64 < cLine) : CallR X (.builtin "sorted") (rSortLL X.K) := by
  intro pn st sg H vs us Q I r h
  obtain ⟨a, xs, L, rfl, hs, hp, q⟩ := h
  obtain ⟨its, rv, hl, hz⟩ := I.list hs
  rw [Vals.ref1 r]
  have hlen : xs.length = L.length := paired_len hp
  have e := eachL_of rv hp
  refine PySem.W.sorted_data (β := V × List Int) (enc := fun b => dL b.2) hl.isList e (e.mono fun v b ⟨h1, h2⟩ => Dp.reads I _ _ _ h2 h1) (PySem.W.AllAlike.of fun b b' => ?_) (.inr fun d hd => ?_) ?_ (fun b _ => ?_) fun out ho eo => ?_
  · show PySem.W.alike (.list _) (.list _) = true
    simp only [PySem.W.alike]
    exact PySem.W.alike_ints _ _
  · obtain ⟨b, hb, rfl⟩ := List.mem_map.mp hd
    exact ⟨fun z => (by cases z), fun xs z => (by cases z)⟩
  · rw [List.length_zip, hlen, Nat.min_self, ← hlen]; exact hz
  · have := enc_dL.deep b.2
    omega
  · rw [le_lists (fun b : V × List Int => b.2)] at eo
    obtain ⟨v1, v2⟩ := eachL_vals eo
    have pm : ((xs.zip L).mergeSort fun p q => decide (p.2 ≤ q.2)).Perm (xs.zip L) := List.mergeSort_perm _ _
    have pw : ((xs.zip L).mergeSort fun p q => decide (p.2 ≤ q.2)).Pairwise fun p q => decide (p.2 ≤ q.2) = true := List.pairwise_mergeSort (fun x y z h1 h2 => by
      simp only [decide_eq_true_eq] at *
      exact List.le_trans h1 h2) (fun x y => by
      simp only [Bool.or_eq_true, decide_eq_true_eq]
      exact List.le_total _ _) _
    obtain ⟨ep, he⟩ := PyProof.Rows.sortedAll_at st.heap its out.toArray
    have hl2 : (((xs.zip L).mergeSort fun p q => decide (p.2 ≤ q.2)).map (·.1)).length ≤ sizeLine := by
      rw [List.length_map, pm.length_eq, List.length_zip, hlen, Nat.min_self, ← hlen]; exact hz
    refine ⟨.ref _, upd H (st.heap.objs.size + 1) (.lst (((xs.zip L).mergeSort fun p q => decide (p.2 ≤ q.2)).map (·.1))), I.laid (t' := st.toks) (fun _ _ => PyProof.Rows.sortedAll_old) (Nat.le_succ _) ⟨hl2, out, ep, v1, he⟩, rfl, ?_⟩
    refine q _ _ pm ?_ (I.hok.fresh (Nat.le_succ _))
    rw [List.pairwise_map]
    exact pw.imp fun h => by simpa using h
theorem c_sortLL {K : PySem.W.Frag} {Y : Cx} (e : Y.K = K) (hu : Y.A.units + 64 < cLine) : CallR Y (.builtin "sorted") (rSortLL K) := e ▸ cr_sortLL hu
end
section
variable {K : PySem.W.Frag} {E E0 : Ent} {F H : Hp} {M M1 M2 M' : Ms} {Γ : Gm} {P P1 : MP} {O O' O2 : MO} {q : Addr} {te ta tb tl tk tv td tx : TE} {tr : TA} {D1 : Ends} {tu tz : TS} {t u : TT} {ps : List MP} {i j : Nat} {C Cx : Addr} {X : XK} {sp : Sp}
theorem dls_dp {F H : Hp} (x : Ex F H) : ∀ {ws : List V} {L : List (List Int)}, Ps F ws (L.map fun l => D K (dL l)) → Paired (fun x l => Dp K H x (dL l)) ws L
  | [], [], _ => .nil
  | _ :: _, [], h => by cases h
  | [], _ :: _, h => by cases h
  | w :: ws, l :: L, h => by
    cases h with
    | cons a t => exact .cons (Dp.mono x a) (dls_dp x t)
theorem dls_zip {F : Hp} : ∀ {ws : List V} {L : List (List Int)}, Ps F ws (L.map fun l => D K (dL l)) → ∀ b ∈ ws.zip L, (D K (dL b.2)).p F b.1
  | [], _, _, b, hb => by cases hb
  | _ :: _, [], _, b, hb => by cases hb
  | w :: ws, l :: L, h, b, hb => by
    cases h with
    | cons a t =>
      rcases List.mem_cons.mp hb with rfl | hb
      · exact a
      · exact dls_zip t b hb
theorem dls_of {F : Hp} : ∀ {B : List (V × List Int)}, (∀ b ∈ B, (D K (dL b.2)).p F b.1) → Ps F (B.map (·.1)) ((B.map (·.2)).map fun l => D K (dL l))
  | [], _ => .nil
  | b :: B, h => .cons (h b List.mem_cons_self) (dls_of fun c hc => h c (List.mem_cons_of_mem _ hc))
/-- sorted(a list of lists of ints) -/
theorem rcn_sortLL {L : List (List Int)} : RCN (rSortLL K) [PLi K (L.map fun l => D K (dL l))] M (MX fun L' : List (List Int) => MA (L'.Perm L ∧ L'.Pairwise (· ≤ ·)) (ML (L'.map fun l => D K (dL l)))) M := fun E F H vs a h Q k => by
  obtain ⟨v, rfl, hv⟩ := ps1 h
  obtain ⟨p0, ws, rfl, hs0, s⟩ := hv
  have hl : ws.length = L.length := by have := paired_len s; rwa [List.length_map] at this
  refine ⟨p0, ws, L, rfl, Evl.ex_l a.ex hs0, dls_dp a.ex s, fun B p hp hs hf => ?_⟩
  have hz := dls_zip s
  refine k p F _ (a.fresh hf) (Evl.Ex.refl _) (a.new hf ⟨B.map (·.2), ⟨?_, hs⟩, _, rfl, dls_of fun b hb => hz b (hp.subset hb)⟩)
  have := hp.map (·.2)
  rwa [List.map_snd_zip (by omega)] at this
/-! C(.., an own list) -/
theorem one_entry : ∀ {L : Ms}, (keys L).Nodup → ∀ r ∈ L, ∀ s ∈ L, r.1 = s.1 → r = s := by
  intro L
  induction L with
  | nil => intro _ r hr; cases hr
  | cons m L ih =>
    intro nd r hr s hs e
    have nd' := List.nodup_cons.mp (show (m.1 :: keys L).Nodup from nd)
    rcases List.mem_cons.mp hr with e1 | hr <;> rcases List.mem_cons.mp hs with e2 | hs
    · rw [e1, e2]
    · exact absurd (show m.1 ∈ keys L by rw [← e1, e]; exact List.mem_map_of_mem (f := (·.1)) hs) nd'.1
    · exact absurd (show m.1 ∈ keys L by rw [← e2, ← e]; exact List.mem_map_of_mem (f := (·.1)) hr) nd'.1
    · exact ih nd'.2 r hr s hs e
theorem make_pre {x dx : Addr} {F1 H1 : Hp} (g1 : Pt E F1 M1 H1) (hx : H1 x = none) (hdx : H1 dx = none) (hne : x ≠ dx) (e : M1[j]? = some (q, O2)) :
    Pt E F1 ((x, MIns C 0 []) :: M1) (upd (upd H1 dx (.own x)) x (.ins C dx [])) ∧ Wd F1 [(x, MIns C 0 []), (q, O2)] (upd (upd H1 dx (.own x)) x (.ins C dx [])) ∧ x ≠ q := by
  have hx2 : upd H1 dx (.own x) x = none := by rw [upd_ne hne]; exact hx
  have g2 : Pt E F1 ((x, MIns C 0 []) :: M1) (upd (upd H1 dx (.own x)) x (.ins C dx [])) := (g1.junk hdx).new hx2 ⟨dx, [], rfl, Nat.le_refl _, fun f hf => by cases hf⟩
  have hm := List.mem_of_getElem? e
  have nq : x ≠ q := fun z => (List.nodup_cons.mp (show (x :: keys M1).Nodup from g2.wd.nd)).1 (by rw [z]; exact List.mem_map_of_mem (f := (·.1)) hm)
  refine ⟨g2, ⟨g2.ex, by simp [keys, nq], fun r hr => ?_⟩, nq⟩
  rcases List.mem_cons.mp hr with z | z
  · rw [z]; exact g2.wd.own _ List.mem_cons_self
  · rw [List.mem_singleton.mp z]; exact g2.wd.own _ (List.mem_cons_of_mem _ hm)
theorem make_post {x : Addr} {F1 H2 F' H' : Hp} (g2 : Pt E F1 ((x, MIns C 0 []) :: M1) H2) (nq : x ≠ q) (e : M1[j]? = some (q, O2)) (g : Pt ⟨F1, H2, keys [(x, MIns C 0 []), (q, O2)]⟩ F' [(x, O), (q, O2)] H') : Pt E F' ((x, O) :: M1) H' := by
  have hm := List.mem_of_getElem? e
  refine g2.frame g (fun z hz => ?_) rfl fun r hr => ?_
  · rcases List.mem_cons.mp hz with z' | z'
    · rw [z']; exact List.mem_cons_self
    · rw [List.mem_singleton.mp z']; exact List.mem_cons_of_mem _ (List.mem_map_of_mem (f := (·.1)) hm)
  · rcases List.mem_cons.mp hr with z | z
    · rw [z]; exact .inr List.mem_cons_self
    · by_cases c : r.1 = q
      · have nd := (List.nodup_cons.mp (show (x :: keys M1).Nodup from g2.wd.nd)).2
        have := one_entry nd r z (q, O2) hm c
        rw [this]; exact .inr (List.mem_cons_of_mem _ List.mem_cons_self)
      · refine .inl ⟨fun w => ?_, List.mem_cons_of_mem _ z⟩
        rcases List.mem_cons.mp w with w | w
        · exact (List.nodup_cons.mp (show (x :: keys M1).Nodup from g2.wd.nd)).1 (by rw [show x = r.1 from w.symm]; exact List.mem_map_of_mem (f := (·.1)) z)
        · exact c (List.mem_singleton.mp w)
theorem make1 (h : EvA tr Γ M ps M1) (e : M1[j]? = some (q, O2)) (hs : ∀ x vs H Q, Prom (Own x :: ps) [(x, MIns C 0 []), (q, O2)] (D K .none) [(x, O), (q, O2)] vs H Q → sp vs H Q X) : EvN (tMake C sp [] X tr) Γ M O M1 := fun E F σ H a b Q k =>
  h E F σ H a b _ fun vs F1 H1 e1 g1 p1 => fun x dx hx hdx hne => by
    obtain ⟨g2, w2, nq⟩ := make_pre (C := C) g1 hx hdx hne.symm e
    show sp (V.ref x :: (vs ++ [])) _ _ X
    rw [List.append_nil]
    exact hs x (.ref x :: vs) _ _ ⟨F1, w2, .cons rfl p1, fun v F' H' g hv => ⟨dp_non hv, k x F' H' (g1.fresh hx) (e1.trans g.gr.ex) (make_post g2 nq e g)⟩⟩
theorem make1_no (h : EvA tr Γ M ps M1) (e : M1[j]? = some (q, O2)) (hs : ∀ x vs H Q X, (∃ F, Wd F [(x, MIns C 0 []), (q, O2)] H ∧ Ps F vs (Own x :: ps) ∧ RtE ⟨F, H, keys [(x, MIns C 0 []), (q, O2)]⟩ [(x, MAny), (q, O2)] Cx X) → sp vs H Q X) (k : RtE E M1 Cx X) : Nx E Γ M (tRet (tMake C sp [] X tr) D1) := fun σ H ⟨F, a, b⟩ => h E F σ H a b _ fun vs F1 H1 e1 g1 p1 => fun x dx hx hdx hne => by
  obtain ⟨g2, w2, nq⟩ := make_pre (C := C) g1 hx hdx hne.symm e
  show sp (V.ref x :: (vs ++ [])) _ _ X
  rw [List.append_nil]
  exact hs x (.ref x :: vs) _ _ X ⟨F1, w2, .cons rfl p1, fun F' H' g => k F' H' ((make_post g2 nq e g).drop (List.sublist_cons_self _ _))⟩
theorem RtE.any0 {x : Addr} (h : RtE E ((x, MAny) :: M) C X) : RtE E ((x, O) :: M) C X := fun F H a => h F H (a.to (j := 0) (O' := MAny) (fun _ _ h => O.nt h) rfl)
end
end Hq
namespace L2
open PySem PySem.Spec PyProof.Rows
section
variable {X : Cx}
theorem pss_given {φ : Prop} {b : List Stmt} {t : TS} (h : φ → PSs X b t) : PSs X b (fun D σ H => φ ∧ t D σ H) := ⟨fun pins s σ H D I hh => (h hh.1).run pins s σ H D I hh.2⟩
theorem passes_callL {W : WX} {E : XK} {n : Nat} (hn : X.N.length = n) (tk : Takes X W) (hW : ∀ cls d σ H, σ.length = n → E cls d H → W cls d σ H) : ∀ (pins : List (Addr × Obj)) (σ : St) (H : Hp) (s : Shared) (e : Value) (s' : Shared), Inv X pins σ H s → CX X.prog X.w X.stack H s E e s' → X.xe e s' :=
  fun _ σ _ _ e s' I c => tk e s' (XE.of_call I (fun cls d H' h => hW cls d σ H' (by rw [← hn]; exact I.len) h) c)
end
end L2
namespace HqL
open PySem PySem.Spec PyProof.Rows PySem.SeqAt
section
variable {M : Model} {prog : Program} {w : World} {A : Around} {E : Value → Shared → Prop} {s : Shared} {K : PySem.W.Frag} {x C dx : Addr} {ox : Obj} {od : Option Obj} {i : Int} {t : Tok}
theorem isSame_int {R : Bool → Shared → Prop} (h : R false s) : wpAny M A (isSame (.ref x) (.int i t)) R E s := wpAny_of_eq (rfl : isSame (.ref x) (.int i t) = pure false) h
theorem entry_objI {Q : Fin → Shared → Prop} (hq : Q (.done (.ret .notImplemented)) s) : wpAny M A (Builtin.«object.__eq__» ⟨[.ref x, .int i t], []⟩) Q E s := by
  unfold Builtin.«object.__eq__»
  repeat (first | with_reducible refine isSame_int ?_ | wp_step)
  exact hq
theorem call_objI {Q : Value → Shared → Prop} (X : K.In s.heap) (I : PySem.W.InstAt s.heap x ox C od) (hm : PySem.W.mroIn K C (.type "object") = some true) (hq : Q .notImplemented s) :
    wpAny (model prog w) A (call (.builtin "object.__eq__") [.ref x, .int i t]) Q E s :=
  wpAny_call (codeAny_call_builtin F.cmp_object.eq.plain F.cmpEntry_eq (PySem.W.check_slot F.cmpKind_eq F.cmpSplit_eq (I.type.andThen (PySem.W.looks_mroIn X hm)) (F.cmpArgs_eq _ _) (entry_objI hq)))
theorem sub_int : PySem.W.subIn K (.type "int") (.ref C) = some false := by
  have e : fastBuiltinMro "int" = some [.type "int", .type "object"] := by decide +kernel
  show (fastBuiltinMro "int").map (·.contains (.ref C)) = some false
  rw [e]
  first
    | rfl
    | simp
theorem entry_intO {Q : Fin → Shared → Prop} (hx : s.heap.get? x = some (PySem.W.instObj C dx)) (hq : ∃ v, Fin.done (.ret .notImplemented) = Fin.done (.ret v) ∧ (v = .notImplemented ∧ Q (.done (.ret v)) s)) : wpAny M A (Builtin.«int.__eq__» ⟨[.int i t, .ref x], []⟩) Q E s := by
  obtain ⟨hp, g, d, tk, os⟩ := s
  have hx' : Heap.get? hp x = some (PySem.W.instObj C dx) := hx
  obtain ⟨v, e, e2, hq⟩ := hq
  cases e
  wp_walk
  exact hq
end
end HqL
namespace HqL
open PySem PySem.Spec PyProof.Rows PySem.SeqAt
section
variable {M : Model} {prog : Program} {w : World} {A : Around} {E : Value → Shared → Prop} {s : Shared} {K : PySem.W.Frag} {x C dx : Addr} {ox : Obj} {od : Option Obj} {i : Int} {t : Tok}
theorem entry_intO' {Q : Fin → Shared → Prop} (hx : s.heap.get? x = some (PySem.W.instObj C dx)) (hq : Q (.done (.ret .notImplemented)) s) : wpAny M A (Builtin.«int.__eq__» ⟨[.int i t, .ref x], []⟩) Q E s :=
  entry_intO hx ⟨_, rfl, rfl, hq⟩
theorem rc_int (hu : A.units < cLine) (X : K.In s.heap) (I : PySem.W.InstAt s.heap x ox C od) (hx : s.heap.get? x = some (PySem.W.instObj C dx)) (hm : PySem.W.mroIn K C (.type "object") = some true) (hs : PySem.W.findIn K (.ref C) "__eq__" = some (some (.builtin "object.__eq__"))) :
    RcAt A s (.ref x) (.int i t) false := fun prog w E Q h => by
  have one : wpAny (model prog w) A (tryCompare (.ref x) "__eq__" (.int i t)) (fun r s' => r = none ∧ s' = s) E s := by
    unfold tryCompare
    exact wpAny_bind (HN.ifBound_objEq X I hs (call_objI X I hm (wpAny_pure ⟨rfl, rfl⟩)))
  have two : wpAny (model prog w) A (tryCompare (.int i t) "__eq__" (.ref x)) (fun r s' => r = none ∧ s' = s) E s :=
    wpAny_tryCompare_declines (typeIs_int s i t) F.slot_int_eq_refl (wpAny_call_entry F.slot_int_eq_refl (typeIs_int s i t) F.entry_int_eq (entry_intO' hx ⟨_, rfl, rfl, rfl, rfl⟩) (F.args_int_eq_2 _ _))
  simp only [richCompare, cmpInfo_Eq, oneThing_ref]
  refine wpAny_holding (wpAny_bind (wpAny_cRoomFor hu ?_))
  refine wpAny_bind (I.type.here ?_)
  refine wpAny_bind (wpAny_typeOf (typeIs_int s i t) ?_)
  split
  · refine wpAny_bind ((PySem.W.looks_subIn X sub_int).here ?_)
    simp only [Bool.false_eq_true, if_false, Bool.not_false, if_true]
    refine wpAny_bind (m := tryCompare (.ref x) _ (.int i t)) (wpAny_mono one (fun r s1 z => ?_) fun _ _ e => e)
    obtain ⟨z1, z2⟩ := z
    subst z1
    subst z2
    refine wpAny_bind (m := tryCompare (.int i t) _ (.ref x)) (wpAny_mono two (fun r s2 z => ?_) fun _ _ e => e)
    obtain ⟨z1, z2⟩ := z
    subst z1
    subst z2
    exact wpAny_bind (wpAny_rule (wpAny_bind (wpAny_of_eq (rfl : isSame (.ref x) (.int i t) = pure false) (wpAny_pure h))))
  · rename_i q
    exact absurd (by simp) q
end
end HqL
namespace L2
open PySem PySem.Spec PyProof.Rows
section
variable {X : Cx}
/-- an object without an __eq__ of its own == an int -/
def rEqOI (K : PySem.W.Frag) : R2 := fun x y H Q => ∃ a C dx fs i, x = .ref a ∧ y = .int i ∧ H a = some (.ins C dx fs) ∧ PySem.W.mroIn K C (.type "object") = some true ∧ PySem.W.findIn K (.ref C) "__eq__" = some (some (.builtin "object.__eq__")) ∧ Q (.bl false) H
theorem op_eqOI (hu : X.A.units + 64 < cLine) : OpR X (compareOp .Eq) (rEqOI X.K) := by
  intro pins s σ H x y v u Q I rx ry h
  obtain ⟨a, C, dx, fs, i, rfl, rfl, ha, hm, he, q⟩ := h
  cases rx
  obtain ⟨t, rfl⟩ := ry
  obtain ⟨mA, O, _⟩ := ins_get I.hok ha
  obtain ⟨od, J, _⟩ := O.look
  exact HqL.rc_int (by omega) I.kIn J O.obj hm he X.prog X.w _ _ ⟨.bl false, H, I, rfl, q⟩
theorem c_eqOI {K : PySem.W.Frag} {Y : Cx} (e : Y.K = K) (hu : Y.A.units + 64 < cLine) : OpR Y (compareOp .Eq) (rEqOI K) := e ▸ op_eqOI hu
end
end L2
namespace Hq
open PySem L2
section
variable {K : PySem.W.Frag} {E E0 : Ent} {F H : Hp} {M M1 M2 M' : Ms} {Γ : Gm} {P P1 : MP} {O O' O2 : MO} {q : Addr} {te ta tb tl tk tv td tx : TE} {tr : TA} {D1 : Ends} {tu tz : TS} {t u : TT} {ps : List MP} {i j : Nat} {C Cx : Addr} {X : XK} {sp : Sp}
theorem rv_eqOI {fps : List (Str × MP)} {c : Int} (hm : PySem.W.mroIn K C (.type "object") = some true) (he : PySem.W.findIn K (.ref C) "__eq__" = some (some (.builtin "object.__eq__"))) : RV (rEqOI K) (PIns C fps) (D K (.int c)) M (D K (.bool false)) M := fun E F H x y a p1 p2 Q k => by
  obtain ⟨p, dx, fs, rfl, h1, _⟩ := p1
  cases dp_int p2
  exact ⟨p, C, dx, fs, c, rfl, rfl, a.ex _ _ h1, hm, he, k _ F H (Evl.Ex.refl _) a (.bl _)⟩
theorem rv_isNI {fps : List (Str × MP)} : RV rIs0 (PIns C fps) (D K .none) M (D K (.bool false)) M := fun E F H x y a p1 p2 Q k => by
  obtain ⟨p, dx, fs, rfl, h1, _⟩ := p1
  cases dp_non p2
  exact ⟨rfl, k _ F H (Evl.Ex.refl _) a (.bl _)⟩
/-- try: return C(..) except X as e: if isinstance(e, A) and isinstance(e, B): return None -/
theorem try_as {c : Value} {n : Nat} {i : Nat} {va vb : V} {ca cb : Value} (he : PySem.W.exmOne K (.ref Cx) c = some true) (ra : ∀ u, RelV va u → u = ca) (rb : ∀ u, RelV vb u → u = cb)
    (ka : PySem.W.kitOne K (.ref Cx) ca = some true) (kb : PySem.W.kitOne K (.ref Cx) cb = some true) (hi : i < n) (l : Le E E0) (k : Rt E0 M (D K .none) D1.rt) {D2 : Ends} (hD : D2.rt = D1.rt) :
    RtE E M Cx (fun cls d H => ∀ σ, σ.length = n → wAs K c i (fun a cls d => fun D σ H => (cls = .ref Cx ∧ d = none) ∧ tIfS (tAnd (tB (tCB (rIsE K Cx a) (tCons (tVar i) (tCons (tC va) tNil)))) (tB (tCB (rIsE K Cx a) (tCons (tVar i) (tCons (tC vb) tNil))))) (tRet (tC .non)) tNext D σ H) (fun _ _ _ _ => False) D2 cls d σ H) := fun F H g σ hσ =>
  ⟨true, he, fun _ a ha => ⟨⟨rfl, rfl⟩, by
    have get : (σ.set i (some (V.ref a)))[i]? = some (some (.ref a)) := by rw [List.getElem?_set_self (by omega)]
    have rt := k .non F H (l.to _ _ _ g) .non
    rw [← hD] at rt
    exact ⟨.ref a, get, va, ca, true, rfl, ra, ka, true, rfl, .ref a, get, vb, cb, true, rfl, rb, kb, true, rfl, rt⟩⟩, fun z => by cases z⟩
/-- xs[i] = e, e and i drawn -/
theorem go_setEX {α : Type} {φ : α → Prop} {R : α → MP} {ps : List MP} {n : Nat} (h : Ev te Γ M (PEx fun x => PAn (φ x) (R x)) M1) (ho : Ev ta Γ M1 (Own q) M1) (hb : Ev tb Γ M1 (PIn K 0 (n : Int)) M2) (e : M2[j]? = some (q, ML ps)) (hn : n = ps.length) (k : ∀ x, φ x → ∀ i : Nat, i < n → Nx E Γ (M2.set j (q, ML (ps.set i (R x)))) D1.nx) :
    Nx E Γ M (tAsg te (gSub ta tb rSetL) D1) := fun σ H ⟨F, a, b⟩ => h E F σ H a b _ fun w F0 H0 e0 g0 ⟨x, hx, p0⟩ => ho E F0 σ H0 g0 (b.mono e0) _ fun v F1 H1 e1 g1 p1 => by
  have p1 : v = .ref q := p1
  subst p1
  refine hb E F1 σ H1 g1 (b.mono (e0.trans e1)) _ fun y F2 H2 e2 g2 ⟨m, ⟨m0, m1⟩, p2⟩ => ?_
  cases dp_int p2
  obtain ⟨_, o, ho2, ws, rfl, s⟩ := g2.at e
  obtain ⟨c, rfl⟩ := Int.eq_ofNat_of_zero_le m0
  have hc : c < n := by omega
  have hn : c < ws.length := by rw [paired_len s]; omega
  exact ⟨q, ws, c, c, rfl, rfl, ho2, Evl.ixN_nat hn, k x hx c hc _ _ ⟨F2, g2.mut e ⟨_, rfl, paired_set (R := fun (v : V) (P : MP) => P.p F2 v) ((R x).mono (e1.trans e2) p0) c s⟩, b.mono ((e0.trans e1).trans e2)⟩⟩
end
end Hq
namespace L2
open PySem PySem.Spec PyProof.Rows
theorem c_isE {K : PySem.W.Frag} {X : Cx} (e : X.K = K) {a D : Addr} {oe : Obj} {pn : List (Addr × Obj)} (C : ExcC K D) (hz : Zc (.ref D) none oe) (hf : ∃ vs, oe.data = .fields vs) : CallR (X.suite a ((a, oe) :: pn)) (.builtin "isinstance") (rIsE K D a) := by
  subst e
  exact call_isE C hz hf
end L2
namespace L2
open PySem PySem.Spec PyProof.Rows
section
variable {X : Cx}
/-- + of two lists that are read -/
def rCatL (K : PySem.W.Frag) : R2 := fun x y H Q => ∃ l b xs zs, x = .ref l ∧ y = .ref b ∧ SqL K H l xs ∧ SqL K H b zs ∧ xs.length + zs.length ≤ sizeLine ∧ ∀ p, H p = none → Q (.ref p) (upd H p (.lst (xs ++ zs)))
theorem op_catL : OpR X (binaryOp .Add) (rCatL X.K) := by
  intro pins s σ H x y v u Q I rx ry h
  obtain ⟨l, b, xs, zs, rfl, rfl, hH, hB, hz, q⟩ := h
  cases rx
  cases ry
  obtain ⟨its, r, p1, z1⟩ := I.list hH
  obtain ⟨its2, r2, p2, z2⟩ := I.list hB
  have l1 := r.length
  have l2 := r2.length
  obtain ⟨⟨cls, dd, data, sl⟩, ho, hc, n, hd⟩ := p1.isList
  obtain ⟨⟨cls2, dd2, data2, sl2⟩, ho2, hc2, n2, hd2⟩ := p2.isList
  simp only at hc hd hc2 hd2
  subst hc hd hc2 hd2
  have ea : its.toArray ++ its2.toArray = (its ++ its2).toArray := by simp
  refine concat_meets ⟨_, ho, rfl⟩ ⟨_, ho2, rfl⟩ noFill_list_add seq_list_add PySem.F.slot_list_add PySem.F.entry_list_add (PySem.F.args_list_add_2 _ _) (list_addW l b its.toArray its2.toArray n n2 dd dd2 sl sl2 (by rw [List.size_toArray, List.size_toArray]; omega)) ⟨ho, ho2, ?_⟩
  rw [ea]
  exact ⟨.ref _, _, I.lnew (t' := s.toks) (r.append r2) (by rw [List.length_append]; omega), rfl, q _ I.fresh⟩
theorem c_catL {K : PySem.W.Frag} {Y : Cx} (e : Y.K = K) : OpR Y (binaryOp .Add) (rCatL K) := e ▸ op_catL
end
end L2
namespace Hq
open PySem L2
section
variable {K : PySem.W.Frag} {M M1 M2 : Ms} {Γ : Gm} {ta tb : TE} {ps qs : List MP}
theorem evn_catL (h1 : Ev ta Γ M (PLi K ps) M1) (h2 : Ev tb Γ M1 (PLi K qs) M2) (hz : ps.length + qs.length ≤ 100000) : EvN (tOp (rCatL K) ta tb) Γ M (ML (ps ++ qs)) M2 := fun E F σ H a b Q k =>
  h1 E F σ H a b _ fun x F1 H1 e1 g1 p1 => h2 E F1 σ H1 g1 (b.mono e1) _ fun y F2 H2 e2 g2 p2 => by
    obtain ⟨l, xs, rfl, s, q⟩ := (PLi K ps).mono e2 p1
    obtain ⟨l2, ys, rfl, s2, q2⟩ := p2
    refine ⟨l, l2, xs, ys, rfl, rfl, Evl.ex_l g2.ex s, Evl.ex_l g2.ex s2, sz_of (by rw [paired_len q, paired_len q2]; exact hz), fun p hp => ?_⟩
    exact k p F2 _ (g2.fresh hp) (e1.trans e2) (g2.new hp ⟨_, rfl, paired_app q q2⟩)
end
end Hq
namespace Hq
open PySem
theorem kit_ref {K : PySem.W.Frag} {t : Value} {C : Addr} (h0 : PySem.W.isClsIn K C = true) (h1 : PySem.W.typeIn K (.ref C) = some (.type "type")) (h2 : PySem.W.subIn K t (.ref C) = some true) : PySem.W.kitOne K t (.ref C) = some true := by
  unfold PySem.W.kitOne
  split
  · rfl
  · have h0' : (PySem.W.clsIn K C).isSome = true := h0
    show (if ((PySem.W.clsIn K C).isSome && PySem.W.typeIn K (.ref C) == some (.type "type")) = true then PySem.W.subIn K t (.ref C) else none) = some true
    rw [if_pos (by rw [h0', h1]; rfl)]; exact h2
theorem kit_ty {K : PySem.W.Frag} {t : Value} {T : String} (h1 : PySem.W.kitMeta T = true) (h2 : PySem.W.subIn K t (.type T) = some true) : PySem.W.kitOne K t (.type T) = some true := by
  unfold PySem.W.kitOne
  split
  · rfl
  · show (if PySem.W.kitMeta T = true then PySem.W.subIn K t (.type T) else none) = some true
    rw [if_pos h1]; exact h2
end Hq
namespace My
/-! ### the least form is the least of all orders -/
theorem lfN_least {k : Int} {ls : Lets} (A : AlphaOk k ls) : ∀ {n : Nat} {v r : List Int}, WordOk ls r → WordOk ls v → r.length = n → Alk ls k r v → lfN ls n r ≤ v
  | 0, v, r, hr, hv, hl, h => by
    have : r = [] := List.length_eq_zero_iff.mp hl
    subst this
    rw [h.symm.nil A hv]
    exact List.le_refl _
  | n + 1, [], r, hr, hv, hl, h => by
    rw [h.nil A hr] at hl; cases hl
  | n + 1, b :: v, r, hr, hv, hl, h => by
    have hb := hv b List.mem_cons_self
    obtain ⟨rb, h2⟩ := h.head A hb
    obtain ⟨a, e, ha, rd⟩ := nxt_some hr (fun z => by subst z; cases hl)
    have hA : 0 ≤ (a : Int) ∧ (a : Int) < (ls.length : Int) := ⟨by omega, by omega⟩
    have e2 : lfN ls (n + 1) r = (a : Int) :: lfN ls n (r.erase a) := by rw [lfN_succ, e]
    rw [e2, List.cons_le_cons_iff]
    by_cases z : (a : Int) = b
    · right
      refine ⟨z, ?_⟩
      rw [z]
      have hm := rdy_mem A hb rb
      exact lfN_least A hr.erase hv.tail (by rw [List.length_erase_of_mem hm]; omega) h2
    · left
      obtain ⟨c, rfl⟩ := Int.eq_ofNat_of_zero_le hb.1
      have hc : c ∈ (List.range ls.length).filter fun a : Nat => rdy ls r a := List.mem_filter.mpr ⟨List.mem_range.mpr (by omega), rb⟩
      unfold nxt at e
      cases f : (List.range ls.length).filter fun a : Nat => rdy ls r a with
      | nil => rw [f] at hc; cases hc
      | cons d t =>
        rw [f] at e hc
        have ed : d = a := by simpa using e
        subst ed
        have pw : (d :: t).Pairwise (· < ·) := by rw [← f]; exact List.pairwise_lt_range.sublist List.filter_sublist
        rcases List.mem_cons.mp hc with hc | hc
        · exact absurd (by rw [hc]) z
        · have := (List.pairwise_cons.mp pw).1 c hc
          omega
theorem lf_least {k : Int} {ls : Lets} (A : AlphaOk k ls) {w v : List Int} (hw : WordOk ls w) (hv : WordOk ls v) (h : Alk ls k w v) : lf ls w ≤ v := lfN_least A hw hv rfl h
theorem lf_swp {k : Int} {ls : Lets} (A : AlphaOk k ls) {w : List Int} (hw : WordOk ls w) : Swp ls w (lf ls w) :=
  swp_of_alk A (x := []) hw (lf_ok A hw).2.1 (fun p _ _ => ((lf_ok A hw).2.2 p).symm) (.refl w)
/-- the first of all orders, sorted -/
theorem sorted_first {k : Int} {ls : Lets} (A : AlphaOk k ls) {w : List Int} (hw : WordOk ls w) {L : List (List Int)} (hL : ∀ x, x ∈ L ↔ Swp ls w x) (hp : L.Pairwise (· ≤ ·)) : L.head? = some (lf ls w) := by
  have hm := (hL _).mpr (lf_swp A hw)
  cases L with
  | nil => cases hm
  | cons x L =>
    have hx := (hL x).mp List.mem_cons_self
    have h1 : lf ls w ≤ x := lf_least A hw (hx.word hw).1 fun p _ _ => (hx.at_ p).symm
    rcases List.mem_cons.mp hm with e | e
    · rw [e]; rfl
    · have h2 := (List.pairwise_cons.mp hp).1 _ e
      have : x = lf ls w := List.le_antisymm h2 h1
      rw [this]; rfl
end My
namespace My
/-- the same words of all places -/
def alike (ls : Lets) (k : Int) (f s : List Int) : Bool := (List.range k.toNat).all fun p => decide (at_ ls p f = at_ ls p s)
theorem alike_iff {ls : Lets} {k : Int} {u v : List Int} : alike ls k u v = true ↔ Alk ls k u v := by
  unfold alike
  rw [List.all_eq_true]
  constructor
  · intro h p h0 h1
    obtain ⟨q, rfl⟩ := Int.eq_ofNat_of_zero_le h0
    exact of_decide_eq_true (h q (List.mem_range.mpr (by omega)))
  · intro h p hp
    exact decide_eq_true (h p (by omega) (by have := List.mem_range.mp hp; omega))
theorem wok_set {ls : Lets} {o : List Int} {i : Nat} {x : Int} (h : WordOk ls o) (hx : 0 ≤ x ∧ x < (ls.length : Int)) : WordOk ls (o.set i x) := fun y hy => by
  rcases List.mem_or_eq_of_mem_set hy with hy | rfl
  · exact h y hy
  · exact hx
/-- the words of all places -/
def pws (ls : Lets) (k : Int) (wd : List Int) : List (List Int) := (List.range k.toNat).map fun p : Nat => at_ ls p wd
theorem pws_eq {ls : Lets} {k : Int} {u v : List Int} : decide (pws ls k u = pws ls k v) = alike ls k u v := by
  rw [Bool.eq_iff_iff, decide_eq_true_iff]
  unfold alike pws
  rw [List.all_eq_true, List.map_inj_left]
  simp
end My
namespace My
/-! ### queues -/
abbrev Qs := List (List Int)
def qat (Q : Qs) (p : Int) : List Int := Q.getD p.toNat []
/-- the letter comes next in the queue of each of its places -/
def rdyR (ls : Lets) (Q : Qs) (a : Int) : Bool := (pl ls a).all fun p => decide ((qat Q p).head? = some a)
theorem rdyR_iff {ls : Lets} {Q : Qs} {a : Int} : rdyR ls Q a = true ↔ ∀ p ∈ pl ls a, (qat Q p).head? = some a := by
  unfold rdyR; simp
def nxtR (ls : Lets) (Q : Qs) : Option Nat := ((List.range ls.length).filter fun a : Nat => rdyR ls Q a).head?
/-- the letter taken off -/
def mvQ (ls : Lets) (a : Int) (Q : Qs) : Qs := (List.range Q.length).map fun p : Nat => if (p : Int) ∈ pl ls a then (qat Q p).tail else qat Q p
def totQ (Q : Qs) : Nat := (Q.map List.length).sum
def tkN (ls : Lets) : Nat → Qs → List Int
  | 0, _ => []
  | n + 1, Q => match nxtR ls Q with
    | none => []
    | some a => (a : Int) :: tkN ls n (mvQ ls a Q)
theorem tkN_succ {ls : Lets} {n : Nat} {Q : Qs} : tkN ls (n + 1) Q = match nxtR ls Q with | none => [] | some a => (a : Int) :: tkN ls n (mvQ ls a Q) := rfl
/-- the letters that happen if always the first ready one does -/
def tk (ls : Lets) (Q : Qs) : List Int := tkN ls (totQ Q) Q
theorem mvQ_len {ls : Lets} {a : Int} {Q : Qs} : (mvQ ls a Q).length = Q.length := by unfold mvQ; simp
theorem qat_map {n : Nat} {f : Nat → List Int} {p : Nat} (h : p < n) : qat ((List.range n).map f) (p : Int) = f p := by
  unfold qat
  rw [Int.toNat_natCast, List.getD_eq_getElem?_getD, List.getElem?_map, List.getElem?_range h]; rfl
theorem qat_mv {ls : Lets} {a : Int} {Q : Qs} {p : Nat} (h : p < Q.length) : qat (mvQ ls a Q) (p : Int) = if (p : Int) ∈ pl ls a then (qat Q p).tail else qat Q p := by
  unfold mvQ
  rw [qat_map h]
theorem qs_eq {Q : Qs} : Q = (List.range Q.length).map fun p : Nat => qat Q p := by
  apply List.ext_getElem
  · simp
  · intro i h1 h2
    simp only [List.getElem_map, List.getElem_range]
    unfold qat
    rw [Int.toNat_natCast, List.getD_eq_getElem?_getD, List.getElem?_eq_getElem h1]; rfl
theorem qs_ext {Q R : Qs} (hl : Q.length = R.length) (h : ∀ p : Nat, p < Q.length → qat Q p = qat R p) : Q = R := by
  rw [qs_eq (Q := Q), qs_eq (Q := R), ← hl]
  exact List.map_congr_left fun p hp => h p (List.mem_range.mp hp)
theorem totQ_eq {Q : Qs} : totQ Q = ((List.range Q.length).map fun p : Nat => (qat Q p).length).sum := by
  unfold totQ
  conv => lhs; rw [qs_eq (Q := Q), List.map_map]
  rfl
theorem sum_le {l : List Nat} {f g : Nat → Nat} (h : ∀ x ∈ l, f x ≤ g x) : (l.map f).sum ≤ (l.map g).sum := by
  induction l with
  | nil => exact Nat.le_refl _
  | cons a l ih =>
    have := h a List.mem_cons_self
    have := ih fun x hx => h x (List.mem_cons_of_mem _ hx)
    simp only [List.map_cons, List.sum_cons]; omega
theorem sum_lt {l : List Nat} {f g : Nat → Nat} (h : ∀ x ∈ l, f x ≤ g x) {y : Nat} (hy : y ∈ l) (hlt : f y < g y) : (l.map f).sum < (l.map g).sum := by
  induction l with
  | nil => cases hy
  | cons a l ih =>
    have h1 := h a List.mem_cons_self
    have h2 := sum_le fun x hx => h x (List.mem_cons_of_mem _ hx)
    simp only [List.map_cons, List.sum_cons]
    rcases List.mem_cons.mp hy with rfl | hy
    · omega
    · have := ih (fun x hx => h x (List.mem_cons_of_mem _ hx)) hy; omega
theorem totQ_mv {k : Int} {ls : Lets} (A : AlphaOk k ls) {Q : Qs} (hQ : Q.length = k.toNat) {a : Int} (ha : 0 ≤ a ∧ a < (ls.length : Int)) (r : rdyR ls Q a = true) : totQ (mvQ ls a Q) < totQ Q := by
  obtain ⟨p, hp, p0, pk⟩ := A.some ha
  obtain ⟨n, rfl⟩ := Int.eq_ofNat_of_zero_le p0
  have hn : n < Q.length := by omega
  rw [totQ_eq, totQ_eq (Q := Q), mvQ_len]
  refine sum_lt (fun x hx => ?_) (List.mem_range.mpr hn) ?_
  · rw [qat_mv (List.mem_range.mp hx)]
    split
    · rw [List.length_tail]; omega
    · exact Nat.le_refl _
  · rw [qat_mv hn, if_pos hp, List.length_tail]
    have := rdyR_iff.mp r _ hp
    cases e : qat Q (n : Int) with
    | nil => rw [e] at this; cases this
    | cons b l => simp
theorem nxtR_some {ls : Lets} {Q : Qs} {a : Nat} (h : nxtR ls Q = some a) : a < ls.length ∧ rdyR ls Q a = true := by
  have hm := List.mem_of_mem_head? (by exact h : _ ∈ ((List.range ls.length).filter fun a : Nat => rdyR ls Q a).head?)
  obtain ⟨h1, h2⟩ := List.mem_filter.mp hm
  exact ⟨List.mem_range.mp h1, h2⟩
theorem tkN_any {k : Int} {ls : Lets} (A : AlphaOk k ls) : ∀ {n m : Nat} {Q : Qs}, Q.length = k.toNat → totQ Q ≤ n → totQ Q ≤ m → tkN ls n Q = tkN ls m Q
  | n, m, Q, hQ, h1, h2 => by
    cases e : nxtR ls Q with
    | none => cases n <;> cases m <;> simp [tkN, e]
    | some a =>
      obtain ⟨ha, r⟩ := nxtR_some e
      have hA : 0 ≤ (a : Int) ∧ (a : Int) < (ls.length : Int) := ⟨by omega, by omega⟩
      have := totQ_mv A hQ hA r
      obtain ⟨n, rfl⟩ : ∃ n', n = n' + 1 := ⟨n - 1, by omega⟩
      obtain ⟨m, rfl⟩ : ∃ m', m = m' + 1 := ⟨m - 1, by omega⟩
      rw [tkN_succ, tkN_succ, e]
      simp only
      rw [tkN_any A (n := n) (m := m) (by rw [mvQ_len]; exact hQ) (by omega) (by omega)]
theorem tk_none {ls : Lets} {Q : Qs} (h : nxtR ls Q = none) : tk ls Q = [] := by
  unfold tk
  cases totQ Q <;> simp [tkN, h]
theorem tk_some {k : Int} {ls : Lets} (A : AlphaOk k ls) {Q : Qs} (hQ : Q.length = k.toNat) {a : Nat} (h : nxtR ls Q = some a) : tk ls Q = (a : Int) :: tk ls (mvQ ls a Q) := by
  obtain ⟨ha, r⟩ := nxtR_some h
  have hlt := totQ_mv A hQ (a := (a : Int)) ⟨by omega, by omega⟩ r
  unfold tk
  obtain ⟨n, e⟩ : ∃ n', totQ Q = n' + 1 := ⟨totQ Q - 1, by omega⟩
  rw [e, tkN_succ, h]
  simp only
  rw [tkN_any A (n := n) (m := totQ (mvQ ls a Q)) (by rw [mvQ_len]; exact hQ) (by omega) (Nat.le_refl _)]
/-! heads -/
def rq (qs : Qs) (hs : List Int) : Qs := (List.range qs.length).map fun p : Nat => (qat qs p).drop (hs.getD p 0).toNat
def mvH (ls : Lets) (a : Int) (hs : List Int) : List Int := hs.zipIdx.map fun z => z.1 + if (z.2 : Int) ∈ pl ls a then 1 else 0
structure QOk (k : Int) (qs : Qs) (hs : List Int) : Prop where
  ql : qs.length = k.toNat
  hl : hs.length = k.toNat
  h0 : ∀ x ∈ hs, 0 ≤ x
theorem rq_len {qs : Qs} {hs : List Int} : (rq qs hs).length = qs.length := by unfold rq; simp
theorem qat_rq {qs : Qs} {hs : List Int} {p : Nat} (h : p < qs.length) : qat (rq qs hs) (p : Int) = (qat qs p).drop (hs.getD p 0).toNat := qat_map h
theorem mvH_get {ls : Lets} {a : Int} {hs : List Int} {p : Nat} (h : p < hs.length) : (mvH ls a hs).getD p 0 = hs.getD p 0 + if (p : Int) ∈ pl ls a then 1 else 0 := by
  unfold mvH
  rw [List.getD_eq_getElem?_getD, List.getElem?_map, List.getElem?_zipIdx, List.getElem?_eq_getElem h, List.getD_eq_getElem?_getD, List.getElem?_eq_getElem h]
  simp
theorem getD_mem {hs : List Int} {p : Nat} (h : p < hs.length) : hs.getD p 0 ∈ hs := by
  rw [List.getD_eq_getElem?_getD, List.getElem?_eq_getElem h]; exact List.getElem_mem h
theorem QOk.mv {k : Int} {qs : Qs} {hs : List Int} (h : QOk k qs hs) {ls : Lets} {a : Int} : QOk k qs (mvH ls a hs) := by
  refine ⟨h.ql, by unfold mvH; rw [List.length_map, List.length_zipIdx]; exact h.hl, fun x hx => ?_⟩
  unfold mvH at hx
  obtain ⟨z, hz, rfl⟩ := List.mem_map.mp hx
  have := h.h0 z.1 (by
    have := List.mem_zipIdx hz
    rw [this.2.2]; exact List.getElem_mem _)
  split <;> omega
theorem rq_mv {k : Int} {qs : Qs} {hs : List Int} (h : QOk k qs hs) {ls : Lets} {a : Int} : rq qs (mvH ls a hs) = mvQ ls a (rq qs hs) := by
  have hl := h.hl; have ql := h.ql
  refine qs_ext (by rw [mvQ_len, rq_len, rq_len]) fun p hp => ?_
  rw [rq_len] at hp
  rw [qat_rq hp, qat_mv (by rw [rq_len]; exact hp), qat_rq hp, mvH_get (by omega)]
  have := h.h0 _ (getD_mem (hs := hs) (p := p) (by omega))
  split
  · rw [show (hs.getD p 0 + 1).toNat = (hs.getD p 0).toNat + 1 by omega, List.tail_drop]
  · rw [Int.add_zero]
theorem rq_zero {k : Int} {qs : Qs} (h : qs.length = k.toNat) : QOk k qs (List.replicate k.toNat 0) ∧ rq qs (List.replicate k.toNat 0) = qs := by
  refine ⟨⟨h, by simp, fun x hx => by rw [List.eq_of_mem_replicate hx]; exact Int.le_refl _⟩, ?_⟩
  refine qs_ext (by rw [rq_len]) fun p hp => ?_
  rw [rq_len] at hp
  rw [qat_rq hp, List.getD_eq_getElem?_getD, List.getElem?_replicate]
  split <;> rfl
/-! queues of a word -/
def QW (ls : Lets) (k : Int) (Q : Qs) (r : List Int) : Prop := Q.length = k.toNat ∧ ∀ p : Nat, (p : Int) < k → qat Q p = at_ ls p r
theorem QW.rdy {k : Int} {ls : Lets} (A : AlphaOk k ls) {Q : Qs} {r : List Int} (h : QW ls k Q r) {a : Int} (ha : 0 ≤ a ∧ a < (ls.length : Int)) : rdyR ls Q a = rdy ls r a := by
  have pk := (A.pl_ok ha).2
  rw [Bool.eq_iff_iff, rdyR_iff, rdy_iff]
  have key : ∀ p ∈ pl ls a, qat Q p = at_ ls p r := fun p hp => by
    obtain ⟨h0, h1⟩ := pk p hp
    obtain ⟨n, rfl⟩ := Int.eq_ofNat_of_zero_le h0
    exact h.2 n h1
  exact ⟨fun x p hp => by rw [← key p hp]; exact x p hp, fun x p hp => by rw [key p hp]; exact x p hp⟩
theorem QW.nxt {k : Int} {ls : Lets} (A : AlphaOk k ls) {Q : Qs} {r : List Int} (h : QW ls k Q r) : nxtR ls Q = nxt ls r := by
  unfold nxtR My.nxt
  congr 1
  apply List.filter_congr
  intro a ha
  have := List.mem_range.mp ha
  exact h.rdy A ⟨by omega, by omega⟩
theorem QW.mv {k : Int} {ls : Lets} (A : AlphaOk k ls) {Q : Qs} {r : List Int} (h : QW ls k Q r) {a : Int} (ha : 0 ≤ a ∧ a < (ls.length : Int)) (rd : My.rdy ls r a = true) : QW ls k (mvQ ls a Q) (r.erase a) := by
  refine ⟨by rw [mvQ_len]; exact h.1, fun p hp => ?_⟩
  have hq := h.1
  rw [qat_mv (by omega), h.2 p hp, rdy_at A ha rd p]
  split
  · rename_i hm; rw [at_cons_in hm]; rfl
  · rename_i hm; rw [at_cons_out hm]
theorem QW.tk {k : Int} {ls : Lets} (A : AlphaOk k ls) : ∀ {n : Nat} {Q : Qs} {r : List Int}, r.length = n → WordOk ls r → QW ls k Q r → tk ls Q = lf ls r
  | 0, Q, r, hn, hr, h => by
    have : r = [] := List.length_eq_zero_iff.mp hn
    subst this
    cases e : nxtR ls Q with
    | none => rw [tk_none e]; rfl
    | some a =>
      obtain ⟨ha, rd⟩ := nxtR_some e
      have hA : 0 ≤ (a : Int) ∧ (a : Int) < (ls.length : Int) := ⟨by omega, by omega⟩
      rw [h.rdy A hA] at rd
      have := rdy_mem A hA rd
      cases this
  | n + 1, Q, r, hn, hr, h => by
    obtain ⟨a, e, ha, rd⟩ := nxt_some hr (fun z => by subst z; cases hn)
    have hA : 0 ≤ (a : Int) ∧ (a : Int) < (ls.length : Int) := ⟨by omega, by omega⟩
    have hm := rdy_mem A hA rd
    rw [tk_some A h.1 (by rw [h.nxt A]; exact e), lf_step e hm]
    rw [QW.tk A (n := n) (by rw [List.length_erase_of_mem hm]; omega) hr.erase (h.mv A hA rd)]
theorem qw_pws {k : Int} {ls : Lets} {w : List Int} : QW ls k (pws ls k w) w := ⟨by unfold pws; simp, fun p hp => by unfold pws; rw [qat_map (by omega)]⟩
theorem tk_pws {k : Int} {ls : Lets} (A : AlphaOk k ls) {w : List Int} (hw : WordOk ls w) : tk ls (pws ls k w) = lf ls w := qw_pws.tk A rfl hw
/-- the ready letters -/
def rdyRL (ls : Lets) (Q : Qs) : List Int := ((List.range ls.length).filter fun a : Nat => rdyR ls Q a).map fun a : Nat => (a : Int)
theorem rdyRL_nxt {ls : Lets} {Q : Qs} {a : Nat} (h : nxtR ls Q = some a) : (rdyRL ls Q)[0]? = some (a : Int) := by
  unfold nxtR at h
  unfold rdyRL
  rw [List.head?_eq_getElem?] at h
  rw [List.getElem?_map, h]; rfl
theorem rdyRL_none {ls : Lets} {Q : Qs} : rdyRL ls Q = [] ↔ nxtR ls Q = none := by
  unfold rdyRL nxtR
  rw [List.map_eq_nil_iff, List.head?_eq_none_iff]
/-- at most as many letters of a place as it has in the word -/
theorem at_le {ls : Lets} {p : Int} {w : List Int} : (at_ ls p w).length ≤ w.length := List.length_filter_le _ _
theorem totQ_pws {ls : Lets} {k : Int} {w : List Int} : totQ (pws ls k w) ≤ k.toNat * w.length := by
  unfold totQ pws
  rw [List.map_map]
  generalize k.toNat = n
  induction n with
  | zero => simp
  | succ n ih =>
    rw [List.range_succ, List.map_append, List.sum_append, Nat.succ_mul]
    have : ((List.length ∘ fun p : Nat => at_ ls p w) n) ≤ w.length := at_le
    simp only [List.map_cons, List.map_nil, List.sum_cons, List.sum_nil]
    omega
end My
namespace My
theorem yes_tst {a : Bool} {p q : Prop} [Decidable p] [Decidable q] (h : true = (a && (decide p || decide q))) : a = true ∧ (p ∨ q) := by
  have h := h.symm
  rw [Bool.and_eq_true, Bool.or_eq_true, decide_eq_true_iff, decide_eq_true_iff] at h
  exact h
theorem not_tst {a : Bool} {p q : Prop} [Decidable p] [Decidable q] (h : false = (a && (decide p || decide q))) : ¬ (a = true ∧ (p ∨ q)) := fun c => by
  have : (a && (decide p || decide q)) = true := by
    rw [Bool.and_eq_true, Bool.or_eq_true, decide_eq_true_iff, decide_eq_true_iff]; exact c
  rw [this] at h; cases h
/-! ### the first letter that nothing ahead of it holds back -/
def unb (ls : Lets) (r : List Int) (k : Nat) : Bool := (List.range k).all fun j => free ls (r.getD j 0) (r.getD k 0)
theorem unb_iff {ls : Lets} {r : List Int} {k : Nat} : unb ls r k = true ↔ ∀ j, j < k → free ls (r.getD j 0) (r.getD k 0) = true := by
  unfold unb
  rw [List.all_eq_true]
  exact ⟨fun h j hj => h j (List.mem_range.mpr hj), fun h j hj => h j (List.mem_range.mp hj)⟩
theorem getD_at {r : List Int} {k : Nat} (h : k < r.length) : r.getD k 0 = r[k] := by rw [List.getD_eq_getElem?_getD, List.getElem?_eq_getElem h]; rfl
theorem split_at {r : List Int} {k : Nat} (h : k < r.length) : r = r.take k ++ r.getD k 0 :: r.drop (k + 1) := by
  rw [getD_at h]
  conv => lhs; rw [← List.take_append_drop k r, List.drop_eq_getElem_cons h]
theorem take_mem {r : List Int} {k : Nat} {x : Int} (h : x ∈ r.take k) : ∃ j, j < k ∧ j < r.length ∧ r.getD j 0 = x := by
  obtain ⟨j, hj, e⟩ := List.getElem_of_mem h
  rw [List.length_take] at hj
  rw [List.getElem_take] at e
  exact ⟨j, by omega, by omega, by rw [getD_at (by omega)]; exact e⟩
theorem unb_rdy {ls : Lets} {r : List Int} {k : Nat} (h : k < r.length) (u : unb ls r k = true) : rdy ls r (r.getD k 0) = true := rdy_iff.mpr fun p hp => by
  conv => lhs; rw [split_at h]
  rw [at_append, at_nil_iff.mpr fun x hx => ?_, at_cons_in hp]
  · rfl
  · obtain ⟨j, hj, _, e⟩ := take_mem hx
    have := unb_iff.mp u j hj
    rw [e] at this
    exact fun q => disj_iff.mp this p q hp
theorem rdy_unb {k : Int} {ls : Lets} (A : AlphaOk k ls) {a : Int} (ha : 0 ≤ a ∧ a < (ls.length : Int)) {r : List Int} (h : rdy ls r a = true) : ∃ k, k < r.length ∧ r.getD k 0 = a ∧ unb ls r k = true := by
  obtain ⟨r1, r2, e1, n1, f1, x1⟩ := rdy_split A ha h
  have g : r.getD r1.length 0 = a := by rw [e1]; simp [List.getD_eq_getElem?_getD]
  refine ⟨r1.length, by rw [e1]; simp, g, unb_iff.mpr fun j hj => ?_⟩
  rw [g]
  refine f1 _ ?_
  rw [e1, List.getD_eq_getElem?_getD, List.getElem?_append_left hj, List.getElem?_eq_getElem hj]
  exact List.getElem_mem hj
theorem unb_erase {k : Int} {ls : Lets} (A : AlphaOk k ls) {r : List Int} (hr : WordOk ls r) {b : Nat} (h : b < r.length) (u : unb ls r b = true) : r.erase (r.getD b 0) = r.take b ++ r.drop (b + 1) := by
  have hm : r.getD b 0 ∈ r := by rw [getD_at h]; exact List.getElem_mem h
  have hn : r.getD b 0 ∉ r.take b := fun hx => by
    obtain ⟨j, hj, _, e⟩ := take_mem hx
    have f := unb_iff.mp u j hj
    rw [e] at f
    obtain ⟨p, hp, _⟩ := A.some (hr _ hm)
    exact disj_iff.mp f p hp hp
  conv => lhs; arg 1; rw [split_at h]
  rw [List.erase_append_right _ hn, List.erase_cons_head]
/-- what is known of the best place among the first m -/
def Best (ls : Lets) (r : List Int) (m : Nat) (best : Int) : Prop :=
  (best = -1 ∧ ∀ k, k < m → unb ls r k = false) ∨ ∃ b : Nat, best = b ∧ b < m ∧ unb ls r b = true ∧ ∀ k, k < m → unb ls r k = true → r.getD b 0 ≤ r.getD k 0
theorem best_step {ls : Lets} {r : List Int} {m : Nat} {best : Int} (h : Best ls r m best) : Best ls r (m + 1) (if unb ls r m = true ∧ (best < 0 ∨ r.getD m 0 < r.getD best.toNat 0) then m else best) := by
  rcases h with ⟨rfl, hn⟩ | ⟨b, rfl, hb, hu, hm⟩
  · by_cases u : unb ls r m = true
    · rw [if_pos ⟨u, .inl (by omega)⟩]
      refine .inr ⟨m, rfl, by omega, u, fun k hk hu => ?_⟩
      by_cases e : k = m
      · subst e; exact Int.le_refl _
      · rw [hn k (by omega)] at hu; cases hu
    · rw [if_neg fun c => u c.1]
      refine .inl ⟨rfl, fun k hk => ?_⟩
      by_cases e : k = m
      · subst e; simpa using u
      · exact hn k (by omega)
  · rw [Int.toNat_natCast]
    split
    · rename_i c
      obtain ⟨u, c⟩ := c
      have hlt : r.getD m 0 < r.getD b 0 := by rcases c with c | c; omega; exact c
      refine .inr ⟨m, rfl, by omega, u, fun k hk hu2 => ?_⟩
      by_cases e : k = m
      · subst e; exact Int.le_refl _
      · have := hm k (by omega) hu2; omega
    · rename_i c
      refine .inr ⟨b, rfl, by omega, hu, fun k hk hu2 => ?_⟩
      by_cases e : k = m
      · subst e
        apply Int.not_lt.mp
        exact fun z => c ⟨hu2, .inr z⟩
      · exact hm k (by omega) hu2
theorem nxt_least {ls : Lets} {r : List Int} {a : Nat} (h : nxt ls r = some a) {b : Nat} (hb : b < ls.length) (rb : rdy ls r b = true) : a ≤ b := by
  have hc : b ∈ (List.range ls.length).filter fun a : Nat => rdy ls r a := List.mem_filter.mpr ⟨List.mem_range.mpr hb, rb⟩
  unfold nxt at h
  cases f : (List.range ls.length).filter fun a : Nat => rdy ls r a with
  | nil => rw [f] at hc; cases hc
  | cons d t =>
    rw [f] at h hc
    have ed : d = a := by simpa using h
    subst ed
    have pw : (d :: t).Pairwise (· < ·) := by rw [← f]; exact List.pairwise_lt_range.sublist List.filter_sublist
    rcases List.mem_cons.mp hc with hc | hc
    · omega
    · have := (List.pairwise_cons.mp pw).1 b hc
      omega
theorem best_end {k : Int} {ls : Lets} (A : AlphaOk k ls) {r : List Int} (hr : WordOk ls r) (hne : r ≠ []) {best : Int} (h : Best ls r r.length best) :
    ∃ b a : Nat, best = b ∧ b < r.length ∧ r.getD b 0 = (a : Int) ∧ nxt ls r = some a ∧ (a : Int) ∈ r ∧ r.erase (a : Int) = r.take b ++ r.drop (b + 1) := by
  rcases h with ⟨rfl, hn⟩ | ⟨b, rfl, hb, hu, hm⟩
  · have := hn 0 (List.length_pos_iff.mpr hne)
    rw [show unb ls r 0 = true from rfl] at this; cases this
  · have hmem : r.getD b 0 ∈ r := by rw [getD_at hb]; exact List.getElem_mem hb
    obtain ⟨h0, h1⟩ := hr _ hmem
    obtain ⟨a, ea⟩ := Int.eq_ofNat_of_zero_le h0
    obtain ⟨c, ec, hc, rc⟩ := nxt_some hr hne
    have rb := unb_rdy hb hu
    have hca : c ≤ a := nxt_least ec (by omega) (by rw [ea] at rb; exact rb)
    obtain ⟨k', hk', gk, uk⟩ := rdy_unb A (a := (c : Int)) ⟨by omega, by omega⟩ rc
    have := hm k' hk' uk
    rw [gk, ea] at this
    have e : c = a := by omega
    subst e
    exact ⟨b, c, rfl, hb, ea, ec, by rw [← ea]; exact hmem, by rw [← ea]; exact unb_erase A hr hb hu⟩
end My
namespace My
/-! ### runs of queues in any order -/
theorem tkN_ok {ls : Lets} : ∀ {n : Nat} {Q : Qs}, WordOk ls (tkN ls n Q) ∧ (tkN ls n Q).length ≤ n
  | 0, Q => ⟨fun x hx => (by cases hx), Nat.le_refl _⟩
  | n + 1, Q => by
    rw [tkN_succ]
    cases e : nxtR ls Q with
    | none => exact ⟨fun x hx => (by cases hx), Nat.zero_le _⟩
    | some a =>
      obtain ⟨h1, h2⟩ := tkN_ok (ls := ls) (n := n) (Q := mvQ ls a Q)
      have := (nxtR_some e).1
      refine ⟨fun x hx => ?_, by simp only [List.length_cons]; omega⟩
      rcases List.mem_cons.mp hx with rfl | hx
      · omega
      · exact h1 x hx
theorem tk_ok {ls : Lets} {Q : Qs} : WordOk ls (tk ls Q) ∧ (tk ls Q).length ≤ totQ Q := tkN_ok
/-- the least word with these queues -/
def wordOf (ls : Lets) (k : Int) (qs : Qs) : Option (List Int) := if pws ls k (tk ls qs) = qs then some (tk ls qs) else none
structure Sch (k : Int) (ls : Lets) (qs : Qs) (f hs : List Int) : Prop where
  q : QOk k qs hs
  wf : WordOk ls f
  hp : ∀ p : Nat, (p : Int) < k → hs.getD p 0 = ((at_ ls p f).length : Int) ∧ at_ ls p f ++ qat (rq qs hs) p = qat qs p
  tot : f.length + totQ (rq qs hs) ≤ totQ qs
  of : ∀ w, WordOk ls w → QW ls k qs w → ∃ r, WordOk ls r ∧ QW ls k (rq qs hs) r
theorem Sch.start {k : Int} {ls : Lets} {qs : Qs} (h : qs.length = k.toNat) : Sch k ls qs [] (List.replicate k.toNat 0) := by
  obtain ⟨z1, z2⟩ := rq_zero (qs := qs) h
  refine ⟨z1, fun x hx => (by cases hx), fun p hp => ⟨?_, by rw [z2]; rfl⟩, by rw [z2]; simp, fun w hw hq => ⟨w, hw, by rw [z2]; exact hq⟩⟩
  rw [List.getD_eq_getElem?_getD, List.getElem?_replicate]
  split <;> rfl
theorem Sch.step {k : Int} {ls : Lets} (A : AlphaOk k ls) {qs : Qs} {f hs : List Int} (h : Sch k ls qs f hs) {a : Int} (ha : 0 ≤ a ∧ a < (ls.length : Int)) (rd : rdyR ls (rq qs hs) a = true) : Sch k ls qs (f ++ [a]) (mvH ls a hs) := by
  have hl := h.q.hl; have ql := h.q.ql
  have mv := rq_mv h.q (ls := ls) (a := a)
  have lt := totQ_mv A (Q := rq qs hs) (by rw [rq_len]; exact ql) ha rd
  refine ⟨h.q.mv, fun x hx => ?_, fun p hp => ?_, ?_, fun w hw hq => ?_⟩
  · rcases List.mem_append.mp hx with hx | hx
    · exact h.wf x hx
    · rw [List.mem_singleton.mp hx]; exact ha
  · obtain ⟨h1, h2⟩ := h.hp p hp
    have hpn : p < qs.length := by omega
    rw [mvH_get (by omega), mv, qat_mv (by rw [rq_len]; exact hpn), at_append]
    by_cases hm : (p : Int) ∈ pl ls a
    · rw [if_pos hm, if_pos hm, at_cons_in hm]
      have hd := rdyR_iff.mp rd _ hm
      cases e : qat (rq qs hs) (p : Int) with
      | nil => rw [e] at hd; cases hd
      | cons b t =>
        rw [e] at hd h2
        have hb : b = a := by simpa using hd
        subst hb
        refine ⟨?_, ?_⟩
        · rw [h1, show at_ ls (p : Int) [] = [] from rfl, List.length_append]; simp
        · rw [← h2]
          simp only [show at_ ls (p : Int) [] = [] from rfl, List.tail_cons, List.append_assoc, List.cons_append, List.nil_append]
    · rw [if_neg hm, if_neg hm, at_cons_out hm, Int.add_zero, show at_ ls (p : Int) [] = [] from rfl, List.append_nil]
      exact ⟨h1, h2⟩
  · rw [mv, List.length_append]; simp only [List.length_singleton]
    have := h.tot
    omega
  · obtain ⟨r, hr, qr⟩ := h.of w hw hq
    rw [qr.rdy A ha] at rd
    exact ⟨r.erase a, hr.erase, by rw [mv]; exact qr.mv A ha rd⟩
def lens (qs : Qs) : List Int := qs.map fun q => (q.length : Int)
theorem lens_get {qs : Qs} {p : Nat} (h : p < qs.length) : (lens qs).getD p 0 = ((qat qs p).length : Int) := by
  unfold lens qat
  rw [List.getD_eq_getElem?_getD, List.getElem?_map, Int.toNat_natCast, List.getD_eq_getElem?_getD, List.getElem?_eq_getElem h]; rfl
theorem Sch.at_end {k : Int} {ls : Lets} (A : AlphaOk k ls) {qs : Qs} {f hs : List Int} (h : Sch k ls qs f hs) (hn : nxtR ls (rq qs hs) = none) : wordOf ls k qs = if hs = lens qs then some (lf ls f) else none := by
  have hl := h.q.hl; have ql := h.q.ql
  unfold wordOf
  by_cases e : hs = lens qs
  · rw [if_pos e]
    have Q : QW ls k qs f := ⟨ql, fun p hp => by
      obtain ⟨h1, h2⟩ := h.hp p hp
      have e1 : hs.getD p 0 = ((qat qs p).length : Int) := by rw [e]; exact lens_get (by omega)
      rw [h1] at e1
      have : qat (rq qs hs) p = [] := by
        have := congrArg List.length h2
        rw [List.length_append] at this
        exact List.length_eq_zero_iff.mp (by omega)
      rw [this, List.append_nil] at h2
      exact h2.symm⟩
    rw [Q.tk A rfl h.wf, if_pos]
    refine qs_ext (by unfold pws; simp; omega) fun p hp => ?_
    have hp2 : (p : Int) < k := by unfold pws at hp; simp at hp; omega
    rw [Q.2 p hp2, qw_pws.2 p hp2, (lf_ok A h.wf).2.2]
  · rw [if_neg e, if_neg]
    intro c
    apply e
    obtain ⟨wk, wl⟩ := tk_ok (ls := ls) (Q := qs)
    obtain ⟨r, hr, qr⟩ := h.of (tk ls qs) wk (by
      have := qw_pws (ls := ls) (k := k) (w := tk ls qs)
      rw [c] at this; exact this)
    have hr0 : r = [] := by
      cases r with
      | nil => rfl
      | cons b t =>
        obtain ⟨a, na, _⟩ := nxt_some hr (by simp)
        rw [qr.nxt A, na] at hn; cases hn
    subst hr0
    apply List.ext_getElem
    · unfold lens; rw [List.length_map]; omega
    · intro p h1 h2
      obtain ⟨h3, h4⟩ := h.hp p (by omega)
      rw [qr.2 p (by omega), show at_ ls (p : Int) [] = [] from rfl, List.append_nil] at h4
      have e1 : hs.getD p 0 = hs[p] := getD_at h1
      have e2 : (lens qs).getD p 0 = (lens qs)[p] := getD_at h2
      rw [← e1, ← e2, h3, lens_get (by omega), h4]
theorem wordOf_pws {k : Int} {ls : Lets} (A : AlphaOk k ls) {w : List Int} (hw : WordOk ls w) : wordOf ls k (pws ls k w) = some (lf ls w) := by
  unfold wordOf
  rw [tk_pws A hw, if_pos]
  unfold pws
  exact List.map_congr_left fun p _ => (lf_ok A hw).2.2 p
theorem totQ_put {qs : Qs} {p : Nat} {o : List Int} : totQ (qs.take p ++ [o] ++ qs.drop (p + 1)) ≤ totQ qs + o.length := by
  unfold totQ
  have e : (qs.map List.length).sum = ((qs.take p).map List.length).sum + ((qs.drop p).map List.length).sum := by
    rw [← List.sum_append, ← List.map_append, List.take_append_drop]
  have e2 : ((qs.drop (p + 1)).map List.length).sum ≤ ((qs.drop p).map List.length).sum := by
    rw [List.drop_add_one_eq_tail_drop]
    cases qs.drop p with
    | nil => exact Nat.le_refl _
    | cons a l => simp only [List.tail_cons, List.map_cons, List.sum_cons]; omega
  rw [e]
  simp only [List.map_append, List.sum_append, List.map_cons, List.map_nil, List.sum_cons, List.sum_nil]
  omega
end My
namespace My
/-! ### prefixes up to order -/
/-- what is left of a word behind the letters of another one -/
def dif (w u : List Int) : List Int := u.foldl (fun w a => w.erase a) w
theorem dif_cons {w u : List Int} {a : Int} : dif w (a :: u) = dif (w.erase a) u := rfl
theorem dif_erase {a : Int} : ∀ {u w : List Int}, (dif w u).erase a = dif (w.erase a) u
  | [], w => rfl
  | b :: u, w => by rw [dif_cons, dif_cons, dif_erase, List.erase_comm]
def Pre (ls : Lets) (k : Int) (u w : List Int) : Prop := ∀ p : Int, 0 ≤ p → p < k → at_ ls p u <+: at_ ls p w
theorem Pre.head {k : Int} {ls : Lets} (A : AlphaOk k ls) {a : Int} {u w : List Int} (ha : 0 ≤ a ∧ a < (ls.length : Int)) (h : Pre ls k (a :: u) w) : rdy ls w a = true ∧ Pre ls k u (w.erase a) := by
  have pk := (A.pl_ok ha).2
  have r : rdy ls w a = true := rdy_iff.mpr fun p hp => by
    obtain ⟨t, e⟩ := h p (pk p hp).1 (pk p hp).2
    rw [at_cons_in hp] at e
    rw [← e]; rfl
  refine ⟨r, fun p h0 h1 => ?_⟩
  have q := h p h0 h1
  rw [rdy_at A ha r p] at q
  by_cases hp : p ∈ pl ls a
  · rw [at_cons_in hp, at_cons_in hp] at q
    exact (List.cons_prefix_cons.mp q).2
  · rw [at_cons_out hp, at_cons_out hp] at q
    exact q
theorem pre_dif {k : Int} {ls : Lets} (A : AlphaOk k ls) : ∀ {u w : List Int}, WordOk ls u → WordOk ls w → Pre ls k u w → WordOk ls (dif w u) ∧ (dif w u).length + u.length = w.length ∧ ∀ p : Int, 0 ≤ p → p < k → at_ ls p u ++ at_ ls p (dif w u) = at_ ls p w
  | [], w, _, hw, _ => ⟨hw, rfl, fun p _ _ => rfl⟩
  | a :: u, w, hu, hw, h => by
    have ha := hu a List.mem_cons_self
    obtain ⟨r, h2⟩ := h.head A ha
    obtain ⟨i1, i2, i3⟩ := pre_dif A hu.tail hw.erase h2
    have hm := rdy_mem A ha r
    have := List.length_erase_of_mem hm
    have := List.length_pos_of_mem hm
    refine ⟨i1, by rw [dif_cons, List.length_cons]; omega, fun p h0 h1 => ?_⟩
    rw [dif_cons, rdy_at A ha r p]
    by_cases hp : p ∈ pl ls a
    · rw [at_cons_in hp, at_cons_in hp, List.cons_append, i3 p h0 h1]
    · rw [at_cons_out hp, at_cons_out hp, i3 p h0 h1]
theorem pre_app {k : Int} {ls : Lets} {u v : List Int} : Pre ls k u (u ++ v) := fun p _ _ => by rw [at_append]; exact List.prefix_append _ _
theorem Pre.alk {k : Int} {ls : Lets} {u w w' : List Int} (h : Pre ls k u w) (e : Alk ls k w w') : Pre ls k u w' := fun p h0 h1 => by rw [← e p h0 h1]; exact h p h0 h1
theorem Pre.rdy {k : Int} {ls : Lets} (A : AlphaOk k ls) {u w : List Int} (h : Pre ls k u w) {a : Int} (ha : 0 ≤ a ∧ a < (ls.length : Int)) (r : My.rdy ls u a = true) : My.rdy ls w a = true := rdy_iff.mpr fun p hp => by
  obtain ⟨h0, h1⟩ := (A.pl_ok ha).2 p hp
  have := rdy_iff.mp r p hp
  obtain ⟨t, e⟩ := h p h0 h1
  rw [← e]
  cases z : at_ ls p u with
  | nil => rw [z] at this; cases this
  | cons b l => rw [z] at this; exact this
/-- one behind the other -/
theorem alk_app {k : Int} {ls : Lets} {u u' v v' : List Int} (h : Alk ls k u u') (g : Alk ls k v v') : Alk ls k (u ++ v) (u' ++ v') := fun p h0 h1 => by rw [at_append, at_append, h p h0 h1, g p h0 h1]
/-! the greatest common prefix -/
def nxtB (ls : Lets) (u v : List Int) : Option Nat := ((List.range ls.length).filter fun a : Nat => rdy ls u a && rdy ls v a).head?
def gcN (ls : Lets) : Nat → List Int → List Int → List Int
  | 0, _, _ => []
  | n + 1, u, v => match nxtB ls u v with
    | none => []
    | some a => (a : Int) :: gcN ls n (u.erase a) (v.erase a)
def gc (ls : Lets) (u v : List Int) : List Int := gcN ls u.length u v
theorem nxtB_some {ls : Lets} {u v : List Int} {a : Nat} (h : nxtB ls u v = some a) : a < ls.length ∧ rdy ls u a = true ∧ rdy ls v a = true := by
  have hm := List.mem_of_mem_head? (by exact h : _ ∈ ((List.range ls.length).filter fun a : Nat => rdy ls u a && rdy ls v a).head?)
  obtain ⟨h1, h2⟩ := List.mem_filter.mp hm
  rw [Bool.and_eq_true] at h2
  exact ⟨List.mem_range.mp h1, h2.1, h2.2⟩
theorem nxtB_none {ls : Lets} {u v : List Int} (h : nxtB ls u v = none) {a : Nat} (ha : a < ls.length) (r1 : rdy ls u a = true) (r2 : rdy ls v a = true) : False := by
  unfold nxtB at h
  rw [List.head?_eq_none_iff, List.filter_eq_nil_iff] at h
  have := h a (List.mem_range.mpr ha)
  simp [r1, r2] at this
theorem nxtB_least {ls : Lets} {u v : List Int} {a : Nat} (h : nxtB ls u v = some a) {b : Nat} (hb : b < ls.length) (r1 : rdy ls u b = true) (r2 : rdy ls v b = true) : a ≤ b := by
  have hc : b ∈ (List.range ls.length).filter fun a : Nat => rdy ls u a && rdy ls v a := List.mem_filter.mpr ⟨List.mem_range.mpr hb, by rw [r1, r2]; rfl⟩
  unfold nxtB at h
  cases f : (List.range ls.length).filter fun a : Nat => rdy ls u a && rdy ls v a with
  | nil => rw [f] at hc; cases hc
  | cons d t =>
    rw [f] at h hc
    have ed : d = a := by simpa using h
    subst ed
    have pw : (d :: t).Pairwise (· < ·) := by rw [← f]; exact List.pairwise_lt_range.sublist List.filter_sublist
    rcases List.mem_cons.mp hc with hc | hc
    · omega
    · have := (List.pairwise_cons.mp pw).1 b hc
      omega
theorem gc_none {ls : Lets} {u v : List Int} (h : nxtB ls u v = none) : gc ls u v = [] := by
  unfold gc
  cases u.length <;> simp [gcN, h]
theorem gc_some {ls : Lets} {u v : List Int} {a : Nat} (h : nxtB ls u v = some a) (hm : (a : Int) ∈ u) : gc ls u v = (a : Int) :: gc ls (u.erase a) (v.erase a) := by
  unfold gc
  obtain ⟨n, e⟩ : ∃ n, u.length = n + 1 := ⟨u.length - 1, by have := List.length_pos_of_mem hm; omega⟩
  have hl : (u.erase (a : Int)).length = n := by rw [List.length_erase_of_mem hm]; omega
  rw [e, hl]
  show (match nxtB ls u v with | none => [] | some a => (a : Int) :: gcN ls n (u.erase a) (v.erase a)) = _
  rw [h]
structure Gc (k : Int) (ls : Lets) (u v f r1 r2 : List Int) : Prop where
  wf : WordOk ls f
  w1 : WordOk ls r1
  w2 : WordOk ls r2
  a1 : ∀ p : Int, 0 ≤ p → p < k → at_ ls p f ++ at_ ls p r1 = at_ ls p u
  a2 : ∀ p : Int, 0 ≤ p → p < k → at_ ls p f ++ at_ ls p r2 = at_ ls p v
  no : nxtB ls r1 r2 = none
  ll : f.length ≤ u.length
  least : lf ls f = f
theorem gc_ok {k : Int} {ls : Lets} (A : AlphaOk k ls) : ∀ {n : Nat} {u v : List Int}, u.length = n → WordOk ls u → WordOk ls v → ∃ r1 r2, Gc k ls u v (gc ls u v) r1 r2
  | n, u, v, hn, hu, hv => by
    cases e : nxtB ls u v with
    | none =>
      rw [gc_none e]
      exact ⟨u, v, fun x hx => (by cases hx), hu, hv, fun p _ _ => rfl, fun p _ _ => rfl, e, Nat.zero_le _, rfl⟩
    | some a =>
      obtain ⟨ha, r1, r2⟩ := nxtB_some e
      have hA : 0 ≤ (a : Int) ∧ (a : Int) < (ls.length : Int) := ⟨by omega, by omega⟩
      have m1 := rdy_mem A hA r1
      have hl := List.length_erase_of_mem m1
      have hp := List.length_pos_of_mem m1
      obtain ⟨s1, s2, G⟩ := gc_ok A (n := n - 1) (u := u.erase (a : Int)) (v := v.erase (a : Int)) (by omega) hu.erase hv.erase
      rw [gc_some e m1]
      generalize gc ls (u.erase (a : Int)) (v.erase (a : Int)) = f at G
      have ap : ∀ {w r : List Int} (rd : rdy ls w (a : Int) = true), (∀ p : Int, 0 ≤ p → p < k → at_ ls p f ++ at_ ls p r = at_ ls p (w.erase (a : Int))) → ∀ p : Int, 0 ≤ p → p < k → at_ ls p ((a : Int) :: f) ++ at_ ls p r = at_ ls p w := fun rd h p h0 h1 => by
        rw [rdy_at A hA rd p]
        by_cases hp : p ∈ pl ls (a : Int)
        · rw [at_cons_in hp, at_cons_in hp, List.cons_append, h p h0 h1]
        · rw [at_cons_out hp, at_cons_out hp, h p h0 h1]
      have wf2 : WordOk ls ((a : Int) :: f) := fun x hx => by
        rcases List.mem_cons.mp hx with rfl | hx
        · exact hA
        · exact G.wf x hx
      have b1 := ap r1 G.a1
      have b2 := ap r2 G.a2
      refine ⟨s1, s2, wf2, G.w1, G.w2, b1, b2, G.no, by have := G.ll; rw [List.length_cons]; omega, ?_⟩
      -- the first letter is the least ready one
      have na : nxt ls ((a : Int) :: f) = some a := by
        obtain ⟨c, ec, hc, rc⟩ := nxt_some wf2 (by simp)
        have hC : 0 ≤ (c : Int) ∧ (c : Int) < (ls.length : Int) := ⟨by omega, by omega⟩
        have p1 : Pre ls k ((a : Int) :: f) u := fun p h0 h1 => ⟨_, b1 p h0 h1⟩
        have p2 : Pre ls k ((a : Int) :: f) v := fun p h0 h1 => ⟨_, b2 p h0 h1⟩
        have h1 := nxtB_least e hc (p1.rdy A hC rc) (p2.rdy A hC rc)
        have h2 := nxt_least ec (b := a) ha rdy_first
        have : c = a := by omega
        rw [ec, this]
      rw [lf_step na List.mem_cons_self, List.erase_cons_head, G.least]
/-- without a common first letter, two beginnings of one word are independent -/
theorem levi {k : Int} {ls : Lets} (A : AlphaOk k ls) {r s y v : List Int} (hr : WordOk ls r) (hs : WordOk ls s) (h : ∀ p : Int, 0 ≤ p → p < k → at_ ls p r ++ at_ ls p y = at_ ls p s ++ at_ ls p v) (no : nxtB ls r s = none) :
    ∀ p : Int, 0 ≤ p → p < k → at_ ls p r = [] ∨ at_ ls p s = [] := by
  -- places where both have letters
  let Sh : Int → Prop := fun p => 0 ≤ p ∧ p < k ∧ at_ ls p r ≠ [] ∧ at_ ls p s ≠ []
  have heads : ∀ p, Sh p → (at_ ls p r).head? = (at_ ls p s).head? := fun p ⟨h0, h1, h2, h3⟩ => by
    have := h p h0 h1
    cases e1 : at_ ls p r with
    | nil => exact absurd e1 h2
    | cons a l =>
      cases e2 : at_ ls p s with
      | nil => exact absurd e2 h3
      | cons b m =>
        rw [e1, e2] at this
        have := (List.cons.inj (by simpa using this : a :: (l ++ at_ ls p y) = b :: (m ++ at_ ls p v))).1
        simp [this]
  have none_sh : ∀ n : Nat, n ≤ r.length → ∀ x ∈ r.take n, ∀ p ∈ pl ls x, ¬ Sh p := by
    intro n
    induction n with
    | zero => intro _ x hx; simp at hx
    | succ n ih =>
      intro hn x hx p hp sh
      have hlt : n < r.length := by omega
      rw [List.take_add_one, List.getElem?_eq_getElem hlt] at hx
      rcases List.mem_append.mp hx with hx | hx
      · exact ih (by omega) x hx p hp sh
      · have ex : x = r[n] := by simpa using hx
        have hxm : x ∈ r := by rw [ex]; exact List.getElem_mem hlt
        have hX := hr x hxm
        have pk := (A.pl_ok hX).2
        have er : r = r.take n ++ x :: r.drop (n + 1) := by
          rw [ex]; conv => lhs; rw [← List.take_append_drop n r, List.drop_eq_getElem_cons hlt]
        have before : ∀ q ∈ pl ls x, Sh q → at_ ls q (r.take n) = [] := fun q hq shq => at_nil_iff.mpr fun y hy z => ih (by omega) y hy q z shq
        have hd : ∀ q ∈ pl ls x, Sh q → (at_ ls q r).head? = some x := fun q hq shq => by
          conv => lhs; rw [er]
          rw [at_append, before q hq shq, at_cons_in hq]; rfl
        have xs : x ∈ s := by
          have := heads p sh
          rw [hd p hp sh] at this
          cases e : at_ ls p s with
          | nil => exact absurd e sh.2.2.2
          | cons b m =>
            rw [e] at this
            have eb : x = b := by simpa using this
            have : x ∈ at_ ls p s := by rw [e, eb]; exact List.mem_cons_self
            exact (List.mem_filter.mp this).1
        have all : ∀ q ∈ pl ls x, Sh q := fun q hq => ⟨(pk q hq).1, (pk q hq).2, fun e => absurd hq (at_nil_iff.mp e x hxm), fun e => absurd hq (at_nil_iff.mp e x xs)⟩
        have r1 : rdy ls r x = true := rdy_iff.mpr fun q hq => hd q hq (all q hq)
        have r2 : rdy ls s x = true := rdy_iff.mpr fun q hq => by rw [← heads q (all q hq)]; exact hd q hq (all q hq)
        obtain ⟨c, ec⟩ := Int.eq_ofNat_of_zero_le hX.1
        rw [ec] at r1 r2
        exact nxtB_none no (by omega) r1 r2
  intro p h0 h1
  by_cases e : at_ ls p r = []
  · exact .inl e
  · by_cases e2 : at_ ls p s = []
    · exact .inr e2
    · exfalso
      obtain ⟨x, hx⟩ := List.exists_mem_of_ne_nil _ e
      obtain ⟨hx1, hx2⟩ := List.mem_filter.mp hx
      exact none_sh r.length (Nat.le_refl _) x (by rw [List.take_length]; exact hx1) p (by simpa using hx2) ⟨h0, h1, e, e2⟩
/-! without, by counts -/
def inc (ts : List Int) (a : Int) : List Int := ts.set a.toNat (ts.getD a.toNat 0 + 1)
def byc : List Int → List Int → List Int
  | _, [] => []
  | ts, x :: w => if 0 < ts.getD x.toNat 0 then byc (ts.set x.toNat (ts.getD x.toNat 0 - 1)) w else x :: byc ts w
def ebN : List Int → List Int → Nat → List Nat
  | _, [], _ => []
  | ts, x :: w, i => if 0 < ts.getD x.toNat 0 then ebN (ts.set x.toNat (ts.getD x.toNat 0 - 1)) w (i + 1) else i :: ebN ts w (i + 1)
def cnts (ls : Lets) (u : List Int) : List Int := u.foldl inc (List.replicate ls.length 0)
def eb (ls : Lets) (w u : List Int) : List Nat := ebN (cnts ls u) w 0
theorem getD_set {ts : List Int} {i j : Nat} {x : Int} (h : i < ts.length) : (ts.set i x).getD j 0 = if i = j then x else ts.getD j 0 := by
  rw [List.getD_eq_getElem?_getD, List.getElem?_set, List.getD_eq_getElem?_getD]
  by_cases e : i = j
  · subst e; simp [h]
  · simp [e]
theorem byc_inc {m : Nat} {a : Int} (h0 : 0 ≤ a) (ha : a < m) : ∀ {w ts : List Int}, ts.length = m → (∀ x ∈ w, 0 ≤ x ∧ x < (m : Int)) → (∀ x ∈ ts, 0 ≤ x) → byc (inc ts a) w = byc ts (w.erase a)
  | [], ts, _, _, _ => rfl
  | x :: w, ts, hl, hw, h0s => by
    have hx := hw x List.mem_cons_self
    have an : a.toNat < ts.length := by omega
    have xn : x.toNat < ts.length := by omega
    have pos : ∀ i, i < ts.length → 0 ≤ ts.getD i 0 := fun i hi => h0s _ (getD_mem hi)
    by_cases e : x = a
    · subst e
      rw [List.erase_cons_head]
      unfold byc inc
      rw [getD_set xn, if_pos rfl, if_pos (by have := pos _ xn; omega), List.set_set]
      have : ts.set x.toNat (ts.getD x.toNat 0 + 1 - 1) = ts := by
        rw [Int.add_sub_cancel, getD_at xn, List.set_getElem_self]
      rw [this]
      exact (by cases w <;> rfl)
    · rw [List.erase_cons, if_neg (by simpa using e)]
      have en : a.toNat ≠ x.toNat := by omega
      have ih : ∀ {ts : List Int}, ts.length = m → (∀ x ∈ ts, 0 ≤ x) → byc (inc ts a) w = byc ts (w.erase a) := fun h1 h2 => byc_inc h0 ha h1 (fun y hy => hw y (List.mem_cons_of_mem _ hy)) h2
      show (if 0 < (inc ts a).getD x.toNat 0 then byc ((inc ts a).set x.toNat ((inc ts a).getD x.toNat 0 - 1)) w else x :: byc (inc ts a) w) = (if 0 < ts.getD x.toNat 0 then byc (ts.set x.toNat (ts.getD x.toNat 0 - 1)) (w.erase a) else x :: byc ts (w.erase a))
      have g : (inc ts a).getD x.toNat 0 = ts.getD x.toNat 0 := by unfold inc; rw [getD_set an, if_neg en]
      rw [g]
      split
      · rename_i c
        rw [← ih (by rw [List.length_set]; exact hl) fun y hy => ?_]
        · congr 1
          unfold inc
          rw [getD_set xn, if_neg (fun z => en z.symm), List.set_comm _ _ en]
        · rcases List.mem_or_eq_of_mem_set hy with hy | rfl
          · exact h0s y hy
          · omega
      · rw [ih hl h0s]
theorem inc_ok {ts : List Int} {a : Int} (h : ∀ x ∈ ts, 0 ≤ x) : (inc ts a).length = ts.length ∧ ∀ x ∈ inc ts a, 0 ≤ x := by
  unfold inc
  refine ⟨by rw [List.length_set], fun x hx => ?_⟩
  rcases List.mem_or_eq_of_mem_set hx with hx | rfl
  · exact h x hx
  · have : 0 ≤ ts.getD a.toNat 0 := by
      rw [List.getD_eq_getElem?_getD]
      cases e : ts[a.toNat]? with
      | none => exact Int.le_refl _
      | some y => exact h y (List.mem_of_getElem? e)
    omega
theorem incs_ok : ∀ {u ts : List Int}, (∀ x ∈ ts, 0 ≤ x) → (u.foldl inc ts).length = ts.length ∧ ∀ x ∈ u.foldl inc ts, 0 ≤ x
  | [], ts, h => ⟨rfl, h⟩
  | a :: u, ts, h => by
    obtain ⟨h1, h2⟩ := inc_ok (a := a) h
    obtain ⟨h3, h4⟩ := incs_ok (u := u) h2
    exact ⟨by rw [List.foldl_cons, h3, h1], h4⟩
theorem dif_mem {x : Int} : ∀ {u w : List Int}, x ∈ dif w u → x ∈ w
  | [], w, h => h
  | a :: u, w, h => List.mem_of_mem_erase (dif_mem (u := u) h)
theorem byc_dif {m : Nat} : ∀ {u w ts : List Int}, ts.length = m → (∀ x ∈ u, 0 ≤ x ∧ x < (m : Int)) → (∀ x ∈ w, 0 ≤ x ∧ x < (m : Int)) → (∀ x ∈ ts, 0 ≤ x) → byc (u.foldl inc ts) w = byc ts (dif w u)
  | [], w, ts, _, _, _, _ => rfl
  | a :: u, w, ts, hl, hu, hw, h0 => by
    have ha := hu a List.mem_cons_self
    obtain ⟨h1, h2⟩ := inc_ok (a := a) h0
    rw [List.foldl_cons, byc_dif (by rw [h1]; exact hl) (fun x hx => hu x (List.mem_cons_of_mem _ hx)) hw h2, byc_inc ha.1 ha.2 hl (fun x hx => hw x (dif_mem hx)) h0, dif_cons, dif_erase]
theorem byc_zero {m : Nat} : ∀ {w : List Int}, byc (List.replicate m 0) w = w
  | [] => rfl
  | x :: w => by
    unfold byc
    have : (List.replicate m (0 : Int)).getD x.toNat 0 = 0 := by
      rw [List.getD_eq_getElem?_getD, List.getElem?_replicate]
      split <;> rfl
    rw [this, if_neg (by omega), byc_zero]
theorem byc_cnts {ls : Lets} {u w : List Int} (hu : WordOk ls u) (hw : WordOk ls w) : byc (cnts ls u) w = dif w u := by
  unfold cnts
  rw [byc_dif (m := ls.length) (by simp) hu hw (fun x hx => by rw [List.eq_of_mem_replicate hx]; exact Int.le_refl _), byc_zero]
theorem eb_map {w0 : List Int} : ∀ {w ts : List Int} {i : Nat}, w = w0.drop i → (ebN ts w i).map (fun j => w0.getD j 0) = byc ts w ∧ ∀ j ∈ ebN ts w i, j < w0.length
  | [], ts, i, _ => ⟨rfl, fun j hj => by cases hj⟩
  | x :: w, ts, i, h => by
    have hi : i < w0.length := by
      apply Nat.lt_of_not_le
      intro c
      rw [List.drop_of_length_le c] at h; cases h
    have e := List.drop_eq_getElem_cons hi
    rw [← h] at e
    obtain ⟨e1, e2⟩ := List.cons.inj e
    have gx : w0.getD i 0 = x := by rw [getD_at hi, e1]
    unfold ebN byc
    split
    · exact eb_map e2
    · obtain ⟨i1, i2⟩ := eb_map (ts := ts) e2
      refine ⟨by rw [List.map_cons, i1, gx], fun j hj => ?_⟩
      rcases List.mem_cons.mp hj with rfl | hj
      · exact hi
      · exact i2 j hj
theorem eb_dif {ls : Lets} {u w : List Int} (hu : WordOk ls u) (hw : WordOk ls w) : (eb ls w u).map (fun j => w.getD j 0) = dif w u ∧ ∀ j ∈ eb ls w u, j < w.length := by
  obtain ⟨h1, h2⟩ := eb_map (w0 := w) (w := w) (ts := cnts ls u) (i := 0) rfl
  exact ⟨by rw [← byc_cnts hu hw]; exact h1, h2⟩
/-- the rest, if it is a prefix -/
def preB (ls : Lets) (k : Int) (u w : List Int) : Bool := (List.range k.toNat).all fun p : Nat => decide ((at_ ls p w).take (at_ ls p u).length = at_ ls p u)
theorem preB_iff {ls : Lets} {k : Int} {u w : List Int} : preB ls k u w = true ↔ Pre ls k u w := by
  unfold preB
  rw [List.all_eq_true]
  constructor
  · intro h p h0 h1
    obtain ⟨q, rfl⟩ := Int.eq_ofNat_of_zero_le h0
    exact List.prefix_iff_eq_take.mpr (of_decide_eq_true (h q (List.mem_range.mpr (by omega)))).symm
  · intro h p hp
    have := List.mem_range.mp hp
    exact decide_eq_true (List.prefix_iff_eq_take.mp (h p (by omega) (by omega))).symm
def rst (ls : Lets) (k : Int) (u w : List Int) : Option (List Int) := if preB ls k u w = true then some (lf ls (dif w u)) else none
end My
namespace My
/-! ### crossings -/
structure Crs (k : Int) (ls : Lets) (x y u v p r s q : List Int) : Prop where
  wp : WordOk ls p
  wr : WordOk ls r
  ws : WordOk ls s
  wq : WordOk ls q
  bp : p.length ≤ x.length
  br : r.length ≤ x.length
  bs : s.length ≤ u.length
  bq : q.length ≤ y.length
  lp : lf ls p = p
  lr : lf ls r = r
  l_s : lf ls s = s
  lq : lf ls q = q
  ind : ∀ a ∈ r, ∀ b ∈ s, free ls a b = true
  ax : Alk ls k (p ++ r) x
  ay : Alk ls k (s ++ q) y
  au : Alk ls k (p ++ s) u
  av : Alk ls k (r ++ q) v
  px : Pre ls k p x
  pu : Pre ls k p u
  sy : Pre ls k s y
theorem crs_ok {k : Int} {ls : Lets} (A : AlphaOk k ls) {x y u v : List Int} (hx : WordOk ls x) (hy : WordOk ls y) (hu : WordOk ls u) (hv : WordOk ls v) (h : Alk ls k (x ++ y) (u ++ v)) :
    Crs k ls x y u v (gc ls x u) (lf ls (dif x (gc ls x u))) (lf ls (dif u (gc ls x u))) (lf ls (dif y (lf ls (dif u (gc ls x u))))) := by
  obtain ⟨r1, r2, G⟩ := gc_ok A rfl hx hu
  generalize gc ls x u = p at G
  have px : Pre ls k p x := fun c h0 h1 => ⟨_, G.a1 c h0 h1⟩
  have pu : Pre ls k p u := fun c h0 h1 => ⟨_, G.a2 c h0 h1⟩
  obtain ⟨d1, d2, d3⟩ := pre_dif A G.wf hx px
  obtain ⟨e1, e2, e3⟩ := pre_dif A G.wf hu pu
  obtain ⟨f1, f2, f3⟩ := lf_ok A d1
  obtain ⟨g1, g2, g3⟩ := lf_ok A e1
  have llr := lf_lf A d1
  have lls := lf_lf A e1
  have ar : ∀ c : Int, 0 ≤ c → c < k → at_ ls c (lf ls (dif x p)) = at_ ls c r1 := fun c h0 h1 => by
    rw [f3]
    have := (d3 c h0 h1).trans (G.a1 c h0 h1).symm
    exact List.append_cancel_left this
  have as : ∀ c : Int, 0 ≤ c → c < k → at_ ls c (lf ls (dif u p)) = at_ ls c r2 := fun c h0 h1 => by
    rw [g3]
    have := (e3 c h0 h1).trans (G.a2 c h0 h1).symm
    exact List.append_cancel_left this
  generalize lf ls (dif x p) = r at f1 f2 f3 ar llr
  generalize lf ls (dif u p) = s at g1 g2 g3 as lls
  have body : ∀ c : Int, 0 ≤ c → c < k → at_ ls c r1 ++ at_ ls c y = at_ ls c r2 ++ at_ ls c v := fun c h0 h1 => by
    have := h c h0 h1
    rw [at_append, at_append, ← G.a1 c h0 h1, ← G.a2 c h0 h1, List.append_assoc, List.append_assoc] at this
    exact List.append_cancel_left this
  have lev := levi A G.w1 G.w2 body G.no
  have sy : Pre ls k s y := fun c h0 h1 => by
    rw [as c h0 h1]
    rcases lev c h0 h1 with e | e
    · have := body c h0 h1
      rw [e, List.nil_append] at this
      rw [this]; exact List.prefix_append _ _
    · rw [e]; exact List.nil_prefix
  obtain ⟨i1, i2, i3⟩ := pre_dif A g2 hy sy
  obtain ⟨j1, j2, j3⟩ := lf_ok A i1
  refine ⟨G.wf, f2, g2, j2, G.ll, by omega, by omega, by omega, G.least, llr, lls, lf_lf A i1, fun a ha b hb => ?_, fun c h0 h1 => ?_, fun c h0 h1 => ?_, fun c h0 h1 => ?_, fun c h0 h1 => ?_, px, pu, sy⟩
  · refine disj_iff.mpr fun c h1 h2 => ?_
    obtain ⟨k0, k1⟩ := (A.pl_ok (f2 a ha)).2 c h1
    rcases lev c k0 k1 with e | e
    · rw [← ar c k0 k1] at e
      exact at_nil_iff.mp e a ha h1
    · rw [← as c k0 k1] at e
      exact at_nil_iff.mp e b hb h2
  · rw [at_append, ar c h0 h1, G.a1 c h0 h1]
  · rw [at_append, j3, i3 c h0 h1]
  · rw [at_append, as c h0 h1, G.a2 c h0 h1]
  · rw [at_append, j3]
    have h2 := i3 c h0 h1
    have h3 := body c h0 h1
    rw [as c h0 h1] at h2
    rw [ar c h0 h1]
    rcases lev c h0 h1 with e | e
    · rw [e, List.nil_append] at h3 ⊢
      rw [← h2] at h3
      exact List.append_cancel_left h3
    · rw [e, List.nil_append] at h2 h3
      rw [h2, h3]
/-- the crossing, or none -/
def crsO (ls : Lets) (k : Int) (x y u v : List Int) : Option (List (List Int)) :=
  if alike ls k (x ++ y) (u ++ v) = true then some [gc ls x u, lf ls (dif x (gc ls x u)), lf ls (dif u (gc ls x u)), lf ls (dif y (lf ls (dif u (gc ls x u))))] else none
theorem rst_pre {ls : Lets} {k : Int} {u w : List Int} (h : Pre ls k u w) : rst ls k u w = some (lf ls (dif w u)) := by unfold rst; rw [if_pos (preB_iff.mpr h)]
end My
namespace My
/-! ### cuts -/
def okc (ls : Lets) (w : List Int) (k : Nat) (c : List Int) : Bool := (List.range k).all fun j => free ls (w.getD j 0) (w.getD k 0) || decide ((j : Int) ∈ c)
def cutN (ls : Lets) (w : List Int) : Nat → List (List Int)
  | 0 => [[]]
  | k + 1 => cutN ls w k ++ ((cutN ls w k).filter (okc ls w k)).map (· ++ [(k : Int)])
def cuts (ls : Lets) (w : List Int) : List (List Int) := cutN ls w w.length
theorem cutN_len {ls : Lets} {w : List Int} : ∀ {k : Nat}, (cutN ls w k).length ≤ 2 ^ k
  | 0 => Nat.le_refl _
  | k + 1 => by
    have := cutN_len (ls := ls) (w := w) (k := k)
    have h := List.length_filter_le (okc ls w k) (cutN ls w k)
    unfold cutN
    rw [List.length_append, List.length_map, Nat.pow_succ]; omega
structure Cut (ls : Lets) (w : List Int) (k : Nat) (c : List Int) : Prop where
  up : c.Pairwise (· < ·)
  lt : ∀ x ∈ c, 0 ≤ x ∧ x < (k : Int)
  dn : ∀ x : Nat, (x : Int) ∈ c → ∀ j : Nat, j < x → free ls (w.getD j 0) (w.getD x 0) = false → (j : Int) ∈ c
theorem okc_iff {ls : Lets} {w : List Int} {k : Nat} {c : List Int} : okc ls w k c = true ↔ ∀ j, j < k → free ls (w.getD j 0) (w.getD k 0) = false → (j : Int) ∈ c := by
  unfold okc
  rw [List.all_eq_true]
  constructor
  · intro h j hj hf
    have := h j (List.mem_range.mpr hj)
    rw [hf, Bool.false_or, decide_eq_true_iff] at this
    exact this
  · intro h j hj
    cases e : free ls (w.getD j 0) (w.getD k 0) with
    | true => rfl
    | false => rw [Bool.false_or, decide_eq_true_iff]; exact h j (List.mem_range.mp hj) e
theorem cut_iff {ls : Lets} {w : List Int} : ∀ {k : Nat} {c : List Int}, c ∈ cutN ls w k ↔ Cut ls w k c
  | 0, c => by
    constructor
    · intro h
      have : c = [] := by simpa [cutN] using h
      subst this
      exact ⟨.nil, fun x hx => (by cases hx), fun x hx => (by cases hx)⟩
    · intro h
      cases c with
      | nil => simp [cutN]
      | cons x c => have := h.lt x List.mem_cons_self; omega
  | k + 1, c => by
    unfold cutN
    rw [List.mem_append, cut_iff, List.mem_map]
    constructor
    · rintro (h | ⟨d, hd, rfl⟩)
      · exact ⟨h.up, fun x hx => by have := h.lt x hx; omega, h.dn⟩
      · obtain ⟨h1, h2⟩ := List.mem_filter.mp hd
        have h1 := cut_iff.mp h1
        have h2 := okc_iff.mp h2
        refine ⟨List.pairwise_append.mpr ⟨h1.up, by simp, fun x hx y hy => ?_⟩, fun x hx => ?_, fun x hx j hj hf => ?_⟩
        · rw [List.mem_singleton.mp hy]; exact (h1.lt x hx).2
        · rcases List.mem_append.mp hx with hx | hx
          · have := h1.lt x hx; omega
          · rw [List.mem_singleton.mp hx]; omega
        · rcases List.mem_append.mp hx with hx | hx
          · exact List.mem_append_left _ (h1.dn x hx j hj hf)
          · have e := List.mem_singleton.mp hx
            have : x = k := by omega
            subst this
            exact List.mem_append_left _ (h2 j hj hf)
    · intro h
      by_cases hk : (k : Int) ∈ c
      · right
        obtain ⟨s, t, e⟩ := List.append_of_mem hk
        have ht : t = [] := by
          cases t with
          | nil => rfl
          | cons y t =>
            have hy := h.lt y (by rw [e]; simp)
            have hp := h.up
            rw [e] at hp
            have := (List.pairwise_cons.mp (List.pairwise_append.mp hp).2.1).1 y List.mem_cons_self
            omega
        subst ht
        have hs : ∀ x ∈ s, x < (k : Int) := fun x hx => by
          have hp := h.up
          rw [e] at hp
          exact (List.pairwise_append.mp hp).2.2 x hx _ List.mem_cons_self
        refine ⟨s, List.mem_filter.mpr ⟨cut_iff.mpr ⟨?_, fun x hx => ?_, fun x hx j hj hf => ?_⟩, okc_iff.mpr fun j hj hf => ?_⟩, e.symm⟩
        · have hp := h.up
          rw [e] at hp
          exact (List.pairwise_append.mp hp).1
        · exact ⟨(h.lt x (by rw [e]; exact List.mem_append_left _ hx)).1, hs x hx⟩
        · have := h.dn x (by rw [e]; exact List.mem_append_left _ hx) j hj hf
          rw [e] at this
          rcases List.mem_append.mp this with z | z
          · exact z
          · have := List.mem_singleton.mp z
            have := hs _ hx
            omega
        · have := h.dn k hk j hj hf
          rw [e] at this
          rcases List.mem_append.mp this with z | z
          · exact z
          · have := List.mem_singleton.mp z; omega
      · left
        exact ⟨h.up, fun x hx => by
          have := h.lt x hx
          have : x ≠ (k : Int) := fun z => hk (z ▸ hx)
          omega, h.dn⟩
/-- the letters of some events -/
def part (w c : List Int) : List Int := c.map fun x => w.getD x.toNat 0
/-- events by a test -/
theorem up_filter {c : List Int} {n : Nat} (hu : c.Pairwise (· < ·)) (hl : ∀ x ∈ c, 0 ≤ x ∧ x < (n : Int)) : c = ((List.range n).filter fun e : Nat => decide ((e : Int) ∈ c)).map fun e : Nat => (e : Int) := by
  have p2 : (((List.range n).filter fun e : Nat => decide ((e : Int) ∈ c)).map fun e : Nat => (e : Int)).Pairwise (· < ·) := by
    rw [List.pairwise_map]
    exact (List.pairwise_lt_range.sublist List.filter_sublist).imp fun h => by omega
  have mem : ∀ x, x ∈ c ↔ x ∈ (((List.range n).filter fun e : Nat => decide ((e : Int) ∈ c)).map fun e : Nat => (e : Int)) := fun x => by
    rw [List.mem_map]
    constructor
    · intro hx
      obtain ⟨h0, h1⟩ := hl x hx
      obtain ⟨e, rfl⟩ := Int.eq_ofNat_of_zero_le h0
      exact ⟨e, List.mem_filter.mpr ⟨List.mem_range.mpr (by omega), decide_eq_true hx⟩, rfl⟩
    · rintro ⟨e, he, rfl⟩
      exact of_decide_eq_true (List.mem_filter.mp he).2
  have nd1 : c.Nodup := hu.imp fun h => by omega
  have nd2 := p2.imp (S := fun a b => a ≠ b) fun h => by omega
  have le : ∀ {l : List Int}, l.Pairwise (· < ·) → l.Pairwise (· ≤ ·) := fun h => h.imp fun h => by omega
  exact sorted_unique ((List.perm_ext_iff_of_nodup nd1 nd2).mpr mem) (le hu) (le p2)
theorem filter_prefix {α : Type} {f : α → Bool} : ∀ {l : List α}, l.Pairwise (fun a b => f b = true → f a = true) → l.filter f <+: l
  | [], _ => List.nil_prefix
  | a :: l, h => by
    obtain ⟨h1, h2⟩ := List.pairwise_cons.mp h
    rw [List.filter_cons]
    split
    · exact List.cons_prefix_cons.mpr ⟨rfl, filter_prefix h2⟩
    · rename_i c
      rw [List.filter_eq_nil_iff.mpr fun b hb z => c (h1 b hb z)]
      exact List.nil_prefix
theorem at_range {ls : Lets} {p : Int} {w : List Int} : ∀ {n : Nat}, n ≤ w.length → at_ ls p (w.take n) = ((List.range n).filter fun e : Nat => decide (p ∈ pl ls (w.getD e 0))).map fun e : Nat => w.getD e 0
  | 0, _ => rfl
  | n + 1, h => by
    have hn : n < w.length := by omega
    rw [List.take_add_one, List.getElem?_eq_getElem hn, at_append, at_range (by omega), List.range_succ, List.filter_append, List.map_append]
    congr 1
    show at_ ls p [w[n]] = _
    rw [← getD_at hn]
    by_cases e : p ∈ pl ls (w.getD n 0)
    · rw [at_cons_in e, List.filter_cons, if_pos (by simpa using e)]; rfl
    · rw [at_cons_out e, List.filter_cons, if_neg (by simpa using e)]; rfl
theorem part_filter {w : List Int} {n : Nat} {f : Nat → Bool} : part w (((List.range n).filter f).map fun e : Nat => (e : Int)) = ((List.range n).filter f).map fun e => w.getD e 0 := by
  unfold part
  rw [List.map_map]
  exact List.map_congr_left fun e _ => by simp
theorem at_part {ls : Lets} {p : Int} {w : List Int} {n : Nat} {f : Nat → Bool} : at_ ls p (((List.range n).filter f).map fun e => w.getD e 0) = ((List.range n).filter fun e : Nat => f e && decide (p ∈ pl ls (w.getD e 0))).map fun e : Nat => w.getD e 0 := by
  unfold at_
  rw [List.filter_map, List.filter_filter]
  congr 1
  apply List.filter_congr
  intro e _
  simp [Bool.and_comm]
theorem part_wok {ls : Lets} {w c : List Int} (hw : WordOk ls w) (hl : ∀ x ∈ c, 0 ≤ x ∧ x < (w.length : Int)) : WordOk ls (part w c) := fun y hy => by
  unfold part at hy
  obtain ⟨x, hx, rfl⟩ := List.mem_map.mp hy
  have := hl x hx
  exact hw _ (by rw [getD_at (by omega : x.toNat < w.length)]; exact List.getElem_mem _)
theorem cut_pre {k : Int} {ls : Lets} {w c : List Int} (h : Cut ls w w.length c) : Pre ls k (part w c) w := fun p _ _ => by
  have ec := up_filter h.up h.lt
  have e1 : at_ ls p (part w c) = ((List.range w.length).filter fun e : Nat => decide ((e : Int) ∈ c) && decide (p ∈ pl ls (w.getD e 0))).map fun e : Nat => w.getD e 0 := by
    conv => lhs; rw [ec]
    rw [part_filter, at_part]
  have e2 := at_range (ls := ls) (p := p) (w := w) (n := w.length) (Nat.le_refl _)
  rw [List.take_length] at e2
  rw [e1, e2]
  have e3 : ((List.range w.length).filter fun e : Nat => decide ((e : Int) ∈ c) && decide (p ∈ pl ls (w.getD e 0))) = (((List.range w.length).filter fun e : Nat => decide (p ∈ pl ls (w.getD e 0))).filter fun e : Nat => decide ((e : Int) ∈ c)) := by
    rw [List.filter_filter]
  rw [e3]
  refine List.IsPrefix.map _ (filter_prefix ?_)
  have base : ((List.range w.length).filter fun e : Nat => decide (p ∈ pl ls (w.getD e 0))).Pairwise (· < ·) := List.pairwise_lt_range.sublist List.filter_sublist
  refine base.imp_of_mem fun {a b} ha hb hlt hm => ?_
  have pa : p ∈ pl ls (w.getD a 0) := of_decide_eq_true (List.mem_filter.mp ha).2
  have pb : p ∈ pl ls (w.getD b 0) := of_decide_eq_true (List.mem_filter.mp hb).2
  exact decide_eq_true (h.dn b (of_decide_eq_true hm) a hlt (not_disj.mpr ⟨p, pa, pb⟩))
/-! the cut of a prefix -/
def tkn (u w : List Int) (e : Nat) : Bool := decide ((w.take e).count (w.getD e 0) < u.count (w.getD e 0))
theorem at_count {ls : Lets} {p a : Int} {w : List Int} (h : p ∈ pl ls a) : (at_ ls p w).count a = w.count a := by
  unfold at_
  rw [List.count_filter (by simpa using h)]
theorem take_succ_at {ls : Lets} {p : Int} {w : List Int} {e : Nat} (h : e < w.length) (hp : p ∈ pl ls (w.getD e 0)) : at_ ls p (w.take (e + 1)) = at_ ls p (w.take e) ++ [w.getD e 0] := by
  rw [List.take_add_one, List.getElem?_eq_getElem h, at_append, ← getD_at h]
  show _ ++ at_ ls p [w.getD e 0] = _
  rw [at_cons_in hp]; rfl
theorem at_take_pre {ls : Lets} {p : Int} {w : List Int} {n : Nat} : at_ ls p (w.take n) <+: at_ ls p w := by
  conv => rhs; rw [← List.take_append_drop n w, at_append]
  exact List.prefix_append _ _
theorem tkn_iff {ls : Lets} {p : Int} {u w : List Int} (hp : at_ ls p u <+: at_ ls p w) {e : Nat} (h : e < w.length) (hm : p ∈ pl ls (w.getD e 0)) : tkn u w e = true ↔ (at_ ls p (w.take e)).length < (at_ ls p u).length := by
  unfold tkn
  rw [decide_eq_true_iff, ← at_count hm, ← at_count (w := u) hm]
  constructor
  · intro hc
    apply Nat.lt_of_not_le
    intro hle
    have := List.prefix_of_prefix_length_le hp at_take_pre hle
    have := this.sublist.count_le (w.getD e 0)
    omega
  · intro hl
    have q := List.prefix_of_prefix_length_le (at_take_pre (ls := ls) (p := p) (w := w) (n := e + 1)) hp (by rw [take_succ_at h hm, List.length_append]; simp only [List.length_singleton]; omega)
    rw [take_succ_at h hm] at q
    have := q.sublist.count_le (w.getD e 0)
    rw [List.count_append] at this
    simp at this
    simp
    omega
theorem take_len_mono {ls : Lets} {p : Int} {w : List Int} {i j : Nat} (h : i ≤ j) : (at_ ls p (w.take i)).length ≤ (at_ ls p (w.take j)).length := by
  have : w.take i = (w.take j).take i := by rw [List.take_take, Nat.min_eq_left h]
  rw [this]
  exact (at_take_pre (w := w.take j)).length_le
theorem pre_cut {k : Int} {ls : Lets} (A : AlphaOk k ls) {u w : List Int} (hu : WordOk ls u) (hw : WordOk ls w) (h : Pre ls k u w) : ∃ c, Cut ls w w.length c ∧ c.length = u.length ∧ Alk ls k (part w c) u := by
  have hlt : ∀ x ∈ ((List.range w.length).filter (tkn u w)).map (fun e : Nat => (e : Int)), 0 ≤ x ∧ x < (w.length : Int) := fun x hx => by
    obtain ⟨e, he, rfl⟩ := List.mem_map.mp hx
    have := List.mem_range.mp (List.mem_filter.mp he).1
    omega
  have mem : ∀ e : Nat, (e : Int) ∈ ((List.range w.length).filter (tkn u w)).map (fun e : Nat => (e : Int)) ↔ e < w.length ∧ tkn u w e = true := fun e => by
    rw [List.mem_map]
    constructor
    · rintro ⟨f, hf, z⟩
      have : f = e := by omega
      subst this
      obtain ⟨h1, h2⟩ := List.mem_filter.mp hf
      exact ⟨List.mem_range.mp h1, h2⟩
    · rintro ⟨h1, h2⟩
      exact ⟨e, List.mem_filter.mpr ⟨List.mem_range.mpr h1, h2⟩, rfl⟩
  have wd : ∀ e, e < w.length → 0 ≤ w.getD e 0 ∧ w.getD e 0 < (ls.length : Int) := fun e he => hw _ (by rw [getD_at he]; exact List.getElem_mem he)
  have ak : Alk ls k (part w (((List.range w.length).filter (tkn u w)).map fun e : Nat => (e : Int))) u := fun p h0 h1 => by
    have hp := h p h0 h1
    rw [part_filter, at_part]
    have key : ∀ n, n ≤ w.length → (((List.range n).filter fun e : Nat => tkn u w e && decide (p ∈ pl ls (w.getD e 0))).map fun e : Nat => w.getD e 0) = (at_ ls p (w.take n)).take (at_ ls p u).length := by
      intro n
      induction n with
      | zero => intro _; simp [at_]
      | succ n ih =>
        intro hn
        have hlt : n < w.length := by omega
        rw [List.range_succ, List.filter_append, List.map_append, ih (by omega)]
        have one : (List.filter (fun e : Nat => tkn u w e && decide (p ∈ pl ls (w.getD e 0))) [n]) = if (tkn u w n && decide (p ∈ pl ls (w.getD n 0))) = true then [n] else [] := by rw [List.filter_cons]; rfl
        rw [one]
        by_cases hm : p ∈ pl ls (w.getD n 0)
        · rw [take_succ_at hlt hm, decide_eq_true hm, Bool.and_true]
          have ti := tkn_iff hp hlt hm
          cases z : tkn u w n with
          | true =>
            have hl := ti.mp z
            rw [if_pos rfl, List.take_of_length_le (l := at_ ls p (w.take n)) (by omega), List.take_of_length_le (l := at_ ls p (w.take n) ++ [w.getD n 0]) (by rw [List.length_append]; simp only [List.length_singleton]; omega)]
            rfl
          | false =>
            have hl : ¬ (at_ ls p (w.take n)).length < (at_ ls p u).length := fun c => by rw [ti.mpr c] at z; cases z
            rw [if_neg (by simp), List.take_append_of_le_length (by omega)]
            simp
        · have : at_ ls p (w.take (n + 1)) = at_ ls p (w.take n) := by
            rw [List.take_add_one, List.getElem?_eq_getElem hlt, at_append, ← getD_at hlt]
            show _ ++ at_ ls p [w.getD n 0] = _
            rw [at_cons_out hm]; simp [at_]
          rw [this, decide_eq_false hm, Bool.and_false, if_neg (by simp)]
          simp
    rw [key _ (Nat.le_refl _), List.take_length]
    exact (List.prefix_iff_eq_take.mp hp).symm
  refine ⟨((List.range w.length).filter (tkn u w)).map fun e : Nat => (e : Int), ⟨?_, hlt, fun x hx j hj hf => ?_⟩, ?_, ak⟩
  · rw [List.pairwise_map]
    exact (List.pairwise_lt_range.sublist List.filter_sublist).imp fun h => by omega
  · obtain ⟨hx1, hx2⟩ := (mem x).mp hx
    obtain ⟨p, hpj, hpx⟩ := not_disj.mp hf
    obtain ⟨h0, h1⟩ := (A.pl_ok (wd j (by omega))).2 p hpj
    have t1 := (tkn_iff (h p h0 h1) hx1 hpx).mp hx2
    have := take_len_mono (ls := ls) (p := p) (w := w) (Nat.le_of_lt hj)
    exact (mem j).mpr ⟨by omega, (tkn_iff (h p h0 h1) (by omega) hpj).mpr (by omega)⟩
  · have := ak.len A (part_wok hw hlt) hu
    unfold part at this
    rw [List.length_map] at this
    exact this.symm
/-- some cut is alike -/
theorem cuts_pre {k : Int} {ls : Lets} (A : AlphaOk k ls) {u w : List Int} (hu : WordOk ls u) (hw : WordOk ls w) : ((cuts ls w).any fun c => decide (c.length = u.length) && alike ls k (part w c) u) = preB ls k u w := by
  rw [Bool.eq_iff_iff, List.any_eq_true, preB_iff]
  constructor
  · rintro ⟨c, hc, h⟩
    rw [Bool.and_eq_true] at h
    have C := cut_iff.mp hc
    have := cut_pre (k := k) C
    intro p h0 h1
    rw [← alike_iff.mp h.2 p h0 h1]
    exact this p h0 h1
  · intro h
    obtain ⟨c, h1, h2, h3⟩ := pre_cut A hu hw h
    exact ⟨c, cut_iff.mpr h1, by rw [decide_eq_true h2, alike_iff.mpr h3]; rfl⟩
/-! the greatest common prefix is the greatest -/
theorem gc_great {k : Int} {ls : Lets} (A : AlphaOk k ls) {u v w : List Int} (hu : WordOk ls u) (hv : WordOk ls v) (hw : WordOk ls w) (h1 : Pre ls k w u) (h2 : Pre ls k w v) : Pre ls k w (gc ls u v) := by
  obtain ⟨r1, r2, G⟩ := gc_ok A rfl hu hv
  generalize gc ls u v = p at G
  obtain ⟨w1, p1, C⟩ := gc_ok A rfl hw G.wf
  generalize gc ls w p = g at C
  obtain ⟨_, _, d3⟩ := pre_dif A hw hu h1
  obtain ⟨_, _, e3⟩ := pre_dif A hw hv h2
  have b1 : ∀ c : Int, 0 ≤ c → c < k → at_ ls c w1 ++ at_ ls c (dif u w) = at_ ls c p1 ++ at_ ls c r1 := fun c h0 h1 => by
    have z := (d3 c h0 h1).trans (G.a1 c h0 h1).symm
    rw [← C.a1 c h0 h1, ← C.a2 c h0 h1, List.append_assoc, List.append_assoc] at z
    exact List.append_cancel_left z
  have b2 : ∀ c : Int, 0 ≤ c → c < k → at_ ls c w1 ++ at_ ls c (dif v w) = at_ ls c p1 ++ at_ ls c r2 := fun c h0 h1 => by
    have z := (e3 c h0 h1).trans (G.a2 c h0 h1).symm
    rw [← C.a1 c h0 h1, ← C.a2 c h0 h1, List.append_assoc, List.append_assoc] at z
    exact List.append_cancel_left z
  have lev := levi A C.w1 C.w2 b1 C.no
  have q1 : Pre ls k w1 r1 := fun c h0 h1 => by
    rcases lev c h0 h1 with e | e
    · rw [e]; exact List.nil_prefix
    · have z := b1 c h0 h1
      rw [e, List.nil_append] at z
      exact ⟨_, z⟩
  have q2 : Pre ls k w1 r2 := fun c h0 h1 => by
    rcases lev c h0 h1 with e | e
    · rw [e]; exact List.nil_prefix
    · have z := b2 c h0 h1
      rw [e, List.nil_append] at z
      exact ⟨_, z⟩
  have w0 : w1 = [] := by
    cases w1 with
    | nil => rfl
    | cons a t =>
      have ha := C.w1 a List.mem_cons_self
      obtain ⟨c, rfl⟩ := Int.eq_ofNat_of_zero_le ha.1
      exact (nxtB_none G.no (by omega) (q1.rdy A ha rdy_first) (q2.rdy A ha rdy_first)).elim
  subst w0
  intro c h0 h1
  have z1 := C.a1 c h0 h1
  rw [show at_ ls c [] = [] from rfl, List.append_nil] at z1
  rw [← z1, ← C.a2 c h0 h1]
  exact List.prefix_append _ _
theorem Pre.len {k : Int} {ls : Lets} (A : AlphaOk k ls) {u w : List Int} (hu : WordOk ls u) (hw : WordOk ls w) (h : Pre ls k u w) : u.length ≤ w.length := by
  have := (pre_dif A hu hw h).2.1
  omega
end My
namespace My
/-! ### lines of places, heads, least cuts -/
def lineQ (ls : Lets) (wd : List Int) (p : Int) : List Int := ((List.range wd.length).filter fun e : Nat => decide (p ∈ pl ls (wd.getD e 0))).map fun e : Nat => (e : Int)
def linesQ (ls : Lets) (k : Int) (wd : List Int) : List (List Int) := (List.range k.toNat).map fun p : Nat => lineQ ls wd p
theorem zipIdx_range {wd : List Int} : wd.zipIdx = (List.range wd.length).map fun e => (wd.getD e 0, e) := by
  apply List.ext_getElem
  · simp
  · intro i h1 h2
    have hi : i < wd.length := by simpa using h1
    rw [List.getElem_zipIdx, List.getElem_map, List.getElem_range, getD_at hi, Nat.zero_add]
theorem line_zip {ls : Lets} {wd : List Int} {p : Int} {α : Type} {g : Int → α} : (wd.zipIdx.filter fun z => decide (p ∈ pl ls z.1)).map (fun z => g (z.2 : Int)) = (lineQ ls wd p).map g := by
  unfold lineQ
  rw [zipIdx_range, List.filter_map, List.map_map, List.map_map]; rfl
def unm (cs : List (List Int)) (l : List Int) : Int := match (List.range l.length).find? fun p => !decide (l.getD p 0 ∈ cs.getD p []) with
  | some p => (p : Int)
  | none => -1
theorem unm_at {cs : List (List Int)} {l : List Int} {p : Nat} (hp : p < l.length) (h : l.getD p 0 ∉ cs.getD p []) (hb : ∀ q, q < p → l.getD q 0 ∈ cs.getD q []) : unm cs l = p := by
  have e : (List.range l.length).find? (fun p => !decide (l.getD p 0 ∈ cs.getD p [])) = some p := by
    rw [List.find?_range_eq_some]
    refine ⟨by rw [decide_eq_false h]; rfl, List.mem_range.mpr hp, fun q hq => by rw [decide_eq_true (hb q hq)]; rfl⟩
  unfold unm
  rw [e]
theorem unm_no {cs : List (List Int)} {l : List Int} (hb : ∀ q, q < l.length → l.getD q 0 ∈ cs.getD q []) : unm cs l = -1 := by
  have e : (List.range l.length).find? (fun p => !decide (l.getD p 0 ∈ cs.getD p [])) = none := by
    rw [List.find?_eq_none]
    intro q hq
    rw [decide_eq_true (hb q (List.mem_range.mp hq))]; simp
  unfold unm
  rw [e]
theorem unm_cases (cs : List (List Int)) (l : List Int) : (unm cs l = -1 ∧ ∀ q, q < l.length → l.getD q 0 ∈ cs.getD q []) ∨ ∃ p, p < l.length ∧ unm cs l = (p : Int) ∧ l.getD p 0 ∉ cs.getD p [] := by
  cases e : (List.range l.length).find? fun p => !decide (l.getD p 0 ∈ cs.getD p []) with
  | none =>
    refine .inl ⟨by unfold unm; rw [e], fun q hq => ?_⟩
    have := List.find?_eq_none.mp e q (List.mem_range.mpr hq)
    simpa using this
  | some p =>
    obtain ⟨h1, h2, _⟩ := List.find?_range_eq_some.mp e
    exact .inr ⟨p, List.mem_range.mp h2, by unfold unm; rw [e], by simpa using h1⟩
def lastQ (ls : Lets) (wd : List Int) (p : Int) (c : List Int) : Int := c.foldl (fun last x => if p ∈ pl ls (wd.getD x.toNat 0) then wd.getD x.toNat 0 else last) (-1)
def hld (ls : Lets) (k : Int) (wd c : List Int) (cs : List (List Int)) : Bool := (List.range k.toNat).all fun p : Nat => decide (lastQ ls wd p c ∈ cs.getD p [])
theorem lastQ_step {ls : Lets} {wd c : List Int} {p : Int} {i : Nat} {x : Int} (h : c[i]? = some x) : lastQ ls wd p (c.take (i + 1)) = if p ∈ pl ls (wd.getD x.toNat 0) then wd.getD x.toNat 0 else lastQ ls wd p (c.take i) := by
  unfold lastQ
  rw [List.take_add_one, h, Option.toList_some, List.foldl_append]; rfl
theorem hld_iff {ls : Lets} {k : Int} {wd c : List Int} {cs : List (List Int)} : hld ls k wd c cs = true ↔ ∀ q : Nat, q < k.toNat → lastQ ls wd q c ∈ cs.getD q [] := by
  unfold hld
  rw [List.all_eq_true]
  exact ⟨fun h q hq => by simpa using h q (List.mem_range.mpr hq), fun h q hq => by simpa using h q (List.mem_range.mp hq)⟩
def lastsQ (ls : Lets) (k : Int) (wd c : List Int) : List Int := (List.range k.toNat).map fun p : Nat => lastQ ls wd p c
theorem lastsQ_get {ls : Lets} {k : Int} {wd c : List Int} {p : Nat} (h : p < k.toNat) : (lastsQ ls k wd c).getD p 0 = lastQ ls wd p c := by
  unfold lastsQ
  rw [List.getD_eq_getElem?_getD, List.getElem?_map, List.getElem?_range h]; rfl
theorem lastsQ_len {ls : Lets} {k : Int} {wd c : List Int} : (lastsQ ls k wd c).length = k.toNat := by unfold lastsQ; rw [List.length_map, List.length_range]
theorem unm_hld {ls : Lets} {k : Int} {wd c : List Int} {cs : List (List Int)} : decide (unm cs (lastsQ ls k wd c) < 0) = hld ls k wd c cs := by
  rw [Bool.eq_iff_iff, decide_eq_true_iff, hld_iff]
  rcases unm_cases cs (lastsQ ls k wd c) with ⟨h, g⟩ | ⟨p, hp, h, g⟩
  · rw [lastsQ_len] at g
    exact ⟨fun _ q hq => by rw [← lastsQ_get hq]; exact g q hq, fun _ => by omega⟩
  · rw [lastsQ_len] at hp
    rw [lastsQ_get hp] at g
    exact ⟨fun c => by omega, fun c => absurd (c p hp) g⟩
def lineB (ev : List Int) (complete : Bool) : List Int → Bool
  | [] => true
  | e :: l => if decide (e ∈ ev) && !complete then false else lineB ev (decide (e ∈ ev)) l
theorem lineB_cons {ev l : List Int} {b : Bool} {e : Int} : lineB ev b (e :: l) = if (decide (e ∈ ev) && !b) = true then false else lineB ev (decide (e ∈ ev)) l := rfl
theorem lineB_iff {ev : List Int} : ∀ {l : List Int}, (lineB ev true l = true ↔ l.Pairwise (fun a c => c ∈ ev → a ∈ ev)) ∧ (lineB ev false l = true ↔ ∀ e ∈ l, e ∉ ev)
  | [] => ⟨⟨fun _ => .nil, fun _ => rfl⟩, ⟨fun _ e h => (by cases h), fun _ => rfl⟩⟩
  | e :: l => by
    obtain ⟨h1, h2⟩ := lineB_iff (ev := ev) (l := l)
    rw [lineB_cons, lineB_cons, List.pairwise_cons]
    by_cases he : e ∈ ev
    · simp only [decide_eq_true he, Bool.not_true, Bool.and_false, Bool.not_false, Bool.and_true, if_true, Bool.false_eq_true, if_false]
      refine ⟨h1.trans ⟨fun h => ⟨fun _ _ _ => he, h⟩, fun h => h.2⟩, ⟨fun h => (by cases h), fun h => absurd he (h e List.mem_cons_self)⟩⟩
    · simp only [decide_eq_false he, Bool.false_and, Bool.false_eq_true, if_false]
      refine ⟨h2.trans ⟨fun h => ⟨fun c hc hm => absurd hm (h c hc), ?_⟩, fun h c hc hm => he (h.1 c hc hm)⟩, h2.trans ⟨fun h x hx => ?_, fun h x hx => h x (List.mem_cons_of_mem _ hx)⟩⟩
      · exact List.pairwise_of_forall_mem_list fun a _ c hc hm => absurd hm (h c hc)
      · rcases List.mem_cons.mp hx with e1 | hx
        · rw [e1]; exact he
        · exact h x hx
def icB (ls : Lets) (k : Int) (wd ev : List Int) : Bool := (ev.all fun e => decide (0 ≤ e ∧ e < (wd.length : Int))) && ((linesQ ls k wd).all fun l => lineB ev true l)
theorem line_pair {ls : Lets} {wd : List Int} {p : Int} {R : Int → Int → Prop} : (lineQ ls wd p).Pairwise R ↔ ∀ j x : Nat, j < x → x < wd.length → p ∈ pl ls (wd.getD j 0) → p ∈ pl ls (wd.getD x 0) → R j x := by
  unfold lineQ
  rw [List.pairwise_map, List.pairwise_filter, List.pairwise_iff_getElem]
  constructor
  · intro h j x hjx hx hj hx2
    have := h j x (by rw [List.length_range]; omega) (by rw [List.length_range]; omega) hjx
    rw [List.getElem_range, List.getElem_range] at this
    exact this (decide_eq_true hj) (decide_eq_true hx2)
  · intro h i j hi hj hij
    rw [List.length_range] at hi hj
    rw [List.getElem_range, List.getElem_range]
    exact fun a b => h i j hij hj (of_decide_eq_true a) (of_decide_eq_true b)
theorem icB_cut {ls : Lets} {k : Int} (A : AlphaOk k ls) {wd ev ev' : List Int} (hw : WordOk ls wd) (up : ev.Pairwise (· < ·)) (same : ∀ x, x ∈ ev' ↔ x ∈ ev) : icB ls k wd ev' = decide (ev ∈ cuts ls wd) := by
  rw [Bool.eq_iff_iff, decide_eq_true_iff]
  unfold icB cuts
  rw [cut_iff, Bool.and_eq_true, List.all_eq_true, List.all_eq_true]
  have pp : (∀ l ∈ linesQ ls k wd, lineB ev' true l = true) ↔ ∀ x j : Nat, j < x → x < wd.length → free ls (wd.getD j 0) (wd.getD x 0) = false → (x : Int) ∈ ev → (j : Int) ∈ ev := by
    constructor
    · intro h x j hjx hx hf hm
      obtain ⟨p, hp1, hp2⟩ := not_disj.mp hf
      have hX := hw (wd.getD x 0) (by rw [getD_at hx]; exact List.getElem_mem _)
      obtain ⟨p0, p1⟩ := (A.pl_ok hX).2 p hp2
      have hl : lineQ ls wd p ∈ linesQ ls k wd := List.mem_map.mpr ⟨p.toNat, List.mem_range.mpr (by omega), by rw [Int.toNat_of_nonneg p0]⟩
      have := line_pair.mp (lineB_iff.1.mp (h _ hl)) j x hjx hx hp1 hp2
      exact (same _).mp (this ((same _).mpr hm))
    · intro h l hl
      obtain ⟨p, _, rfl⟩ := List.mem_map.mp hl
      refine lineB_iff.1.mpr (line_pair.mpr fun j x hjx hx h1 h2 hm => (same _).mpr (h x j hjx hx (not_disj.mpr ⟨_, h1, h2⟩) ((same _).mp hm)))
  rw [pp]
  constructor
  · rintro ⟨h1, h2⟩
    have lt : ∀ x ∈ ev, 0 ≤ x ∧ x < (wd.length : Int) := fun x hx => by simpa using h1 x ((same x).mpr hx)
    exact ⟨up, lt, fun x hx j hj hf => h2 x j hj (by have := lt _ hx; omega) hf hx⟩
  · intro C
    exact ⟨fun x hx => by simpa using C.lt x ((same x).mp hx), fun x j hj hx hf hm => C.dn x hm j hj hf⟩
/-! heads of a cut -/
def lastL (qs : List (List Int)) (hs : List Int) : List Int := (qs.zip hs).map fun z => if z.2 > 0 then z.1.getD (z.2 - 1).toNat 0 else -1
theorem line_mem {ls : Lets} {wd : List Int} {p x : Int} : x ∈ lineQ ls wd p ↔ ∃ e : Nat, x = (e : Int) ∧ e < wd.length ∧ p ∈ pl ls (wd.getD e 0) := by
  unfold lineQ
  rw [List.mem_map]
  constructor
  · rintro ⟨e, he, rfl⟩
    obtain ⟨h1, h2⟩ := List.mem_filter.mp he
    exact ⟨e, rfl, List.mem_range.mp h1, of_decide_eq_true h2⟩
  · rintro ⟨e, rfl, h1, h2⟩
    exact ⟨e, List.mem_filter.mpr ⟨List.mem_range.mpr h1, decide_eq_true h2⟩, rfl⟩
theorem line_up {ls : Lets} {wd : List Int} {p : Int} : (lineQ ls wd p).Pairwise (· < ·) := line_pair.mpr fun j x h _ _ _ => by omega
theorem up_mem_take {l : List Int} (h : l.Pairwise (· < ·)) {n : Nat} (hn : n < l.length) {x : Int} (hx : x ∈ l) : x ∈ l.take n ↔ x < l.getD n 0 := by
  rw [← List.take_append_drop n l] at h hx
  have hd : l.drop n = l.getD n 0 :: l.drop (n + 1) := by rw [List.drop_eq_getElem_cons hn, getD_at hn]
  obtain ⟨_, h2, h3⟩ := List.pairwise_append.mp h
  constructor
  · intro hm
    exact h3 x hm _ (by rw [hd]; exact List.mem_cons_self)
  · intro hlt
    rcases List.mem_append.mp hx with hx | hx
    · exact hx
    · rw [hd] at hx h2
      rcases List.mem_cons.mp hx with e | hx
      · omega
      · have := (List.pairwise_cons.mp h2).1 x hx
        omega
theorem nat_filter_take {l : List Int} {f : Int → Bool} (h : l.Pairwise fun a c => f c = true → f a = true) : l.filter f = l.take (l.filter f).length := List.prefix_iff_eq_take.mp (filter_prefix h)
/-- how many events of a cut are on a line -/
def hdQ (ls : Lets) (wd c : List Int) (p : Int) : Nat := ((lineQ ls wd p).filter fun e => decide (e ∈ c)).length
def hdsQ (ls : Lets) (k : Int) (wd c : List Int) : List Int := (List.range k.toNat).map fun p : Nat => (hdQ ls wd c p : Int)
theorem hdsQ_len {ls : Lets} {k : Int} {wd c : List Int} : (hdsQ ls k wd c).length = k.toNat := by unfold hdsQ; rw [List.length_map, List.length_range]
theorem hdsQ_get {ls : Lets} {k : Int} {wd c : List Int} {p : Nat} (h : p < k.toNat) : (hdsQ ls k wd c).getD p 0 = (hdQ ls wd c p : Int) := by
  unfold hdsQ
  rw [List.getD_eq_getElem?_getD, List.getElem?_map, List.getElem?_range h]; rfl
theorem linesQ_get {ls : Lets} {k : Int} {wd : List Int} {p : Nat} (h : p < k.toNat) : (linesQ ls k wd).getD p [] = lineQ ls wd p := by
  unfold linesQ
  rw [List.getD_eq_getElem?_getD, List.getElem?_map, List.getElem?_range h]; rfl
theorem hdQ_le {ls : Lets} {wd c : List Int} {p : Int} : hdQ ls wd c p ≤ (lineQ ls wd p).length := List.length_filter_le _ _
theorem cut_line {ls : Lets} {wd c : List Int} (C : Cut ls wd wd.length c) {p : Int} : (lineQ ls wd p).filter (fun e => decide (e ∈ c)) = (lineQ ls wd p).take (hdQ ls wd c p) :=
  nat_filter_take (line_pair.mpr fun j x hjx hx h1 h2 hm => decide_eq_true (C.dn x (of_decide_eq_true hm) j hjx (not_disj.mpr ⟨p, h1, h2⟩)))
/-- what the heads hs take -/
def tkn2 (ls : Lets) (wd hs : List Int) (p : Nat) : List Int := (lineQ ls wd p).take (hs.getD p 0).toNat
def Full (ls : Lets) (wd hs : List Int) (e : Int) : Prop := ∀ q : Nat, (q : Int) ∈ pl ls (wd.getD e.toNat 0) → e ∈ tkn2 ls wd hs q
structure Tb (ls : Lets) (k : Int) (wd c : List Int) (ev : Int) (hs ws : List Int) (cur : List Int) : Prop where
  len : hs.length = k.toNat
  bd : ∀ p : Nat, p < k.toNat → 0 ≤ hs.getD p 0 ∧ (hs.getD p 0).toNat ≤ (lineQ ls wd p).length
  wr : ∀ x ∈ ws, 0 ≤ x ∧ x < (wd.length : Int)
  inG : ∀ G, Cut ls wd wd.length G → (∀ x ∈ c, x ∈ G) → ev ∈ G → (∀ p : Nat, p < k.toNat → ∀ x ∈ tkn2 ls wd hs p, x ∈ G) ∧ (∀ x ∈ ws, x ∈ G) ∧ ∀ x ∈ cur, x ∈ G
  cnt : ∀ p : Nat, p < k.toNat → ∀ x ∈ tkn2 ls wd hs p, x ∈ ws ∨ x ∈ cur ∨ Full ls wd hs x
  evd : ev ∈ ws ∨ ev ∈ cur ∨ Full ls wd hs ev
  low : ∀ p : Nat, p < k.toNat → (hdQ ls wd c p : Int) ≤ hs.getD p 0
def rem (ls : Lets) (k : Int) (wd hs : List Int) : Nat := ((List.range k.toNat).map fun p : Nat => (lineQ ls wd p).length - (hs.getD p 0).toNat).sum
theorem pl_nat {k : Int} {ls : Lets} (A : AlphaOk k ls) {wd : List Int} (hw : WordOk ls wd) {e : Nat} (he : e < wd.length) {q : Nat} (hq : (q : Int) ∈ pl ls (wd.getD e 0)) : q < k.toNat := by
  have hX := hw (wd.getD e 0) (by rw [getD_at he]; exact List.getElem_mem _)
  obtain ⟨p0, p1⟩ := (A.pl_ok hX).2 _ hq
  omega
theorem tb_start {ls : Lets} {k : Int} (A : AlphaOk k ls) {wd c : List Int} (hw : WordOk ls wd) (C : Cut ls wd wd.length c) {ev : Int} (he : 0 ≤ ev ∧ ev < (wd.length : Int)) : Tb ls k wd c ev (hdsQ ls k wd c) [ev] [] where
  len := hdsQ_len
  bd := fun p hp => by rw [hdsQ_get hp]; have := hdQ_le (ls := ls) (wd := wd) (c := c) (p := p); omega
  wr := fun x hx => by rw [List.mem_singleton.mp hx]; exact he
  inG := fun G _ hc hg => ⟨fun p hp x hx => by
    unfold tkn2 at hx
    rw [hdsQ_get hp, Int.toNat_natCast, ← cut_line C] at hx
    exact hc x (of_decide_eq_true (List.mem_filter.mp hx).2), fun x hx => by rw [List.mem_singleton.mp hx]; exact hg, fun x hx => by cases hx⟩
  cnt := fun p hp x hx => .inr (.inr fun q hq => by
    unfold tkn2 at hx ⊢
    rw [hdsQ_get hp, Int.toNat_natCast, ← cut_line C] at hx
    obtain ⟨hx1, hx2⟩ := List.mem_filter.mp hx
    obtain ⟨e, rfl, h1, h2⟩ := line_mem.mp hx1
    rw [Int.toNat_natCast] at hq
    have hk := pl_nat A hw h1 hq
    rw [hdsQ_get hk, Int.toNat_natCast, ← cut_line C]
    exact List.mem_filter.mpr ⟨line_mem.mpr ⟨e, rfl, h1, hq⟩, hx2⟩)
  evd := .inl List.mem_cons_self
  low := fun p hp => by rw [hdsQ_get hp]; omega
theorem tb_pop {ls : Lets} {k : Int} {wd c : List Int} {ev x : Int} {hs ws : List Int} (h : Tb ls k wd c ev hs (ws ++ [x]) []) : Tb ls k wd c ev hs ws [x] where
  len := h.len
  bd := h.bd
  wr := fun y hy => h.wr y (List.mem_append_left _ hy)
  inG := fun G g1 g2 g3 => by
    obtain ⟨a, b, _⟩ := h.inG G g1 g2 g3
    exact ⟨a, fun y hy => b y (List.mem_append_left _ hy), fun y hy => b y (List.mem_append_right _ hy)⟩
  cnt := fun p hp y hy => by
    rcases h.cnt p hp y hy with h | h | h
    · rcases List.mem_append.mp h with h | h
      · exact .inl h
      · exact .inr (.inl h)
    · cases h
    · exact .inr (.inr h)
  evd := by
    rcases h.evd with h | h | h
    · rcases List.mem_append.mp h with h | h
      · exact .inl h
      · exact .inr (.inl h)
    · cases h
    · exact .inr (.inr h)
  low := h.low
theorem tkn2_mono {ls : Lets} {wd hs : List Int} {p q : Nat} {h : Nat} (hp : p < hs.length) (hh : hs.getD p 0 = (h : Int)) {x : Int} (hx : x ∈ tkn2 ls wd hs q) : x ∈ tkn2 ls wd (hs.set p ((h : Int) + 1)) q := by
  unfold tkn2 at hx ⊢
  rw [getD_set hp]
  by_cases e : p = q
  · subst e
    rw [if_pos rfl]
    rw [hh, Int.toNat_natCast] at hx
    rw [show ((h : Int) + 1).toNat = h + 1 by omega]
    exact (List.take_sublist_take_left (by omega)).subset hx
  · rw [if_neg e]; exact hx
theorem Full.mono {ls : Lets} {wd hs : List Int} {p : Nat} {h : Nat} (hp : p < hs.length) (hh : hs.getD p 0 = (h : Int)) {x : Int} (f : Full ls wd hs x) : Full ls wd (hs.set p ((h : Int) + 1)) x := fun q hq => tkn2_mono hp hh (f q hq)
theorem tb_push {ls : Lets} {k : Int} {wd c : List Int} {ev x : Int} {hs ws : List Int} {p h : Nat} (H : Tb ls k wd c ev hs ws [x]) (hp : p < k.toNat) (hh : hs.getD p 0 = (h : Int)) (hx : 0 ≤ x) (px : (p : Int) ∈ pl ls (wd.getD x.toNat 0)) (hl : h < (lineQ ls wd p).length) (le : (lineQ ls wd p).getD h 0 ≤ x) :
    Tb ls k wd c ev (hs.set p ((h : Int) + 1)) (ws ++ [(lineQ ls wd p).getD h 0]) [x] := by
  have hpl : p < hs.length := by rw [H.len]; exact hp
  have em : (lineQ ls wd p).getD h 0 ∈ lineQ ls wd p := by rw [getD_at hl]; exact List.getElem_mem _
  obtain ⟨e, ee, e1, e2⟩ := line_mem.mp em
  have nw : ∀ q y, y ∈ tkn2 ls wd (hs.set p ((h : Int) + 1)) q → y ∈ tkn2 ls wd hs q ∨ y = (lineQ ls wd p).getD h 0 := fun q y hy => by
    unfold tkn2 at hy ⊢
    rw [getD_set hpl] at hy
    by_cases z : p = q
    · subst z
      rw [if_pos rfl, show ((h : Int) + 1).toNat = h + 1 by omega, List.take_add_one, List.getElem?_eq_getElem hl, Option.toList_some, ← getD_at hl] at hy
      rw [hh, Int.toNat_natCast]
      rcases List.mem_append.mp hy with hy | hy
      · exact .inl hy
      · exact .inr (List.mem_singleton.mp hy)
    · rw [if_neg z] at hy; exact .inl hy
  exact {
    len := by rw [List.length_set]; exact H.len
    bd := fun q hq => by
      rw [getD_set hpl]
      by_cases z : p = q
      · subst z; rw [if_pos rfl]; omega
      · rw [if_neg z]; exact H.bd q hq
    wr := fun y hy => by
      rcases List.mem_append.mp hy with hy | hy
      · exact H.wr y hy
      · rw [List.mem_singleton.mp hy, ee]; omega
    inG := fun G g1 g2 g3 => by
      obtain ⟨a, b, d⟩ := H.inG G g1 g2 g3
      have xG := d x List.mem_cons_self
      have eG : (lineQ ls wd p).getD h 0 ∈ G := by
        by_cases z : (lineQ ls wd p).getD h 0 = x
        · rw [z]; exact xG
        · rw [ee] at le z ⊢
          exact g1.dn x.toNat (by rw [Int.toNat_of_nonneg hx]; exact xG) e (by omega) (not_disj.mpr ⟨p, e2, px⟩)
      refine ⟨fun q hq y hy => ?_, fun y hy => ?_, d⟩
      · rcases nw q y hy with z | z
        · exact a q hq y z
        · rw [z]; exact eG
      · rcases List.mem_append.mp hy with hy | hy
        · exact b y hy
        · rw [List.mem_singleton.mp hy]; exact eG
    cnt := fun q hq y hy => by
      rcases nw q y hy with z | z
      · rcases H.cnt q hq y z with z | z | z
        · exact .inl (List.mem_append_left _ z)
        · exact .inr (.inl z)
        · exact .inr (.inr (z.mono hpl hh))
      · rw [z]; exact .inl (List.mem_append_right _ List.mem_cons_self)
    evd := by
      rcases H.evd with z | z | z
      · exact .inl (List.mem_append_left _ z)
      · exact .inr (.inl z)
      · exact .inr (.inr (z.mono hpl hh))
    low := fun q hq => by
      rw [getD_set hpl]
      by_cases z : p = q
      · subst z; rw [if_pos rfl]; have := H.low p hq; omega
      · rw [if_neg z]; exact H.low q hq }
theorem tb_done {ls : Lets} {k : Int} {wd c : List Int} {ev x : Int} {hs ws : List Int} (h : Tb ls k wd c ev hs ws [x]) (f : Full ls wd hs x) : Tb ls k wd c ev hs ws [] where
  len := h.len
  bd := h.bd
  wr := h.wr
  inG := fun G g1 g2 g3 => by
    obtain ⟨a, b, _⟩ := h.inG G g1 g2 g3
    exact ⟨a, b, fun y hy => by cases hy⟩
  cnt := fun p hp y hy => by
    rcases h.cnt p hp y hy with h | h | h
    · exact .inl h
    · rw [List.mem_singleton.mp h]; exact .inr (.inr f)
    · exact .inr (.inr h)
  evd := by
    rcases h.evd with h | h | h
    · exact .inl h
    · rw [List.mem_singleton.mp h]; exact .inr (.inr f)
    · exact .inr (.inr h)
  low := h.low
theorem tkn2_end {ls : Lets} {wd hs : List Int} {p : Nat} {h : Nat} {x : Int} (hh : hs.getD p 0 = (h : Int)) (hx : x ∈ lineQ ls wd p) (st : (lineQ ls wd p).length ≤ h ∨ x < (lineQ ls wd p).getD h 0) : x ∈ tkn2 ls wd hs p := by
  unfold tkn2
  rw [hh, Int.toNat_natCast]
  by_cases c : h < (lineQ ls wd p).length
  · exact (up_mem_take line_up c hx).mpr (by omega)
  · rw [List.take_of_length_le (by omega)]; exact hx
structure Lc (ls : Lets) (wd c : List Int) (ev : Int) (c' : List Int) : Prop where
  cut : Cut ls wd wd.length c'
  sub : ∀ x ∈ c, x ∈ c'
  evm : ev ∈ c'
  least : ∀ G, Cut ls wd wd.length G → (∀ x ∈ c, x ∈ G) → ev ∈ G → ∀ x ∈ c', x ∈ G
theorem tb_end {ls : Lets} {k : Int} (A : AlphaOk k ls) {wd c : List Int} (hw : WordOk ls wd) (C : Cut ls wd wd.length c) {ev : Int} {hs : List Int} (H : Tb ls k wd c ev hs [] []) (hev : 0 ≤ ev ∧ ev < (wd.length : Int)) : ∃ c', Lc ls wd c ev c' ∧ hs = hdsQ ls k wd c' := by
  have full : ∀ p : Nat, p < k.toNat → ∀ x ∈ tkn2 ls wd hs p, Full ls wd hs x := fun p hp x hx => by
    rcases H.cnt p hp x hx with h | h | h
    · cases h
    · cases h
    · exact h
  have evf : Full ls wd hs ev := by
    rcases H.evd with h | h | h
    · cases h
    · cases h
    · exact h
  have onl : ∀ (p : Nat) x, x ∈ tkn2 ls wd hs p → x ∈ lineQ ls wd p := fun p x hx => List.mem_of_mem_take hx
  let c' : List Int := ((List.range wd.length).filter fun e : Nat => (List.range k.toNat).any fun p : Nat => decide ((e : Int) ∈ tkn2 ls wd hs p)).map fun e : Nat => (e : Int)
  have mem : ∀ x, x ∈ c' ↔ ∃ p : Nat, p < k.toNat ∧ x ∈ tkn2 ls wd hs p := fun x => by
    show x ∈ List.map _ _ ↔ _
    rw [List.mem_map]
    constructor
    · rintro ⟨e, he, rfl⟩
      obtain ⟨p, hp, h2⟩ := List.any_eq_true.mp (List.mem_filter.mp he).2
      exact ⟨p, List.mem_range.mp hp, of_decide_eq_true h2⟩
    · rintro ⟨p, hp, h2⟩
      obtain ⟨e, rfl, h1, _⟩ := line_mem.mp (onl p x h2)
      exact ⟨e, List.mem_filter.mpr ⟨List.mem_range.mpr h1, List.any_eq_true.mpr ⟨p, List.mem_range.mpr hp, decide_eq_true h2⟩⟩, rfl⟩
  have up : c'.Pairwise (· < ·) := by
    show (List.map _ _).Pairwise _
    rw [List.pairwise_map]
    exact (List.pairwise_lt_range.sublist List.filter_sublist).imp fun h => by omega
  have plx : ∀ x, 0 ≤ x ∧ x < (wd.length : Int) → ∃ p : Nat, (p : Int) ∈ pl ls (wd.getD x.toNat 0) ∧ p < k.toNat := fun x hx => by
    have hX := hw (wd.getD x.toNat 0) (by rw [getD_at (by omega)]; exact List.getElem_mem _)
    obtain ⟨pne, pok⟩ := A.pl_ok hX
    obtain ⟨p, l, e⟩ := List.exists_cons_of_ne_nil pne
    have pm : p ∈ pl ls (wd.getD x.toNat 0) := by rw [e]; exact List.mem_cons_self
    obtain ⟨p0, p1⟩ := pok p pm
    exact ⟨p.toNat, by rw [Int.toNat_of_nonneg p0]; exact pm, by omega⟩
  have C' : Cut ls wd wd.length c' := ⟨up, fun x hx => by
    obtain ⟨p, _, h⟩ := (mem x).mp hx
    obtain ⟨e, rfl, h1, _⟩ := line_mem.mp (onl p x h)
    omega, fun x hx j hj hf => by
    obtain ⟨p, hp, h⟩ := (mem _).mp hx
    have fx := full p hp _ h
    obtain ⟨e, ee, h1, _⟩ := line_mem.mp (onl p _ h)
    have ee : x = e := by omega
    subst ee
    obtain ⟨q, q1, q2⟩ := not_disj.mp hf
    have hX := hw (wd.getD x 0) (by rw [getD_at h1]; exact List.getElem_mem _)
    obtain ⟨q0, q3⟩ := (A.pl_ok hX).2 q q2
    obtain ⟨qn, rfl⟩ := Int.eq_ofNat_of_zero_le q0
    have xt := fx qn (by rw [Int.toNat_natCast]; exact q2)
    refine (mem _).mpr ⟨qn, by omega, ?_⟩
    unfold tkn2 at xt ⊢
    have jl : (j : Int) ∈ lineQ ls wd qn := line_mem.mpr ⟨j, rfl, by omega, q1⟩
    by_cases z : (hs.getD qn 0).toNat < (lineQ ls wd qn).length
    · have := (up_mem_take line_up z (List.mem_of_mem_take xt)).mp xt
      exact (up_mem_take line_up z jl).mpr (by omega)
    · rw [List.take_of_length_le (by omega)]; exact jl⟩
  refine ⟨c', ⟨C', fun x hx => ?_, ?_, fun G g1 g2 g3 x hx => ?_⟩, ?_⟩
  · obtain ⟨p, p1, p2⟩ := plx x (C.lt x hx)
    refine (mem x).mpr ⟨p, p2, ?_⟩
    have lo := H.low p p2
    obtain ⟨x0, x1⟩ := C.lt x hx
    obtain ⟨xn, rfl⟩ := Int.eq_ofNat_of_zero_le x0
    rw [Int.toNat_natCast] at p1
    have xl : (xn : Int) ∈ lineQ ls wd p := line_mem.mpr ⟨xn, rfl, by omega, p1⟩
    have xt : (xn : Int) ∈ (lineQ ls wd p).take (hdQ ls wd c p) := by
      rw [← cut_line C]
      exact List.mem_filter.mpr ⟨xl, decide_eq_true hx⟩
    exact (List.take_sublist_take_left (by omega)).subset xt
  · obtain ⟨p, p1, p2⟩ := plx ev hev
    exact (mem ev).mpr ⟨p, p2, evf p p1⟩
  · obtain ⟨p, p1, p2⟩ := (mem x).mp hx
    exact (H.inG G g1 g2 g3).1 p p1 x p2
  · apply List.ext_getElem
    · rw [hdsQ_len, H.len]
    · intro p h1 h2
      have hp : p < k.toNat := by rw [← H.len]; exact h1
      rw [← getD_at h1, ← getD_at h2, hdsQ_get hp]
      obtain ⟨b0, b1⟩ := H.bd p hp
      have e : (lineQ ls wd p).filter (fun e => decide (e ∈ c')) = tkn2 ls wd hs p := by
        refine lt_unique (line_up.sublist List.filter_sublist) (line_up.sublist (List.take_sublist _ _)) fun x => ?_
        rw [List.mem_filter, decide_eq_true_iff, mem]
        constructor
        · rintro ⟨h, q, q1, q2⟩
          obtain ⟨e, rfl, h1, h2⟩ := line_mem.mp h
          exact full q q1 _ q2 p (by rw [Int.toNat_natCast]; exact h2)
        · intro h
          exact ⟨onl p x h, p, hp, h⟩
      unfold hdQ
      rw [e]
      unfold tkn2
      rw [List.length_take]
      omega
/-! the last letters -/
theorem foldl_last {α : Type} {f : α → Bool} {g : α → Int} : ∀ {l : List α} {z : Int}, l.foldl (fun a x => if f x = true then g x else a) z = ((l.filter f).map g).getLastD z
  | [], _ => rfl
  | x :: l, z => by
    rw [List.foldl_cons, foldl_last, List.filter_cons]
    split
    · rw [List.map_cons, List.getLastD_cons]
    · rfl
theorem lastQ_eq {ls : Lets} {wd c : List Int} {p : Int} (up : c.Pairwise (· < ·)) (lt : ∀ x ∈ c, 0 ≤ x ∧ x < (wd.length : Int)) : lastQ ls wd p c = (((lineQ ls wd p).filter fun e => decide (e ∈ c)).map fun x => wd.getD x.toNat 0).getLastD (-1) := by
  have e1 : lastQ ls wd p c = ((c.filter fun x => decide (p ∈ pl ls (wd.getD x.toNat 0))).map fun x => wd.getD x.toNat 0).getLastD (-1) := by
    rw [← foldl_last]
    unfold lastQ
    congr 1
    funext a x
    simp
  rw [e1]
  congr 2
  refine lt_unique (up.sublist List.filter_sublist) (line_up.sublist List.filter_sublist) fun x => ?_
  rw [List.mem_filter, List.mem_filter, decide_eq_true_iff, decide_eq_true_iff, line_mem]
  constructor
  · rintro ⟨h1, h2⟩
    obtain ⟨x0, x1⟩ := lt x h1
    exact ⟨⟨x.toNat, by omega, by omega, h2⟩, h1⟩
  · rintro ⟨⟨e, rfl, h1, h2⟩, h3⟩
    exact ⟨h3, by rw [Int.toNat_natCast]; exact h2⟩
theorem at_line {ls : Lets} {wd : List Int} {p : Int} : at_ ls p wd = (lineQ ls wd p).map fun x => wd.getD x.toNat 0 := by
  have := at_range (ls := ls) (p := p) (w := wd) (Nat.le_refl _)
  rw [List.take_length] at this
  rw [this]
  unfold lineQ
  rw [List.map_map]; rfl
theorem lastL_cut {ls : Lets} {k : Int} {wd c : List Int} (C : Cut ls wd wd.length c) : lastL (pws ls k wd) (hdsQ ls k wd c) = lastsQ ls k wd c := by
  unfold lastL
  apply List.ext_getElem
  · rw [List.length_map, List.length_zip, hdsQ_len, lastsQ_len]; unfold pws; rw [List.length_map, List.length_range]; omega
  · intro p h1 h2
    have hp : p < k.toNat := by rw [lastsQ_len] at h2; exact h2
    rw [← getD_at h2, lastsQ_get hp, List.getElem_map, List.getElem_zip, lastQ_eq C.up C.lt, cut_line C]
    have e1 : (hdsQ ls k wd c)[p]'(by rw [hdsQ_len]; exact hp) = (hdQ ls wd c p : Int) := by rw [← getD_at, hdsQ_get hp]
    have e2 : (pws ls k wd)[p]'(by unfold pws; rw [List.length_map, List.length_range]; exact hp) = (lineQ ls wd p).map fun x => wd.getD x.toNat 0 := by
      unfold pws
      rw [List.getElem_map, List.getElem_range, at_line]
    dsimp only
    rw [e1, e2]
    have hle := hdQ_le (ls := ls) (wd := wd) (c := c) (p := (p : Int))
    generalize hdQ ls wd c p = h at hle
    generalize lineQ ls wd p = l at hle
    by_cases z : h = 0
    · subst z; simp
    · rw [if_pos (by omega), List.getLastD_eq_getLast?, List.getLast?_eq_getElem?, List.length_map, List.length_take, Nat.min_eq_left hle, List.getElem?_map, List.getElem?_take, if_pos (by omega), List.getD_eq_getElem?_getD, List.getElem?_map, show ((h : Int) - 1).toNat = h - 1 by omega, List.getElem?_eq_getElem (by omega : h - 1 < l.length)]
      rfl
/-! least cuts in which the conditions hold -/
def Gd (ls : Lets) (k : Int) (wd : List Int) (cs : List (List Int)) (G : List Int) : Prop := Cut ls wd wd.length G ∧ hld ls k wd G cs = true
theorem filt_sub {ls : Lets} {wd c G : List Int} {p : Int} (C : Cut ls wd wd.length c) (hG : Cut ls wd wd.length G) (h : hdQ ls wd c p = hdQ ls wd G p) : lastQ ls wd p c = lastQ ls wd p G := by
  rw [lastQ_eq C.up C.lt, lastQ_eq hG.up hG.lt, cut_line C, cut_line hG, h]
theorem hdQ_mono {ls : Lets} {wd c G : List Int} {p : Int} (h : ∀ x ∈ c, x ∈ G) : hdQ ls wd c p ≤ hdQ ls wd G p := by
  unfold hdQ
  refine (List.Sublist.length_le ?_)
  have e : (lineQ ls wd p).filter (fun e => decide (e ∈ c)) = ((lineQ ls wd p).filter fun e => decide (e ∈ G)).filter fun e => decide (e ∈ c) := by
    rw [List.filter_filter]
    apply List.filter_congr
    intro x _
    by_cases z : x ∈ c
    · simp [z, h x z]
    · simp [z]
  rw [e]
  exact List.filter_sublist
theorem unmet_end {ls : Lets} {k : Int} {wd c : List Int} {cs : List (List Int)} (C : Cut ls wd wd.length c) (sub : ∀ G, Gd ls k wd cs G → ∀ x ∈ c, x ∈ G) {p : Nat} (hp : p < k.toNat) (hu : lastQ ls wd p c ∉ cs.getD p []) (he : hdQ ls wd c p = (lineQ ls wd p).length) : ∀ G, ¬ Gd ls k wd cs G := fun G g => by
  have h1 := hdQ_mono (ls := ls) (wd := wd) (p := (p : Int)) (sub G g)
  have h2 := hdQ_le (ls := ls) (wd := wd) (c := G) (p := (p : Int))
  rw [filt_sub C g.1 (by omega)] at hu
  exact hu (hld_iff.mp g.2 p hp)
theorem unmet_next {ls : Lets} {k : Int} {wd c : List Int} {cs : List (List Int)} (C : Cut ls wd wd.length c) (sub : ∀ G, Gd ls k wd cs G → ∀ x ∈ c, x ∈ G) {p : Nat} (hp : p < k.toNat) (hu : lastQ ls wd p c ∉ cs.getD p []) (he : hdQ ls wd c p < (lineQ ls wd p).length) : ∀ G, Gd ls k wd cs G → (lineQ ls wd p).getD (hdQ ls wd c p) 0 ∈ G := fun G g => by
  refine Classical.byContradiction fun n => ?_
  have h1 := hdQ_mono (ls := ls) (wd := wd) (p := (p : Int)) (sub G g)
  have em : (lineQ ls wd p).getD (hdQ ls wd c p) 0 ∈ lineQ ls wd p := by rw [getD_at he]; exact List.getElem_mem _
  have h2 : hdQ ls wd G p ≤ hdQ ls wd c p := by
    refine Nat.le_of_not_lt fun z => n ?_
    have : (lineQ ls wd p).getD (hdQ ls wd c p) 0 ∈ (lineQ ls wd p).take (hdQ ls wd G p) := by
      rw [getD_at he]
      exact List.mem_take_iff_getElem.mpr ⟨hdQ ls wd c p, by omega, rfl⟩
    rw [← cut_line g.1] at this
    exact of_decide_eq_true (List.mem_filter.mp this).2
  rw [filt_sub C g.1 (by omega)] at hu
  exact hu (hld_iff.mp g.2 p hp)
theorem next_new {ls : Lets} {wd c : List Int} {p : Int} (C : Cut ls wd wd.length c) (he : hdQ ls wd c p < (lineQ ls wd p).length) : (lineQ ls wd p).getD (hdQ ls wd c p) 0 ∉ c := fun h => by
  have em : (lineQ ls wd p).getD (hdQ ls wd c p) 0 ∈ lineQ ls wd p := by rw [getD_at he]; exact List.getElem_mem _
  have : (lineQ ls wd p).getD (hdQ ls wd c p) 0 ∈ (lineQ ls wd p).take (hdQ ls wd c p) := by
    rw [← cut_line C]
    exact List.mem_filter.mpr ⟨em, decide_eq_true h⟩
  have := (up_mem_take line_up he em).mp this
  omega
theorem cut_len {ls : Lets} {wd c : List Int} (C : Cut ls wd wd.length c) : c.length ≤ wd.length := by
  rw [up_filter C.up C.lt, List.length_map]
  exact Nat.le_trans (List.length_filter_le _ _) (by rw [List.length_range]; exact Nat.le_refl _)
theorem lc_longer {ls : Lets} {wd c c' : List Int} {ev : Int} (C : Cut ls wd wd.length c) (hev : ev ∉ c) (h : Lc ls wd c ev c') : c.length < c'.length := by
  have nd : (ev :: c).Nodup := List.nodup_cons.mpr ⟨hev, C.up.imp fun h => by omega⟩
  have := nodup_le nd (m := c') fun x hx => by
    rcases List.mem_cons.mp hx with e | hx
    · rw [e]; exact h.evm
    · exact h.sub x hx
  rw [List.length_cons] at this
  omega
theorem cut_nil {ls : Lets} {wd : List Int} : Cut ls wd wd.length [] := ⟨.nil, fun x h => (by cases h), fun x h => (by cases h)⟩
theorem hdsQ_nil {ls : Lets} {k : Int} {wd : List Int} : hdsQ ls k wd [] = List.replicate k.toNat 0 := by
  unfold hdsQ hdQ
  have e : ∀ p : Nat, (((lineQ ls wd p).filter fun e => decide (e ∈ ([] : List Int))).length : Int) = 0 := fun p => by simp
  simp only [e, List.map_const', List.length_range]
theorem flat_cut {ls : Lets} {k : Int} (A : AlphaOk k ls) {wd c : List Int} (hw : WordOk ls wd) (C : Cut ls wd wd.length c) {ns : List Int} (up : ns.Pairwise (· < ·)) (hm : ∀ x, x ∈ ns ↔ ∃ p : Nat, p < k.toNat ∧ x ∈ (lineQ ls wd p).take (hdQ ls wd c p)) : ns = c := by
  refine lt_unique up C.up fun x => ?_
  rw [hm]
  constructor
  · rintro ⟨p, _, h⟩
    rw [← cut_line C] at h
    exact of_decide_eq_true (List.mem_filter.mp h).2
  · intro h
    obtain ⟨x0, x1⟩ := C.lt x h
    obtain ⟨xn, rfl⟩ := Int.eq_ofNat_of_zero_le x0
    have hX := hw (wd.getD xn 0) (by rw [getD_at (by omega)]; exact List.getElem_mem _)
    obtain ⟨pne, pok⟩ := A.pl_ok hX
    obtain ⟨p, l, e⟩ := List.exists_cons_of_ne_nil pne
    have pm : p ∈ pl ls (wd.getD xn 0) := by rw [e]; exact List.mem_cons_self
    obtain ⟨p0, p1⟩ := pok p pm
    obtain ⟨pn, rfl⟩ := Int.eq_ofNat_of_zero_le p0
    refine ⟨pn, by omega, ?_⟩
    rw [← cut_line C]
    exact List.mem_filter.mpr ⟨line_mem.mpr ⟨xn, rfl, by omega, pm⟩, decide_eq_true h⟩
theorem sum_one {f g : Nat → Nat} {p : Nat} : ∀ {n : Nat}, p < n → f p = g p + 1 → (∀ q, q ≠ p → f q = g q) → ((List.range n).map f).sum = ((List.range n).map g).sum + 1
  | 0, h, _, _ => by omega
  | n + 1, h, e, o => by
    rw [List.range_succ, List.map_append, List.map_append, List.sum_append, List.sum_append]
    simp only [List.map_cons, List.map_nil, List.sum_cons, List.sum_nil, Nat.add_zero]
    by_cases z : p = n
    · subst z
      have : (List.range p).map f = (List.range p).map g := List.map_congr_left fun q hq => o q (by have := List.mem_range.mp hq; omega)
      rw [this, e]; omega
    · rw [sum_one (by omega : p < n) e o, o n (fun c => z c.symm)]; omega
theorem rem_push {ls : Lets} {k : Int} {wd hs : List Int} {p h : Nat} (hl : hs.length = k.toNat) (hp : p < k.toNat) (hh : hs.getD p 0 = (h : Int)) (hlt : h < (lineQ ls wd p).length) : rem ls k wd hs = rem ls k wd (hs.set p ((h : Int) + 1)) + 1 := by
  unfold rem
  refine sum_one hp ?_ fun q hq => ?_
  · rw [getD_set (by omega), if_pos rfl, hh]; omega
  · rw [getD_set (by omega), if_neg (fun c => hq c.symm)]
theorem rem_le {ls : Lets} {k : Int} {wd hs : List Int} : rem ls k wd hs ≤ k.toNat * wd.length := by
  unfold rem
  generalize k.toNat = n
  induction n with
  | zero => simp
  | succ n ih =>
    rw [List.range_succ, List.map_append, List.sum_append, Nat.succ_mul]
    simp only [List.map_cons, List.map_nil, List.sum_cons, List.sum_nil, Nat.add_zero]
    have : (lineQ ls wd (n : Int)).length ≤ wd.length := by
      unfold lineQ
      rw [List.length_map]
      exact Nat.le_trans (List.length_filter_le _ _) (by rw [List.length_range]; exact Nat.le_refl _)
    omega
def tkQ (ls : Lets) (k : Int) (wd c : List Int) : List (List Int) := (List.range k.toNat).map fun p : Nat => (lineQ ls wd p).take (hdQ ls wd c p)
theorem tkQ_zip {ls : Lets} {k : Int} {wd c : List Int} : ((linesQ ls k wd).zip (hdsQ ls k wd c)).map (fun z => z.1.take z.2.toNat) = tkQ ls k wd c := by
  unfold linesQ hdsQ tkQ
  rw [List.zip_map', List.map_map]; rfl
theorem tkQ_mem {ls : Lets} {k : Int} {wd c : List Int} {x : Int} : x ∈ (tkQ ls k wd c).flatten ↔ ∃ p : Nat, p < k.toNat ∧ x ∈ (lineQ ls wd p).take (hdQ ls wd c p) := by
  unfold tkQ
  rw [List.mem_flatten]
  constructor
  · rintro ⟨l, hl, hx⟩
    obtain ⟨p, hp, rfl⟩ := List.mem_map.mp hl
    exact ⟨p, List.mem_range.mp hp, hx⟩
  · rintro ⟨p, hp, hx⟩
    exact ⟨_, List.mem_map.mpr ⟨p, List.mem_range.mpr hp, rfl⟩, hx⟩
theorem line_len {ls : Lets} {wd : List Int} {p : Int} : (lineQ ls wd p).length ≤ wd.length := by
  unfold lineQ
  rw [List.length_map]
  exact Nat.le_trans (List.length_filter_le _ _) (by rw [List.length_range]; exact Nat.le_refl _)
theorem tkQ_len {ls : Lets} {k : Int} {wd c : List Int} : (tkQ ls k wd c).length = k.toNat ∧ (∀ l ∈ tkQ ls k wd c, l.length ≤ wd.length) ∧ (tkQ ls k wd c).flatten.length ≤ k.toNat * wd.length := by
  unfold tkQ
  have each : ∀ p : Nat, ((lineQ ls wd p).take (hdQ ls wd c p)).length ≤ wd.length := fun p => Nat.le_trans (List.take_sublist _ _).length_le (line_len (p := (p : Int)))
  refine ⟨by rw [List.length_map, List.length_range], fun l hl => ?_, ?_⟩
  · obtain ⟨p, _, rfl⟩ := List.mem_map.mp hl
    exact each p
  · generalize k.toNat = n
    induction n with
    | zero => simp
    | succ n ih =>
      rw [List.range_succ, List.map_append, List.flatten_append, List.length_append, Nat.succ_mul]
      simp only [List.map_cons, List.map_nil, List.flatten_cons, List.flatten_nil, List.append_nil]
      have := each n
      omega
def LcR (ls : Lets) (k : Int) (wd : List Int) (cs : List (List Int)) : Option (List Int) → Prop
  | none => ∀ G, ¬ Gd ls k wd cs G
  | some F => Gd ls k wd cs F ∧ ∀ G, Gd ls k wd cs G → ∀ x ∈ F, x ∈ G
end My
namespace My
open Hq
/-! ### beginnings of orders, told by their heads; the least of them that avoids some heads -/
def hdF (ls : Lets) (k : Int) (u : List Int) : List Int := u.foldl (fun h a => mvH ls a h) (List.replicate k.toNat 0)
theorem hdF_snoc {ls : Lets} {k : Int} {u : List Int} {a : Int} : hdF ls k (u ++ [a]) = mvH ls a (hdF ls k u) := by
  unfold hdF; rw [List.foldl_append]; rfl
theorem mvH_len {ls : Lets} {a : Int} {h : List Int} : (mvH ls a h).length = h.length := by unfold mvH; rw [List.length_map, List.length_zipIdx]
theorem hdF_go {ls : Lets} {p : Nat} : ∀ (u h : List Int), p < h.length → (u.foldl (fun h a => mvH ls a h) h).length = h.length ∧ (u.foldl (fun h a => mvH ls a h) h).getD p 0 = h.getD p 0 + ((at_ ls p u).length : Int)
  | [], h, _ => ⟨rfl, by simp [at_]⟩
  | a :: u, h, hp => by
    obtain ⟨h1, h2⟩ := hdF_go (ls := ls) (p := p) u (mvH ls a h) (by rw [mvH_len]; exact hp)
    refine ⟨by rw [List.foldl_cons, h1, mvH_len], ?_⟩
    rw [List.foldl_cons, h2, mvH_get hp]
    unfold at_
    by_cases c : (p : Int) ∈ pl ls a
    · rw [if_pos c, List.filter_cons, if_pos (by simpa using c), List.length_cons]; omega
    · rw [if_neg c, List.filter_cons, if_neg (by simpa using c)]; omega
theorem hdF_len {ls : Lets} {k : Int} : ∀ {u : List Int}, (hdF ls k u).length = k.toNat := fun {u} => by
  have key : ∀ (u h : List Int), (u.foldl (fun h a => mvH ls a h) h).length = h.length := by
    intro u
    induction u with
    | nil => intro h; rfl
    | cons a u ih => intro h; rw [List.foldl_cons, ih, mvH_len]
  unfold hdF
  rw [key, List.length_replicate]
theorem hdF_get {ls : Lets} {k : Int} {u : List Int} {p : Nat} (hp : p < k.toNat) : (hdF ls k u).getD p 0 = ((at_ ls p u).length : Int) := by
  unfold hdF
  rw [(hdF_go u _ (by rw [List.length_replicate]; exact hp)).2, List.getD_eq_getElem?_getD, List.getElem?_replicate, if_pos hp]
  show (0 : Int) + _ = _
  omega
def Bg (ls : Lets) (k : Int) (wd u : List Int) : Prop := WordOk ls u ∧ ∃ r, WordOk ls r ∧ Alk ls k wd (u ++ r)
theorem at_app {ls : Lets} {p : Int} {u v : List Int} : at_ ls p (u ++ v) = at_ ls p u ++ at_ ls p v := by unfold at_; rw [List.filter_append]
theorem bg_nil {ls : Lets} {k : Int} {wd : List Int} (h : WordOk ls wd) : Bg ls k wd [] := ⟨fun x hx => (by cases hx), wd, h, fun p _ _ => rfl⟩
theorem bg_q {ls : Lets} {k : Int} {wd u r : List Int} (h : Alk ls k wd (u ++ r)) : QOk k (pws ls k wd) (hdF ls k u) ∧ QW ls k (rq (pws ls k wd) (hdF ls k u)) r := by
  have pl' : (pws ls k wd).length = k.toNat := by unfold pws; rw [List.length_map, List.length_range]
  refine ⟨⟨pl', hdF_len, fun x hx => ?_⟩, by rw [rq_len]; exact pl', fun p hp => ?_⟩
  · obtain ⟨p, hp, rfl⟩ := List.mem_iff_getElem.mp hx
    rw [hdF_len] at hp
    have := hdF_get (ls := ls) (u := u) hp
    rw [List.getD_eq_getElem?_getD, List.getElem?_eq_getElem (by rw [hdF_len]; exact hp)] at this
    have : (hdF ls k u)[p]'(by rw [hdF_len]; exact hp) = ((at_ ls p u).length : Int) := this
    omega
  · have hp' : p < k.toNat := by omega
    rw [qat_rq (by rw [pl']; exact hp'), hdF_get hp', Int.toNat_natCast]
    have e : qat (pws ls k wd) (p : Int) = at_ ls p wd := by unfold pws; exact qat_map hp'
    rw [e, h p (by omega) hp, at_app, List.drop_left]
theorem bg_rdy {ls : Lets} {k : Int} (A : AlphaOk k ls) {wd u : List Int} (h : Bg ls k wd u) {a : Int} (ha : 0 ≤ a ∧ a < (ls.length : Int)) : rdyR ls (rq (pws ls k wd) (hdF ls k u)) a = true ↔ Bg ls k wd (u ++ [a]) := by
  obtain ⟨hu, r, hr, hk⟩ := h
  constructor
  · intro hd
    rw [(bg_q hk).2.rdy A ha] at hd
    refine ⟨fun x hx => ?_, r.erase a, hr.erase, fun p h0 h1 => ?_⟩
    · rcases List.mem_append.mp hx with hx | hx
      · exact hu x hx
      · rw [List.mem_singleton.mp hx]; exact ha
    · rw [hk p h0 h1, at_app, rdy_at A ha hd p, List.append_assoc, at_app]; rfl
  · rintro ⟨_, r', hr', hk'⟩
    rw [List.append_assoc] at hk'
    rw [(bg_q (r := a :: r') hk').2.rdy A ha, rdy_iff]
    intro p hp
    unfold at_
    rw [List.filter_cons, if_pos (by simpa using hp)]; rfl
theorem bg_pre {ls : Lets} {k : Int} {wd u v : List Int} (h : Bg ls k wd (u ++ v)) : Bg ls k wd u := by
  obtain ⟨hu, r, hr, hk⟩ := h
  refine ⟨fun x hx => hu x (List.mem_append_left _ hx), v ++ r, fun x hx => ?_, by rw [← List.append_assoc]; exact hk⟩
  rcases List.mem_append.mp hx with hx | hx
  · exact hu x (List.mem_append_right _ hx)
  · exact hr x hx
/-! #### lists of pairs with each first part once -/
theorem lkD_some {L : List (List Int × List Int)} {l w : List Int} (h : lkD L l = some w) : (l, w) ∈ L := by
  unfold lkD at h
  obtain ⟨z, hz, rfl⟩ := Option.map_eq_some_iff.mp h
  have e : z.1 = l := by simpa using List.find?_some hz
  rw [← e]
  exact List.mem_of_find?_eq_some hz
theorem lkD_none {L : List (List Int × List Int)} {l : List Int} (h : lkD L l = none) {z : List Int × List Int} (hz : z ∈ L) : z.1 ≠ l := fun e => by
  unfold lkD at h
  have h := List.find?_eq_none.mp (Option.map_eq_none_iff.mp h) z hz
  simp [e] at h
theorem putD_of {L : List (List Int × List Int)} {l w : List Int} {z : List Int × List Int} (h : z ∈ putD L l w) : z = (l, w) ∨ (z ∈ L ∧ z.1 ≠ l) := by
  unfold putD at h
  split at h
  · obtain ⟨y, hy, e⟩ := List.mem_map.mp h
    by_cases c : y.1 = l
    · rw [if_pos c] at e; rw [← e, c]; exact .inl rfl
    · rw [if_neg c] at e; rw [← e]; exact .inr ⟨hy, c⟩
  · rename_i hn
    rcases List.mem_append.mp h with h | h
    · refine .inr ⟨h, fun e => hn (List.any_eq_true.mpr ⟨z, h, by simpa using e⟩)⟩
    · exact .inl (List.mem_singleton.mp h)
theorem putD_in {L : List (List Int × List Int)} {l w : List Int} : (l, w) ∈ putD L l w := by
  unfold putD
  split
  · rename_i h
    obtain ⟨y, hy, e⟩ := List.any_eq_true.mp h
    have e : y.1 = l := by simpa using e
    exact List.mem_map.mpr ⟨y, hy, by rw [if_pos e, e]⟩
  · exact List.mem_append_right _ List.mem_cons_self
theorem putD_old {L : List (List Int × List Int)} {l w : List Int} {z : List Int × List Int} (hz : z ∈ L) (h : z.1 ≠ l) : z ∈ putD L l w := by
  unfold putD
  split
  · exact List.mem_map.mpr ⟨z, hz, by rw [if_neg h]⟩
  · exact List.mem_append_left _ hz
theorem putD_nd {L : List (List Int × List Int)} {l w : List Int} (h : (L.map (·.1)).Nodup) : ((putD L l w).map (·.1)).Nodup := by
  unfold putD
  split
  · rw [List.map_map]
    have e : ((fun z : List Int × List Int => z.1) ∘ fun z : List Int × List Int => if z.1 = l then (z.1, w) else z) = fun z => z.1 := by
      funext z
      show (if z.1 = l then (z.1, w) else z).1 = z.1
      split <;> rfl
    rw [e]; exact h
  · rename_i hn
    rw [List.map_append]
    refine List.nodup_append.mpr ⟨h, by simp, fun x hx y hy => ?_⟩
    have hy : y = l := by simpa using hy
    obtain ⟨z, hz, rfl⟩ := List.mem_map.mp hx
    rw [hy]
    exact fun e => hn (List.any_eq_true.mpr ⟨z, hz, by simpa using e⟩)
/-! #### the rounds -/
def bad (cs qs : List (List Int)) (h : List Int) : Bool := decide (unm cs (lastL qs h) < 0)
def Av (ls : Lets) (k : Int) (wd : List Int) (cs : List (List Int)) (u : List Int) : Prop := ∀ m, m ≤ u.length → bad cs (pws ls k wd) (hdF ls k (u.take m)) = false
theorem av_snoc {ls : Lets} {k : Int} {wd u : List Int} {cs : List (List Int)} {a : Int} : Av ls k wd cs (u ++ [a]) ↔ Av ls k wd cs u ∧ bad cs (pws ls k wd) (mvH ls a (hdF ls k u)) = false := by
  constructor
  · intro h
    refine ⟨fun m hm => ?_, ?_⟩
    · have := h m (by rw [List.length_append]; omega)
      rwa [List.take_append_of_le_length hm] at this
    · have := h (u ++ [a]).length (Nat.le_refl _)
      rwa [List.take_length, hdF_snoc] at this
  · rintro ⟨h1, h2⟩ m hm
    rw [List.length_append, List.length_singleton] at hm
    rcases Nat.lt_or_ge u.length m with c | c
    · rw [List.take_of_length_le (by rw [List.length_append, List.length_singleton]; omega), hdF_snoc]; exact h2
    · rw [List.take_append_of_le_length c]; exact h1 m c
structure Dp (ls : Lets) (k : Int) (wd : List Int) (cs : List (List Int)) (r : Nat) (L : List (List Int × List Int)) : Prop where
  nd : (L.map (·.1)).Nodup
  ok : ∀ z ∈ L, z.2.length = r ∧ Bg ls k wd z.2 ∧ hdF ls k z.2 = z.1 ∧ Av ls k wd cs z.2
  le : ∀ u : List Int, u.length = r → Bg ls k wd u → Av ls k wd cs u → ∃ z ∈ L, z.1 = hdF ls k u ∧ z.2 ≤ u
theorem dp_start {ls : Lets} {k : Int} {wd : List Int} {cs : List (List Int)} (hw : WordOk ls wd) : Dp ls k wd cs 0 (if bad cs (pws ls k wd) (List.replicate k.toNat 0) = false then [(List.replicate k.toNat 0, [])] else []) := by
  have e : hdF ls k [] = List.replicate k.toNat 0 := rfl
  by_cases c : bad cs (pws ls k wd) (List.replicate k.toNat 0) = false
  · rw [if_pos c]
    have av : Av ls k wd cs [] := fun m hm => by rw [List.take_nil, e]; exact c
    refine ⟨by simp, fun z hz => ?_, fun u hu _ _ => ?_⟩
    · rw [List.mem_singleton.mp hz]
      exact ⟨rfl, bg_nil hw, e, av⟩
    · have : u = [] := List.eq_nil_of_length_eq_zero hu
      subst this
      exact ⟨_, List.mem_cons_self, e.symm, Std.le_refl _⟩
  · rw [if_neg c]
    refine ⟨by simp, fun z hz => (by cases hz), fun u hu _ av => ?_⟩
    exact absurd (av 0 (Nat.zero_le _)) (by rw [List.take_zero, e]; exact c)
structure Dl (ls : Lets) (k : Int) (wd : List Int) (cs : List (List Int)) (r : Nat) (Pr : List Int → Int → Prop) (L : List (List Int × List Int)) : Prop where
  nd : (L.map (·.1)).Nodup
  ok : ∀ z ∈ L, z.2.length = r + 1 ∧ Bg ls k wd z.2 ∧ hdF ls k z.2 = z.1 ∧ Av ls k wd cs z.2
  le : ∀ (o : List Int) (a : Int), Pr o a → bad cs (pws ls k wd) (mvH ls a (hdF ls k o)) = false → ∃ z ∈ L, z.1 = mvH ls a (hdF ls k o) ∧ z.2 ≤ o ++ [a]
theorem Dl.mono {ls k wd cs r Pr Pr' L} (h : Dl ls k wd cs r Pr L) (hp : ∀ o a, Pr' o a → Pr o a) : Dl ls k wd cs r Pr' L := ⟨h.nd, h.ok, fun o a p => h.le o a (hp o a p)⟩
def lowr (x y : List Int) : List Int := if y < x then y else x
theorem Dl.skip {ls k wd cs r Pr L} (h : Dl ls k wd cs r Pr L) {o : List Int} {a : Int} (hb : bad cs (pws ls k wd) (mvH ls a (hdF ls k o)) = true) : Dl ls k wd cs r (fun o' a' => Pr o' a' ∨ (o' = o ∧ a' = a)) L :=
  ⟨h.nd, h.ok, fun o' a' p hb' => by
    rcases p with p | ⟨rfl, rfl⟩
    · exact h.le o' a' p hb'
    · rw [hb] at hb'; cases hb'⟩
theorem Dl.put {ls : Lets} {k : Int} {wd : List Int} {cs : List (List Int)} {r : Nat} {Pr : List Int → Int → Prop} {L : List (List Int × List Int)} (h : Dl ls k wd cs r Pr L) {o : List Int} {a : Int} (ho : o.length = r) (hg : Bg ls k wd (o ++ [a])) (av : Av ls k wd cs o) (hb : bad cs (pws ls k wd) (mvH ls a (hdF ls k o)) = false) :
    Dl ls k wd cs r (fun o' a' => Pr o' a' ∨ (o' = o ∧ a' = a)) (putD L (mvH ls a (hdF ls k o)) (lowr ((lkD L (mvH ls a (hdF ls k o))).getD (o ++ [a])) (o ++ [a]))) := by
  have hn : (o ++ [a]).length = r + 1 ∧ Bg ls k wd (o ++ [a]) ∧ hdF ls k (o ++ [a]) = mvH ls a (hdF ls k o) ∧ Av ls k wd cs (o ++ [a]) := ⟨by rw [List.length_append, ho]; rfl, hg, hdF_snoc, av_snoc.mpr ⟨av, hb⟩⟩
  generalize hB : mvH ls a (hdF ls k o) = B at *
  -- what is put: one of those that are known, at most both
  have key : ∃ w, w = lowr ((lkD L B).getD (o ++ [a])) (o ++ [a]) ∧ (w = o ++ [a] ∨ (B, w) ∈ L) ∧ w ≤ o ++ [a] ∧ ∀ z ∈ L, z.1 = B → w ≤ z.2 := by
    refine ⟨_, rfl, ?_⟩
    cases hl : lkD L B with
    | none =>
      have e : lowr ((none : Option (List Int)).getD (o ++ [a])) (o ++ [a]) = o ++ [a] := by
        unfold lowr; split <;> rfl
      rw [e]
      exact ⟨.inl rfl, Std.le_refl _, fun z hz hz1 => absurd hz1 (lkD_none hl hz)⟩
    | some w' =>
      have hm := lkD_some hl
      have uni : ∀ z ∈ L, z.1 = B → z.2 = w' := fun z hz hz1 => by
        have nd := h.nd
        have : z = (B, w') := by
          obtain ⟨i, hi, rfl⟩ := List.mem_iff_getElem.mp hz
          obtain ⟨j, hj, e⟩ := List.mem_iff_getElem.mp hm
          have hij : i = j := by
            refine (List.getElem_inj (h₀ := by rw [List.length_map]; exact hi) (h₁ := by rw [List.length_map]; exact hj) nd).mp ?_
            rw [List.getElem_map, List.getElem_map, e, hz1]
          subst hij
          exact e
        rw [this]
      by_cases c : o ++ [a] < w'
      · have e : lowr ((some w').getD (o ++ [a])) (o ++ [a]) = o ++ [a] := if_pos c
        rw [e]
        exact ⟨.inl rfl, Std.le_refl _, fun z hz hz1 => by rw [uni z hz hz1]; exact Std.le_of_lt c⟩
      · have e : lowr ((some w').getD (o ++ [a])) (o ++ [a]) = w' := if_neg c
        rw [e]
        exact ⟨.inr hm, Std.not_lt.mp c, fun z hz hz1 => by rw [uni z hz hz1]; exact Std.le_refl _⟩
  obtain ⟨w, hw, h1, h2, h3⟩ := key
  rw [← hw]
  refine ⟨putD_nd h.nd, fun z hz => ?_, fun o' a' p hb' => ?_⟩
  · rcases putD_of hz with rfl | ⟨hz, _⟩
    · rcases h1 with rfl | h1
      · exact hn
      · exact h.ok _ h1
    · exact h.ok z hz
  · rcases p with p | ⟨rfl, rfl⟩
    · obtain ⟨z, hz, e1, e2⟩ := h.le o' a' p hb'
      by_cases c : z.1 = B
      · exact ⟨(B, w), putD_in, c ▸ e1, Std.le_trans (h3 z hz c) e2⟩
      · exact ⟨z, putD_old hz c, e1, e2⟩
    · rw [hB]
      exact ⟨(B, w), putD_in, rfl, h2⟩
theorem lt_app {s t : List Int} : ∀ {x y : List Int}, x.length = y.length → x < y → x ++ s < y ++ t
  | [], [], _, h => absurd h (List.lt_irrefl _)
  | [], _ :: _, h, _ => by simp at h
  | _ :: _, [], h, _ => by simp at h
  | a :: x, b :: y, hl, h => by
    rw [List.cons_append, List.cons_append]
    rw [List.cons_lt_cons_iff] at h ⊢
    rcases h with h | ⟨e, h⟩
    · exact .inl h
    · exact .inr ⟨e, lt_app (by simpa using hl) h⟩
theorem le_snoc {x y : List Int} {a : Int} (hl : x.length = y.length) (h : x ≤ y) : x ++ [a] ≤ y ++ [a] := by
  by_cases e : x = y
  · rw [e]; exact Std.le_refl _
  · exact Std.le_of_lt (lt_app hl (Std.lt_of_le_of_ne h e))
theorem rdyRL_mem {ls : Lets} {Q : Qs} {a : Int} : a ∈ rdyRL ls Q ↔ (0 ≤ a ∧ a < (ls.length : Int)) ∧ rdyR ls Q a = true := by
  unfold rdyRL
  constructor
  · intro h
    obtain ⟨b, hb, rfl⟩ := List.mem_map.mp h
    obtain ⟨h1, h2⟩ := List.mem_filter.mp hb
    have := List.mem_range.mp h1
    exact ⟨by omega, h2⟩
  · rintro ⟨⟨h0, h1⟩, h2⟩
    refine List.mem_map.mpr ⟨a.toNat, List.mem_filter.mpr ⟨List.mem_range.mpr (by omega), ?_⟩, Int.toNat_of_nonneg h0⟩
    rw [Int.toNat_of_nonneg h0]; exact h2
theorem dp_next {ls : Lets} {k : Int} (A : AlphaOk k ls) {wd : List Int} {cs : List (List Int)} {r : Nat} {L L' : List (List Int × List Int)} (h : Dp ls k wd cs r L) (h' : Dl ls k wd cs r (fun o a => ∃ z ∈ L, z.2 = o ∧ a ∈ rdyRL ls (rq (pws ls k wd) z.1)) L') : Dp ls k wd cs (r + 1) L' := by
  refine ⟨h'.nd, h'.ok, fun u hu hb hav => ?_⟩
  rcases List.eq_nil_or_concat u with rfl | ⟨v, a, e⟩
  · simp at hu
  rw [List.concat_eq_append] at e
  subst e
  have hv : v.length = r := by rw [List.length_append, List.length_singleton] at hu; omega
  obtain ⟨av, ba⟩ := av_snoc.mp hav
  obtain ⟨z, hz, z1, z2⟩ := h.le v hv (bg_pre hb) av
  obtain ⟨o1, o2, o3, o4⟩ := h.ok z hz
  have ha := hb.1 a (List.mem_append_right _ List.mem_cons_self)
  obtain ⟨z', hz', e1, e2⟩ := h'.le z.2 a ⟨z, hz, rfl, rdyRL_mem.mpr ⟨ha, by rw [z1]; exact (bg_rdy A (bg_pre hb) ha).mpr hb⟩⟩ (by rw [o3, z1]; exact ba)
  refine ⟨z', hz', by rw [e1, o3, z1, hdF_snoc], Std.le_trans e2 (le_snoc (by omega) z2)⟩
theorem bg_full {ls : Lets} {k : Int} (A : AlphaOk k ls) {wd u : List Int} (hw : WordOk ls wd) (h : Bg ls k wd u) (hl : u.length = wd.length) : Swp ls wd u := by
  obtain ⟨hu, r, hr, hk⟩ := h
  have ho : WordOk ls (u ++ r) := fun x hx => by
    rcases List.mem_append.mp hx with hx | hx
    · exact hu x hx
    · exact hr x hx
  have s := swp_of_alk A (x := []) hw ho hk (.refl _)
  have hlen := (s.word hw).2
  have : r = [] := by
    simp only [List.nil_append, List.length_append] at hlen
    exact List.eq_nil_of_length_eq_zero (by omega)
  rw [this, List.append_nil, List.nil_append] at s
  exact s
theorem swp_bg {ls : Lets} {k : Int} {wd x : List Int} (hw : WordOk ls wd) (s : Swp ls wd x) (m : Nat) : Alk ls k wd (x.take m ++ x.drop m) ∧ Bg ls k wd (x.take m) := by
  have ho := (s.word hw).1
  have al : Alk ls k wd (x.take m ++ x.drop m) := fun p _ _ => by rw [List.take_append_drop]; exact (s.at_ p).symm
  exact ⟨al, fun y hy => ho y (List.mem_of_mem_take hy), x.drop m, fun y hy => ho y (List.mem_of_mem_drop hy), al⟩
theorem hdF_swp {ls : Lets} {k : Int} {u v : List Int} (s : Swp ls u v) : hdF ls k v = hdF ls k u := by
  apply List.ext_getElem
  · rw [hdF_len, hdF_len]
  · intro p h1 h2
    rw [hdF_len] at h1
    have e1 := hdF_get (ls := ls) (u := v) h1
    have e2 := hdF_get (ls := ls) (u := u) h1
    rw [List.getD_eq_getElem?_getD, List.getElem?_eq_getElem (by rw [hdF_len]; exact h1)] at e1 e2
    have e1 : (hdF ls k v)[p]'(by rw [hdF_len]; exact h1) = _ := e1
    have e2 : (hdF ls k u)[p]'(by rw [hdF_len]; exact h1) = _ := e2
    rw [e1, e2, s.at_]
theorem dp_end {ls : Lets} {k : Int} (A : AlphaOk k ls) {wd : List Int} {cs : List (List Int)} (hw : WordOk ls wd) {L : List (List Int × List Int)} (h : Dp ls k wd cs wd.length L) :
    (L = [] ∧ ∀ x, Swp ls wd x → ¬ Av ls k wd cs x) ∨ ∃ h0 o, L = [(h0, o)] ∧ Swp ls wd o ∧ Av ls k wd cs o ∧ ∀ x, Swp ls wd x → Av ls k wd cs x → o ≤ x := by
  have bgo : ∀ x, Swp ls wd x → Bg ls k wd x ∧ x.length = wd.length := fun x s => by
    have := (swp_bg (k := k) hw s x.length).2
    rw [List.take_length] at this
    exact ⟨this, (s.word hw).2⟩
  have full : ∀ z ∈ L, z.1 = hdF ls k wd ∧ Swp ls wd z.2 := fun z hz => by
    obtain ⟨o1, o2, o3, _⟩ := h.ok z hz
    have s := bg_full A hw o2 o1
    exact ⟨by rw [← o3, hdF_swp s], s⟩
  cases L with
  | nil =>
    refine .inl ⟨rfl, fun x s av => ?_⟩
    obtain ⟨z, hz, _⟩ := h.le x (bgo x s).2 (bgo x s).1 av
    cases hz
  | cons z L =>
    have hL : L = [] := by
      cases L with
      | nil => rfl
      | cons y L =>
        have nd := h.nd
        rw [List.map_cons, List.nodup_cons] at nd
        exact absurd (List.mem_map.mpr ⟨y, List.mem_cons_self, by rw [(full y (List.mem_cons_of_mem _ List.mem_cons_self)).1, (full z List.mem_cons_self).1]⟩) nd.1
    subst hL
    obtain ⟨o1, o2, o3, o4⟩ := h.ok z List.mem_cons_self
    refine .inr ⟨z.1, z.2, rfl, (full z List.mem_cons_self).2, o4, fun x s av => ?_⟩
    obtain ⟨y, hy, _, e⟩ := h.le x (bgo x s).2 (bgo x s).1 av
    rw [List.mem_singleton.mp hy] at e
    exact e
/-! #### last letters -/
def lastW (ls : Lets) (k : Int) (u : List Int) : List Int := (List.range k.toNat).map fun p : Nat => (at_ ls p u).getLastD (-1)
theorem lastL_bg {ls : Lets} {k : Int} {wd u r : List Int} (h : Alk ls k wd (u ++ r)) : lastL (pws ls k wd) (hdF ls k u) = lastW ls k u := by
  have pl' : (pws ls k wd).length = k.toNat := by unfold pws; rw [List.length_map, List.length_range]
  unfold lastL lastW
  apply List.ext_getElem
  · rw [List.length_map, List.length_zip, pl', hdF_len, List.length_map, List.length_range, Nat.min_self]
  · intro p h1 h2
    have hp : p < k.toNat := by rw [List.length_map, List.length_range] at h2; exact h2
    rw [List.getElem_map, List.getElem_zip, List.getElem_map, List.getElem_range]
    have e1 : (pws ls k wd)[p]'(by rw [pl']; exact hp) = at_ ls p u ++ at_ ls p r := by
      have e : (pws ls k wd)[p]? = some (at_ ls p u ++ at_ ls p r) := by
        unfold pws
        rw [List.getElem?_map, List.getElem?_range hp]
        show some (at_ ls p wd) = _
        rw [h p (by omega) (by omega), at_app]
      exact (List.getElem?_eq_some_iff.mp e).2
    have e2 : (hdF ls k u)[p]'(by rw [hdF_len]; exact hp) = ((at_ ls p u).length : Int) := by
      have e := hdF_get (ls := ls) (u := u) hp
      rw [List.getD_eq_getElem?_getD, List.getElem?_eq_getElem (by rw [hdF_len]; exact hp)] at e
      exact e
    dsimp only
    rw [e1, e2]
    generalize at_ ls p u = x
    rcases List.eq_nil_or_concat x with rfl | ⟨v, a, e⟩
    · rfl
    · rw [List.concat_eq_append] at e
      subst e
      rw [if_pos (by rw [List.length_append, List.length_singleton]; omega), List.length_append, List.length_singleton, show ((v.length + 1 : Nat) : Int) - 1 = (v.length : Int) by omega, Int.toNat_natCast, List.append_assoc, List.getD_eq_getElem?_getD, List.getElem?_append_right (Nat.le_refl _), Nat.sub_self]
      simp
/-- the conditions hold behind this beginning -/
def met (ls : Lets) (k : Int) (cs : List (List Int)) (u : List Int) : Bool := (List.range k.toNat).all fun p : Nat => decide ((at_ ls p u).getLastD (-1) ∈ cs.getD p [])
theorem bad_met {ls : Lets} {k : Int} {wd u r : List Int} {cs : List (List Int)} (h : Alk ls k wd (u ++ r)) : bad cs (pws ls k wd) (hdF ls k u) = met ls k cs u := by
  unfold bad met
  rw [lastL_bg h, Bool.eq_iff_iff, decide_eq_true_iff, List.all_eq_true]
  have ll : (lastW ls k u).length = k.toNat := by unfold lastW; rw [List.length_map, List.length_range]
  have lg : ∀ p, p < k.toNat → (lastW ls k u).getD p 0 = (at_ ls p u).getLastD (-1) := fun p hp => by
    unfold lastW
    rw [List.getD_eq_getElem?_getD, List.getElem?_map, List.getElem?_range hp]; rfl
  rcases unm_cases cs (lastW ls k u) with ⟨e, hq⟩ | ⟨p, hp, e, hn⟩
  · refine ⟨fun _ p hp => ?_, fun _ => by rw [e]; decide⟩
    have hp := List.mem_range.mp hp
    rw [decide_eq_true_iff, ← lg p hp]
    exact hq p (by omega)
  · refine ⟨fun hlt => by rw [e] at hlt; omega, fun hall => ?_⟩
    have := hall p (List.mem_range.mpr (by omega))
    rw [decide_eq_true_iff, ← lg p (by omega)] at this
    exact absurd this hn
def psB (ls : Lets) (k : Int) (cs : List (List Int)) (x : List Int) : Bool := (List.range (x.length + 1)).any fun m => met ls k cs (x.take m)
theorem av_ps {ls : Lets} {k : Int} {wd x : List Int} {cs : List (List Int)} (hw : WordOk ls wd) (s : Swp ls wd x) : Av ls k wd cs x ↔ psB ls k cs x = false := by
  unfold Av psB
  rw [List.any_eq_false]
  constructor
  · intro h m hm
    have := h m (by have := List.mem_range.mp hm; omega)
    rw [bad_met (swp_bg hw s m).1] at this
    rw [this]; decide
  · intro h m hm
    rw [bad_met (swp_bg hw s m).1]
    have := h m (List.mem_range.mpr (by omega))
    simpa using this
end My
namespace My
open Hq
/-! ### how many orders a word has -/
def rdl (ls : Lets) (r : List Int) : List Int := ((List.range ls.length).filter fun a : Nat => rdy ls r a).map fun a : Nat => (a : Int)
theorem rdl_mem {ls : Lets} {r : List Int} {a : Int} : a ∈ rdl ls r ↔ (0 ≤ a ∧ a < (ls.length : Int)) ∧ rdy ls r a = true := by
  unfold rdl
  constructor
  · intro h
    obtain ⟨b, hb, rfl⟩ := List.mem_map.mp h
    obtain ⟨h1, h2⟩ := List.mem_filter.mp hb
    have := List.mem_range.mp h1
    exact ⟨by omega, h2⟩
  · rintro ⟨⟨h0, h1⟩, h2⟩
    refine List.mem_map.mpr ⟨a.toNat, List.mem_filter.mpr ⟨List.mem_range.mpr (by omega), ?_⟩, Int.toNat_of_nonneg h0⟩
    rw [Int.toNat_of_nonneg h0]; exact h2
theorem rdl_nd {ls : Lets} {r : List Int} : (rdl ls r).Nodup := by
  unfold rdl
  refine List.Pairwise.map _ (fun a b h e => h (by omega)) ((List.nodup_range (n := ls.length)).filter _)
def ords (ls : Lets) : Nat → List Int → List (List Int)
  | 0, _ => [[]]
  | n + 1, r => (rdl ls r).flatMap fun a => (ords ls n (r.erase a)).map fun x => a :: x
def cnt (ls : Lets) : Nat → List Int → Nat
  | 0, _ => 1
  | n + 1, r => ((rdl ls r).map fun a => cnt ls n (r.erase a)).sum
theorem ords_len {ls : Lets} : ∀ (n : Nat) (r : List Int), (ords ls n r).length = cnt ls n r
  | 0, _ => rfl
  | n + 1, r => by
    show ((rdl ls r).flatMap _).length = _
    rw [List.length_flatMap]
    congr 1
    refine List.map_congr_left fun a _ => ?_
    rw [List.length_map, ords_len n]
theorem ords_nd {ls : Lets} : ∀ (n : Nat) (r : List Int), (ords ls n r).Nodup
  | 0, _ => by simp [ords]
  | n + 1, r => by
    show ((rdl ls r).flatMap _).Nodup
    refine List.pairwise_flatMap.mpr ⟨fun a _ => ?_, ?_⟩
    · exact List.Pairwise.map _ (fun x y h e => h (List.cons.inj e).2) (ords_nd n (r.erase a))
    · refine (rdl_nd (ls := ls) (r := r)).imp fun {a b} hab => ?_
      intro x hx y hy e
      obtain ⟨x1, _, rfl⟩ := List.mem_map.mp hx
      obtain ⟨y1, _, e2⟩ := List.mem_map.mp hy
      rw [← e] at e2
      exact hab (List.cons.inj e2).1.symm
theorem alk_len {ls : Lets} {k : Int} (A : AlphaOk k ls) {u v : List Int} (hu : WordOk ls u) (hv : WordOk ls v) (h : Alk ls k u v) : v.length = u.length := by
  have := ((swp_of_alk A (x := []) hu hv h (.refl _)).word hu).2
  simpa using this
theorem ords_mem {ls : Lets} {k : Int} (A : AlphaOk k ls) : ∀ {n : Nat} {r x : List Int}, WordOk ls r → r.length = n → (x ∈ ords ls n r ↔ WordOk ls x ∧ Alk ls k r x)
  | 0, r, x, hr, hn => by
    have : r = [] := List.eq_nil_of_length_eq_zero hn
    subst this
    show x ∈ [[]] ↔ _
    rw [List.mem_singleton]
    constructor
    · rintro rfl; exact ⟨hr, fun p _ _ => rfl⟩
    · rintro ⟨hx, h⟩
      exact List.eq_nil_of_length_eq_zero (alk_len A hr hx h)
  | n + 1, r, x, hr, hn => by
    show x ∈ (rdl ls r).flatMap _ ↔ _
    rw [List.mem_flatMap]
    constructor
    · rintro ⟨a, ha, hx⟩
      obtain ⟨y, hy, rfl⟩ := List.mem_map.mp hx
      obtain ⟨ha1, ha2⟩ := rdl_mem.mp ha
      have hm := (rdy_split A ha1 ha2)
      obtain ⟨r1, r2, e, hn1, _⟩ := hm
      have hmem : a ∈ r := by rw [e]; simp
      obtain ⟨hy1, hy2⟩ := (ords_mem A hr.erase (by rw [List.length_erase_of_mem hmem]; omega)).mp hy
      refine ⟨fun z hz => ?_, fun p h0 h1 => ?_⟩
      · rcases List.mem_cons.mp hz with rfl | hz
        · exact ha1
        · exact hy1 z hz
      · rw [rdy_at A ha1 ha2 p]
        have := hy2 p h0 h1
        unfold at_ at this ⊢
        rw [List.filter_cons, List.filter_cons, this]
    · rintro ⟨hx, h⟩
      cases x with
      | nil => have := alk_len A hr hx h; simp at this; omega
      | cons a y =>
        have ha := hx a List.mem_cons_self
        obtain ⟨h1, h2⟩ := h.head A ha
        obtain ⟨r1, r2, e, hn1, _⟩ := rdy_split A ha h1
        have hmem : a ∈ r := by rw [e]; simp
        exact ⟨a, rdl_mem.mpr ⟨ha, h1⟩, List.mem_map.mpr ⟨y, (ords_mem A hr.erase (by rw [List.length_erase_of_mem hmem]; omega)).mpr ⟨fun z hz => hx z (List.mem_cons_of_mem _ hz), h2⟩, rfl⟩⟩
/-- the orders found swap by swap are as many -/
theorem cnt_orders {ls : Lets} {k : Int} (A : AlphaOk k ls) {w : List Int} (hw : WordOk ls w) {L : List (List Int)} (nd : L.Nodup) (hL : ∀ x, x ∈ L ↔ Swp ls w x) : L.length = cnt ls w.length w := by
  rw [← ords_len]
  have same : ∀ x, x ∈ L ↔ x ∈ ords ls w.length w := fun x => by
    rw [hL, ords_mem A hw rfl]
    constructor
    · intro s; exact ⟨(s.word hw).1, fun p _ _ => (s.at_ p).symm⟩
    · rintro ⟨hx, h⟩
      have := swp_of_alk A (x := []) hw hx h (.refl _)
      simpa using this
  exact Nat.le_antisymm (nodup_le nd fun x hx => (same x).mp hx) (nodup_le (ords_nd _ _) fun x hx => (same x).mpr hx)
/-! #### told by queues -/
def cntQ (ls : Lets) : Nat → Qs → Nat
  | 0, _ => 1
  | n + 1, Q => ((rdyRL ls Q).map fun a => cntQ ls n (mvQ ls a Q)).sum
theorem cntQ_eq {ls : Lets} {k : Int} (A : AlphaOk k ls) : ∀ {n : Nat} {Q : Qs} {r : List Int}, WordOk ls r → QW ls k Q r → cntQ ls n Q = cnt ls n r
  | 0, _, _, _, _ => rfl
  | n + 1, Q, r, hr, h => by
    have e : rdyRL ls Q = rdl ls r := by
      unfold rdyRL rdl
      congr 1
      refine List.filter_congr fun a ha => ?_
      have := List.mem_range.mp ha
      exact h.rdy A ⟨by omega, by omega⟩
    show ((rdyRL ls Q).map _).sum = ((rdl ls r).map _).sum
    rw [e]
    congr 1
    refine List.map_congr_left fun a ha => ?_
    obtain ⟨h1, h2⟩ := rdl_mem.mp ha
    exact cntQ_eq A hr.erase (h.mv A h1 h2)
theorem cnt_pos {ls : Lets} {k : Int} (A : AlphaOk k ls) {r : List Int} (hr : WordOk ls r) : 1 ≤ cnt ls r.length r := by
  rw [← ords_len]
  exact List.length_pos_of_mem ((ords_mem A hr rfl).mpr ⟨hr, fun p _ _ => rfl⟩)
/-! #### two independent parts -/
theorem sum_mul {l : List Int} {f g : Int → Nat} {c : Nat} (h : ∀ a ∈ l, f a = c * g a) : (l.map f).sum = c * (l.map g).sum := by
  induction l with
  | nil => simp
  | cons a l ih =>
    rw [List.map_cons, List.map_cons, List.sum_cons, List.sum_cons, h a List.mem_cons_self, ih fun b hb => h b (List.mem_cons_of_mem _ hb), Nat.mul_add]
theorem sum_split {l : List Int} {f : Int → Nat} {S : Int → Bool} : (l.map f).sum = ((l.filter S).map f).sum + ((l.filter fun a => !S a).map f).sum := by
  induction l with
  | nil => rfl
  | cons a l ih =>
    rw [List.map_cons, List.sum_cons, ih]
    cases h : S a
    · rw [List.filter_cons, if_neg (by rw [h]; decide), List.filter_cons, if_pos (by rw [h]; rfl), List.map_cons, List.sum_cons]; omega
    · rw [List.filter_cons, if_pos (by rw [h]), List.filter_cons, if_neg (by rw [h]; decide), List.map_cons, List.sum_cons]; omega
def Apt (ls : Lets) (S : Int → Bool) (w : List Int) : Prop := ∀ a ∈ w, ∀ b ∈ w, S a = true → S b = false → free ls a b = true
theorem Apt.not {ls S w} (h : Apt ls S w) : Apt ls (fun a => !S a) w := fun a ha b hb h1 h2 => by
  rw [free_comm]
  exact h b hb a ha (by simpa using h2) (by simpa using h1)
theorem rdy_in {ls : Lets} {k : Int} (A : AlphaOk k ls) {a : Int} (ha : 0 ≤ a ∧ a < (ls.length : Int)) {w : List Int} (h : rdy ls w a = true) : a ∈ w := by
  obtain ⟨r1, r2, e, _⟩ := rdy_split A ha h
  rw [e]; simp
theorem apt_at {ls : Lets} {S : Int → Bool} {w : List Int} (h : Apt ls S w) {a : Int} (haw : a ∈ w) (ha : S a = true) {p : Int} (hp : p ∈ pl ls a) : at_ ls p (w.filter S) = at_ ls p w := by
  unfold at_
  rw [List.filter_filter]
  refine List.filter_congr fun b hb => ?_
  cases c : S b
  · have := disj_iff.mp (h a haw b hb ha c) p hp
    simp [this]
  · simp
theorem apt_rdl {ls : Lets} {k : Int} (A : AlphaOk k ls) {S : Int → Bool} {w : List Int} (h : Apt ls S w) : (rdl ls w).filter S = rdl ls (w.filter S) := by
  unfold rdl
  rw [List.filter_map, List.filter_filter]
  congr 1
  refine List.filter_congr fun a ha => ?_
  have ha : 0 ≤ (a : Int) ∧ (a : Int) < (ls.length : Int) := by have := List.mem_range.mp ha; omega
  show (S (a : Int) && rdy ls w a) = rdy ls (w.filter S) a
  rw [Bool.eq_iff_iff, Bool.and_eq_true]
  constructor
  · rintro ⟨h1, h2⟩
    rw [rdy_iff] at h2 ⊢
    have hm := rdy_in A ha (rdy_iff.mpr h2)
    intro p hp
    rw [apt_at h hm h1 hp]
    exact h2 p hp
  · intro h2
    have hm := rdy_in A ha h2
    obtain ⟨hm1, hm2⟩ := List.mem_filter.mp hm
    refine ⟨hm2, ?_⟩
    rw [rdy_iff] at h2 ⊢
    intro p hp
    rw [← apt_at h hm1 hm2 hp]
    exact h2 p hp
theorem filt_erase {S : Int → Bool} {a : Int} (h : S a = true) : ∀ w : List Int, (w.erase a).filter S = (w.filter S).erase a
  | [] => rfl
  | b :: w => by
    by_cases e : b = a
    · subst e
      rw [List.erase_cons_head, List.filter_cons, if_pos h, List.erase_cons_head]
    · rw [List.erase_cons_tail (by simpa using e), List.filter_cons, List.filter_cons]
      cases c : S b
      · simp only [Bool.false_eq_true, if_false]; exact filt_erase h w
      · simp only [if_true]
        rw [List.erase_cons_tail (by simpa using e), filt_erase h w]
theorem filt_erase_no {S : Int → Bool} {a : Int} (h : S a = false) : ∀ w : List Int, (w.erase a).filter S = w.filter S
  | [] => rfl
  | b :: w => by
    by_cases e : b = a
    · subst e
      rw [List.erase_cons_head, List.filter_cons, if_neg (by rw [h]; decide)]
    · rw [List.erase_cons_tail (by simpa using e), List.filter_cons, List.filter_cons, filt_erase_no h w]
theorem cnt_two {ls : Lets} {k : Int} (A : AlphaOk k ls) {S : Int → Bool} : ∀ {n : Nat} {w : List Int}, w.length = n → WordOk ls w → Apt ls S w →
    cnt ls n w = chs n (w.filter S).length * (cnt ls (w.filter S).length (w.filter S) * cnt ls (w.filter fun a => !S a).length (w.filter fun a => !S a))
  | 0, w, hl, _, _ => by
    have : w = [] := List.eq_nil_of_length_eq_zero hl
    subst this
    rfl
  | n + 1, w, hl, hw, hp => by
    have hsum : (w.filter S).length + (w.filter fun a => !S a).length = n + 1 := by
      rw [← hl]
      clear hl hw hp
      induction w with
      | nil => rfl
      | cons a w ih =>
        cases h : S a
        · rw [List.filter_cons, if_neg (by rw [h]; decide), List.filter_cons, if_pos (by rw [h]; rfl), List.length_cons, List.length_cons]; omega
        · rw [List.filter_cons, if_pos (by rw [h]), List.filter_cons, if_neg (by rw [h]; decide), List.length_cons, List.length_cons]; omega
    have sub : ∀ a, Apt ls S (w.erase a) := fun a x hx y hy => hp x (List.mem_of_mem_erase hx) y (List.mem_of_mem_erase hy)
    have ih : ∀ a ∈ rdl ls w, cnt ls n (w.erase a) = chs n ((w.erase a).filter S).length * (cnt ls ((w.erase a).filter S).length ((w.erase a).filter S) * cnt ls ((w.erase a).filter fun a => !S a).length ((w.erase a).filter fun a => !S a)) := fun a ha => by
      obtain ⟨h1, h2⟩ := rdl_mem.mp ha
      exact cnt_two A (by rw [List.length_erase_of_mem (rdy_in A h1 h2)]; omega) hw.erase (sub a)
    have e2 : (rdl ls w).filter (fun a => !S a) = rdl ls (w.filter fun a => !S a) := apt_rdl A hp.not
    show ((rdl ls w).map fun a => cnt ls n (w.erase a)).sum = _
    rw [sum_split (S := S), apt_rdl A hp, e2]
    -- the letters of the one part
    have p1 : ((rdl ls (w.filter S)).map fun a => cnt ls n (w.erase a)).sum = (match (w.filter S).length with | 0 => 0 | s + 1 => chs n s) * (cnt ls (w.filter S).length (w.filter S) * cnt ls (w.filter fun a => !S a).length (w.filter fun a => !S a)) := by
      cases hs : (w.filter S).length with
      | zero =>
        have : w.filter S = [] := List.eq_nil_of_length_eq_zero hs
        have r0 : rdl ls ([] : List Int) = [] := List.eq_nil_iff_forall_not_mem.mpr fun a ha => by
          obtain ⟨h1, h2⟩ := rdl_mem.mp ha
          cases rdy_in A h1 h2
        rw [this, r0, Nat.zero_mul]; rfl
      | succ s =>
        show _ = chs n s * (((rdl ls (w.filter S)).map fun a => cnt ls s ((w.filter S).erase a)).sum * _)
        rw [Nat.mul_comm ((rdl ls (w.filter S)).map _).sum, ← Nat.mul_assoc]
        refine sum_mul fun a ha => ?_
        obtain ⟨h1, h2⟩ := rdl_mem.mp ha
        have hm := rdy_in A h1 h2
        obtain ⟨hm1, hm2⟩ := List.mem_filter.mp hm
        have haw : a ∈ rdl ls w := by
          rw [← apt_rdl A hp] at ha
          exact (List.mem_filter.mp ha).1
        rw [ih a haw, filt_erase hm2, filt_erase_no (S := fun a => !S a) (by show (!S a) = false; rw [hm2]; rfl), List.length_erase_of_mem hm, hs, Nat.add_sub_cancel, Nat.mul_comm (cnt ls s _), ← Nat.mul_assoc]
    have p2 : ((rdl ls (w.filter fun a => !S a)).map fun a => cnt ls n (w.erase a)).sum = chs n (w.filter S).length * (cnt ls (w.filter S).length (w.filter S) * cnt ls (w.filter fun a => !S a).length (w.filter fun a => !S a)) := by
      cases ht : (w.filter fun a => !S a).length with
      | zero =>
        have : (w.filter fun a => !S a) = [] := List.eq_nil_of_length_eq_zero ht
        have r0 : rdl ls ([] : List Int) = [] := List.eq_nil_iff_forall_not_mem.mpr fun a ha => by
          obtain ⟨h1, h2⟩ := rdl_mem.mp ha
          cases rdy_in A h1 h2
        rw [this, r0, chs_gt (show n < (w.filter S).length by omega), Nat.zero_mul]; rfl
      | succ t =>
        show _ = chs n (w.filter S).length * (_ * ((rdl ls (w.filter fun a => !S a)).map fun a => cnt ls t ((w.filter fun a => !S a).erase a)).sum)
        rw [← Nat.mul_assoc]
        refine sum_mul fun a ha => ?_
        obtain ⟨h1, h2⟩ := rdl_mem.mp ha
        have hm := rdy_in A h1 h2
        obtain ⟨hm1, hm2⟩ := List.mem_filter.mp hm
        have hSa : S a = false := by simpa using hm2
        have haw : a ∈ rdl ls w := by
          rw [← e2] at ha
          exact (List.mem_filter.mp ha).1
        rw [ih a haw, filt_erase_no hSa, filt_erase (S := fun a => !S a) hm2, List.length_erase_of_mem hm, ht, Nat.add_sub_cancel, ← Nat.mul_assoc]
    rw [p1, p2, ← Nat.add_mul]
    congr 1
    cases hs : (w.filter S).length with
    | zero => show 0 + chs n 0 = chs (n + 1) 0; rw [chs_zero, chs_zero]
    | succ s => rfl
end My
namespace My
/-! ### components -/
inductive Rc (ls : Lets) (S : List Int) (a : Int) : Int → Prop
  | refl : Rc ls S a a
  | step {x y : Int} : Rc ls S a x → y ∈ S → free ls x y = false → Rc ls S a y
open Classical in
noncomputable def rch (ls : Lets) (S : List Int) : List Int := S.filter fun x => decide (Rc ls S (S.headD 0) x)
noncomputable def cmpN (ls : Lets) : Nat → List Int → List (List Int)
  | 0, _ => []
  | n + 1, S => if S = [] then [] else rch ls S :: cmpN ls n (S.filter fun x => !decide (x ∈ rch ls S))
noncomputable def cmps (ls : Lets) (S : List Int) : List (List Int) := cmpN ls S.length S
theorem mem_rch {ls : Lets} {S : List Int} {x : Int} : x ∈ rch ls S ↔ x ∈ S ∧ Rc ls S (S.headD 0) x := by
  unfold rch
  rw [List.mem_filter]; simp
theorem rch_up {ls : Lets} {S : List Int} (h : S.Pairwise (· < ·)) : (rch ls S).Pairwise (· < ·) := h.filter _
theorem rch_hd {ls : Lets} {S : List Int} (h : S ≠ []) : S.headD 0 ∈ rch ls S := by
  obtain ⟨a, S, rfl⟩ := List.exists_cons_of_ne_nil h
  exact mem_rch.mpr ⟨List.mem_cons_self, .refl⟩
theorem left_lt {ls : Lets} {S : List Int} (h : S ≠ []) : (S.filter fun x => !decide (x ∈ rch ls S)).length < S.length := by
  have hm := rch_hd (ls := ls) h
  have hS := (mem_rch.mp hm).1
  exact List.length_filter_lt_length_iff_exists.mpr ⟨_, hS, by rw [decide_eq_true hm]; decide⟩
theorem cmpN_fuel {ls : Lets} : ∀ {n m : Nat} {S : List Int}, S.length ≤ n → S.length ≤ m → cmpN ls n S = cmpN ls m S
  | 0, 0, _, _, _ => rfl
  | 0, m + 1, S, h, _ => by
    have : S = [] := List.length_eq_zero_iff.mp (Nat.le_zero.mp h)
    unfold cmpN; rw [if_pos this]
  | n + 1, 0, S, _, h => by
    have : S = [] := List.length_eq_zero_iff.mp (Nat.le_zero.mp h)
    unfold cmpN; rw [if_pos this]
  | n + 1, m + 1, S, h1, h2 => by
    unfold cmpN
    by_cases e : S = []
    · rw [if_pos e, if_pos e]
    · rw [if_neg e, if_neg e]
      have := left_lt (ls := ls) e
      rw [cmpN_fuel (n := n) (m := m) (by omega) (by omega)]
theorem cmps_nil {ls : Lets} : cmps ls [] = [] := rfl
theorem cmps_step {ls : Lets} {S : List Int} (h : S ≠ []) : cmps ls S = rch ls S :: cmps ls (S.filter fun x => !decide (x ∈ rch ls S)) := by
  obtain ⟨a, S', e⟩ := List.exists_cons_of_ne_nil h
  have l1 : S.length = S'.length + 1 := by rw [e]; rfl
  have := left_lt (ls := ls) h
  unfold cmps
  rw [l1, show cmpN ls (S'.length + 1) S = if S = [] then [] else rch ls S :: cmpN ls S'.length (S.filter fun x => !decide (x ∈ rch ls S)) from rfl, if_neg h, cmpN_fuel (n := S'.length) (m := (S.filter fun x => !decide (x ∈ rch ls S)).length) (by omega) (Nat.le_refl _)]
/-- what the growing list keeps: s letters of it are done -/
structure Rg (ls : Lets) (S P : List Int) (s : Nat) : Prop where
  nd : P.Nodup
  sub : ∀ x ∈ P, x ∈ S ∧ Rc ls S (S.headD 0) x
  hd : S.headD 0 ∈ P
  le : s ≤ P.length
  cl : ∀ i, i < s → ∀ y ∈ S, free ls (P.getD i 0) y = false → y ∈ P
theorem Rg.len {ls : Lets} {S P : List Int} {s : Nat} (h : Rg ls S P s) : P.length ≤ S.length := by
  have : ∀ {P S : List Int}, P.Nodup → (∀ x ∈ P, x ∈ S) → P.length ≤ S.length := by
    intro P
    induction P with
    | nil => intro S _ _; exact Nat.zero_le _
    | cons a P ih =>
      intro S nd sub
      obtain ⟨n1, n2⟩ := List.nodup_cons.mp nd
      have ha := sub a List.mem_cons_self
      have := ih (S := S.erase a) n2 fun x hx => (List.mem_erase_of_ne (fun z : x = a => n1 (z ▸ hx))).mpr (sub x (List.mem_cons_of_mem _ hx))
      rw [List.length_erase_of_mem ha] at this
      have := List.length_pos_of_mem ha
      rw [List.length_cons]; omega
  exact this h.nd fun x hx => (h.sub x hx).1
theorem Rg.start {ls : Lets} {S : List Int} (h : S ≠ []) : Rg ls S [S.headD 0] 0 := by
  obtain ⟨a, S, rfl⟩ := List.exists_cons_of_ne_nil h
  exact ⟨by simp, fun x hx => by rw [List.mem_singleton.mp hx]; exact ⟨List.mem_cons_self, .refl⟩, by simp, Nat.zero_le _, fun i hi => absurd hi (Nat.not_lt_zero _)⟩
theorem Rg.add {ls : Lets} {S P : List Int} {s : Nat} (h : Rg ls S P s) {y : Int} (hs : s < P.length) (hy : y ∈ S) (hn : y ∉ P) (hf : free ls (P.getD s 0) y = false) : Rg ls S (P ++ [y]) s := by
  have gs : P.getD s 0 ∈ P := by rw [getD_at hs]; exact List.getElem_mem hs
  refine ⟨?_, fun x hx => ?_, List.mem_append_left _ h.hd, by rw [List.length_append]; omega, fun i hi z hz hf2 => ?_⟩
  · rw [List.nodup_append]
    exact ⟨h.nd, by simp, fun a ha b hb => by rw [List.mem_singleton.mp hb]; exact fun z : a = y => hn (z ▸ ha)⟩
  · rcases List.mem_append.mp hx with z | z
    · exact h.sub x z
    · rw [List.mem_singleton.mp z]; exact ⟨hy, .step (h.sub _ gs).2 hy hf⟩
  · refine List.mem_append_left _ (h.cl i hi z hz ?_)
    rwa [List.getD_eq_getElem?_getD, List.getElem?_append_left (by omega), ← List.getD_eq_getElem?_getD] at hf2
theorem Rg.done {ls : Lets} {S P B : List Int} (h : Rg ls S P P.length) (hS : S.Pairwise (· < ·)) (hp : B.Perm P) (hb : B.Pairwise (· ≤ ·)) : B = rch ls S := by
  refine lt_unique ?_ (rch_up hS) fun x => ?_
  · have nb : B.Nodup := hp.nodup_iff.mpr h.nd
    exact (List.Pairwise.and hb nb).imp fun ⟨h1, h2⟩ => by omega
  · rw [hp.mem_iff, mem_rch]
    refine ⟨h.sub x, fun hr => ?_⟩
    have r := hr.2
    clear hr
    induction r with
    | refl => exact h.hd
    | step _ hy hf ih =>
      obtain ⟨i, hi, e⟩ := List.getElem_of_mem ih
      exact h.cl i hi _ hy (by rw [getD_at hi, e]; exact hf)
end My
namespace My
open Hq
/-! ### counts by heads -/
def sumW (g : List Int → Nat) (L : List (List Int × Nat)) : Nat := (L.map fun z => z.2 * g z.1).sum
theorem lkV_some {β : Type} {L : List (List Int × β)} {l : List Int} {w : β} (h : lkV L l = some w) : (l, w) ∈ L := by
  unfold lkV at h
  obtain ⟨z, hz, rfl⟩ := Option.map_eq_some_iff.mp h
  have e : z.1 = l := by simpa using List.find?_some hz
  rw [← e]
  exact List.mem_of_find?_eq_some hz
theorem lkV_none {β : Type} {L : List (List Int × β)} {l : List Int} (h : lkV L l = none) {z : List Int × β} (hz : z ∈ L) : z.1 ≠ l := fun e => by
  unfold lkV at h
  have h := List.find?_eq_none.mp (Option.map_eq_none_iff.mp h) z hz
  simp [e] at h
theorem putV_of {β : Type} {L : List (List Int × β)} {l : List Int} {w : β} {z : List Int × β} (h : z ∈ putV L l w) : z = (l, w) ∨ z ∈ L := by
  unfold putV at h
  split at h
  · obtain ⟨y, hy, e⟩ := List.mem_map.mp h
    by_cases c : y.1 = l
    · rw [if_pos c] at e; rw [← e, c]; exact .inl rfl
    · rw [if_neg c] at e; rw [← e]; exact .inr hy
  · rcases List.mem_append.mp h with h | h
    · exact .inr h
    · exact .inl (List.mem_singleton.mp h)
theorem putV_nd {β : Type} {L : List (List Int × β)} {l : List Int} {w : β} (h : (L.map (·.1)).Nodup) : ((putV L l w).map (·.1)).Nodup := by
  unfold putV
  split
  · rw [List.map_map]
    have e : ((fun z : List Int × β => z.1) ∘ fun z : List Int × β => if z.1 = l then (z.1, w) else z) = fun z => z.1 := by
      funext z
      show (if z.1 = l then (z.1, w) else z).1 = z.1
      split <;> rfl
    rw [e]; exact h
  · rename_i hn
    rw [List.map_append]
    refine List.nodup_append.mpr ⟨h, by simp, fun x hx y hy => ?_⟩
    have hy : y = l := by simpa using hy
    obtain ⟨z, hz, rfl⟩ := List.mem_map.mp hx
    rw [hy]
    exact fun e => hn (List.any_eq_true.mpr ⟨z, hz, by simpa using e⟩)
theorem sumW_at {g : List Int → Nat} {b : List Int} {w c : Nat} : ∀ {L : List (List Int × Nat)}, (L.map (·.1)).Nodup → (b, w) ∈ L → sumW g (L.map fun z => if z.1 = b then (z.1, w + c) else z) = sumW g L + c * g b
  | [], _, h => by cases h
  | z :: L, nd, h => by
    rw [List.map_cons, List.nodup_cons] at nd
    by_cases e : z.1 = b
    · have hz : z = (b, w) := by
        rcases List.mem_cons.mp h with h | h
        · exact h.symm
        · exact absurd (List.mem_map.mpr ⟨_, h, e.symm⟩) nd.1
      have hr : (L.map fun z => if z.1 = b then (z.1, w + c) else z) = L := by
        have : (L.map fun z => if z.1 = b then (z.1, w + c) else z) = L.map id := List.map_congr_left fun y hy => by
          rw [if_neg fun e2 => nd.1 (List.mem_map.mpr ⟨y, hy, by rw [e2, e]⟩)]; rfl
        rw [this, List.map_id]
      subst hz
      show ((if (b, w).1 = b then ((b, w).1, w + c) else (b, w)).2 * g (if (b, w).1 = b then ((b, w).1, w + c) else (b, w)).1 + sumW g (L.map _)) = w * g b + sumW g L + c * g b
      rw [hr, if_pos rfl, Nat.add_mul]
      show w * g b + c * g b + sumW g L = _
      omega
    · have hz : (b, w) ∈ L := by
        rcases List.mem_cons.mp h with h | h
        · rw [← h] at e; exact absurd rfl e
        · exact h
      show ((if z.1 = b then (z.1, w + c) else z).2 * g (if z.1 = b then (z.1, w + c) else z).1 + sumW g (L.map _)) = z.2 * g z.1 + sumW g L + c * g b
      rw [if_neg e, sumW_at nd.2 hz]
      omega
theorem sumW_put {g : List Int → Nat} {b : List Int} {c : Nat} {L : List (List Int × Nat)} (nd : (L.map (·.1)).Nodup) : sumW g (putV L b ((lkV L b).getD 0 + c)) = sumW g L + c * g b := by
  cases h : lkV L b with
  | some w =>
    have hm := lkV_some h
    unfold putV
    rw [if_pos (List.any_eq_true.mpr ⟨_, hm, by simp⟩)]
    exact sumW_at nd hm
  | none =>
    unfold putV
    rw [if_neg fun hn => by
      obtain ⟨z, hz, e⟩ := List.any_eq_true.mp hn
      exact lkV_none h hz (by simpa using e)]
    unfold sumW
    rw [List.map_append, List.sum_append]
    show _ + ((0 + c) * g b + 0) = _
    rw [Nat.zero_add, Nat.add_zero]
structure Dc (ls : Lets) (k : Int) (wd : List Int) (rem X : Nat) (L : List (List Int × Nat)) : Prop where
  nd : (L.map (·.1)).Nodup
  ok : ∀ z ∈ L, 1 ≤ z.2 ∧ QOk k (pws ls k wd) z.1 ∧ ∃ r, WordOk ls r ∧ r.length = rem ∧ QW ls k (rq (pws ls k wd) z.1) r
  sum : sumW (fun h => cntQ ls rem (rq (pws ls k wd) h)) L = X
theorem sumW_len {g : List Int → Nat} : ∀ {L : List (List Int × Nat)}, (∀ z ∈ L, 1 ≤ z.2 * g z.1) → L.length ≤ sumW g L
  | [], _ => Nat.zero_le _
  | z :: L, h => by
    have := sumW_len (g := g) fun y hy => h y (List.mem_cons_of_mem _ hy)
    have := h z List.mem_cons_self
    show L.length + 1 ≤ z.2 * g z.1 + sumW g L
    omega
theorem Dc.len {ls : Lets} {k : Int} (A : AlphaOk k ls) {wd : List Int} {rem X : Nat} {L : List (List Int × Nat)} (h : Dc ls k wd rem X L) : L.length ≤ X := by
  rw [← h.sum]
  refine sumW_len fun z hz => ?_
  obtain ⟨h1, _, r, hr, hl, hq⟩ := h.ok z hz
  have := cnt_pos A hr
  rw [hl, ← cntQ_eq A (n := rem) hr hq] at this
  exact Nat.mul_le_mul h1 this
theorem dc_start {ls : Lets} {k : Int} (A : AlphaOk k ls) {wd : List Int} (hw : WordOk ls wd) : Dc ls k wd wd.length (cnt ls wd.length wd) [(List.replicate k.toNat 0, 1)] := by
  have pl' : (pws ls k wd).length = k.toNat := by unfold pws; rw [List.length_map, List.length_range]
  obtain ⟨z1, z2⟩ := rq_zero pl'
  refine ⟨by simp, fun z hz => ?_, ?_⟩
  · rw [List.mem_singleton.mp hz]
    exact ⟨Nat.le_refl _, z1, wd, hw, rfl, by rw [z2]; exact qw_pws⟩
  · show 1 * cntQ ls wd.length (rq (pws ls k wd) (List.replicate k.toNat 0)) + 0 = _
    rw [z2, cntQ_eq A hw qw_pws, Nat.one_mul, Nat.add_zero]
theorem dc_put {ls : Lets} {k : Int} (A : AlphaOk k ls) {wd : List Int} {rem X : Nat} {L' : List (List Int × Nat)} (h : Dc ls k wd rem X L') {z : List Int × Nat} (hz : 1 ≤ z.2 ∧ QOk k (pws ls k wd) z.1 ∧ ∃ r, WordOk ls r ∧ r.length = rem + 1 ∧ QW ls k (rq (pws ls k wd) z.1) r) {a : Int} (ha : a ∈ rdyRL ls (rq (pws ls k wd) z.1)) :
    Dc ls k wd rem (X + z.2 * cntQ ls rem (mvQ ls a (rq (pws ls k wd) z.1))) (putV L' (mvH ls a z.1) ((lkV L' (mvH ls a z.1)).getD 0 + z.2)) := by
  obtain ⟨c1, q, r, hr, hl, hq⟩ := hz
  obtain ⟨ha1, ha2⟩ := rdyRL_mem.mp ha
  have hrd : rdy ls r a = true := by rw [← hq.rdy A ha1]; exact ha2
  refine ⟨putV_nd h.nd, fun y hy => ?_, by rw [sumW_put h.nd, h.sum, rq_mv q]⟩
  rcases putV_of hy with rfl | hy
  · refine ⟨by show 1 ≤ _ + z.2; omega, q.mv, r.erase a, hr.erase, by rw [List.length_erase_of_mem (rdy_in A ha1 hrd)]; omega, ?_⟩
    show QW ls k (rq (pws ls k wd) (mvH ls a z.1)) _
    rw [rq_mv q]
    exact hq.mv A ha1 hrd
  · exact h.ok y hy
theorem dc_end {ls : Lets} {k : Int} {wd : List Int} {X : Nat} {L : List (List Int × Nat)} (h : Dc ls k wd 0 X L) : (L.map fun z => (z.2 : Int)).sum = (X : Int) := by
  rw [← h.sum]
  clear h
  unfold sumW
  induction L with
  | nil => rfl
  | cons z L ih =>
    rw [List.map_cons, List.sum_cons, List.map_cons, List.sum_cons, ih]
    show (z.2 : Int) + _ = ((z.2 * 1 + _ : Nat) : Int)
    omega
end My
namespace My
open Hq
/-! ### components, one after another -/
theorem rch_free {ls : Lets} {S : List Int} {x y : Int} (hx : x ∈ rch ls S) (hy : y ∈ S) (hn : y ∉ rch ls S) : free ls x y = true := by
  cases h : free ls x y with
  | true => rfl
  | false => exact absurd (mem_rch.mpr ⟨hy, (mem_rch.mp hx).2.step hy h⟩) hn
def Sep (ls : Lets) (p q : List Int) : Prop := ∀ x ∈ p, ∀ y ∈ q, free ls x y = true ∧ x ≠ y
theorem cmps_ok {ls : Lets} : ∀ (n : Nat) (S : List Int), S.length ≤ n → (∀ p ∈ cmps ls S, ∀ x ∈ p, x ∈ S) ∧ (∀ x ∈ S, ∃ p ∈ cmps ls S, x ∈ p) ∧ (cmps ls S).Pairwise (Sep ls)
  | 0, S, h => by
    have : S = [] := List.eq_nil_of_length_eq_zero (by omega)
    subst this
    rw [cmps_nil]
    exact ⟨fun p h => (by cases h), fun x h => (by cases h), .nil⟩
  | n + 1, S, h => by
    by_cases e : S = []
    · subst e
      rw [cmps_nil]
      exact ⟨fun p h => (by cases h), fun x h => (by cases h), .nil⟩
    · have lt := left_lt (ls := ls) e
      obtain ⟨h1, h2, h3⟩ := cmps_ok n (S.filter fun x => !decide (x ∈ rch ls S)) (by omega)
      have sub : ∀ x, x ∈ (S.filter fun x => !decide (x ∈ rch ls S)) ↔ x ∈ S ∧ x ∉ rch ls S := fun x => by rw [List.mem_filter]; simp
      rw [cmps_step e]
      refine ⟨fun p hp x hx => ?_, fun x hx => ?_, List.pairwise_cons.mpr ⟨fun q hq x hx y hy => ?_, h3⟩⟩
      · rcases List.mem_cons.mp hp with rfl | hp
        · exact (mem_rch.mp hx).1
        · exact ((sub x).mp (h1 p hp x hx)).1
      · by_cases c : x ∈ rch ls S
        · exact ⟨_, List.mem_cons_self, c⟩
        · obtain ⟨p, hp, hxp⟩ := h2 x ((sub x).mpr ⟨hx, c⟩)
          exact ⟨p, List.mem_cons_of_mem _ hp, hxp⟩
      · obtain ⟨y1, y2⟩ := (sub y).mp (h1 q hq y hy)
        exact ⟨rch_free hx y1 y2, fun e => y2 (e ▸ hx)⟩
theorem filt_len {S : Int → Bool} (w : List Int) : (w.filter S).length + (w.filter fun a => !S a).length = w.length := by
  induction w with
  | nil => rfl
  | cons a w ih =>
    cases h : S a
    · rw [List.filter_cons, if_neg (by rw [h]; decide), List.filter_cons, if_pos (by rw [h]; rfl), List.length_cons, List.length_cons]; omega
    · rw [List.filter_cons, if_pos (by rw [h]), List.filter_cons, if_neg (by rw [h]; decide), List.length_cons, List.length_cons]; omega
/-- the word's letters in the first i parts -/
noncomputable def upto (ls : Lets) (S w : List Int) (i : Nat) : List Int := w.filter fun a => decide (a ∈ ((cmps ls S).take i).flatten)
theorem upto_zero {ls : Lets} {S w : List Int} : upto ls S w 0 = [] := by
  unfold upto
  rw [List.take_zero, List.filter_eq_nil_iff]
  intro a _
  simp
theorem upto_all {ls : Lets} {S w : List Int} (h : ∀ a ∈ w, a ∈ S) : upto ls S w (cmps ls S).length = w := by
  unfold upto
  rw [List.take_length, List.filter_eq_self]
  intro a ha
  obtain ⟨p, hp, hx⟩ := (cmps_ok _ S (Nat.le_refl _)).2.1 a (h a ha)
  exact decide_eq_true (List.mem_flatten.mpr ⟨p, hp, hx⟩)
/-- one part more -/
theorem upto_step {ls : Lets} {k : Int} (A : AlphaOk k ls) {S w p : List Int} {i : Nat} (hw : WordOk ls w) (hp : (cmps ls S)[i]? = some p) :
    (upto ls S w (i + 1)).length = (upto ls S w i).length + (w.filter fun a => decide (a ∈ p)).length ∧
    cnt ls (upto ls S w (i + 1)).length (upto ls S w (i + 1)) = cnt ls (upto ls S w i).length (upto ls S w i) * chs (upto ls S w (i + 1)).length (w.filter fun a => decide (a ∈ p)).length * cnt ls (w.filter fun a => decide (a ∈ p)).length (w.filter fun a => decide (a ∈ p)) := by
  obtain ⟨hi, ep⟩ := List.getElem?_eq_some_iff.mp hp
  have pw := (cmps_ok (ls := ls) _ S (Nat.le_refl _)).2.2
  have old : ∀ a ∈ ((cmps ls S).take i).flatten, ∀ b ∈ p, free ls a b = true ∧ a ≠ b := fun a ha b hb => by
    obtain ⟨q, hq, haq⟩ := List.mem_flatten.mp ha
    obtain ⟨j, hj, e⟩ := List.mem_iff_getElem.mp hq
    rw [List.length_take] at hj
    rw [List.getElem_take] at e
    have := List.pairwise_iff_getElem.mp pw j i (by omega) hi (by omega)
    rw [e, ep] at this
    exact this a haq b hb
  have mem1 : ∀ a, a ∈ ((cmps ls S).take (i + 1)).flatten ↔ a ∈ ((cmps ls S).take i).flatten ∨ a ∈ p := fun a => by
    rw [List.take_add_one, hp, List.flatten_append, List.mem_append]
    simp
  have f1 : (upto ls S w (i + 1)).filter (fun a => decide (a ∈ p)) = w.filter fun a => decide (a ∈ p) := by
    unfold upto
    rw [List.filter_filter]
    refine List.filter_congr fun a _ => ?_
    rw [Bool.eq_iff_iff, Bool.and_eq_true, decide_eq_true_iff, decide_eq_true_iff, mem1]
    exact ⟨fun h => h.1, fun h => ⟨h, .inr h⟩⟩
  have f2 : (upto ls S w (i + 1)).filter (fun a => !decide (a ∈ p)) = upto ls S w i := by
    unfold upto
    rw [List.filter_filter]
    refine List.filter_congr fun a _ => ?_
    rw [Bool.eq_iff_iff, Bool.and_eq_true, decide_eq_true_iff, decide_eq_true_iff, mem1, Bool.not_eq_true', decide_eq_false_iff_not]
    exact ⟨fun h => h.2.resolve_right h.1, fun h => ⟨fun hp => (old a h a hp).2 rfl, .inl h⟩⟩
  have apt : Apt ls (fun a => decide (a ∈ p)) (upto ls S w (i + 1)) := fun a _ b hb h1 h2 => by
    unfold upto at hb
    have hb := (mem1 b).mp (of_decide_eq_true (List.mem_filter.mp hb).2)
    rw [free_comm]
    exact (old b (hb.resolve_right (of_decide_eq_false h2)) a (of_decide_eq_true h1)).1
  have wk : WordOk ls (upto ls S w (i + 1)) := fun x hx => hw x (List.mem_filter.mp hx).1
  have c := cnt_two A (n := (upto ls S w (i + 1)).length) rfl wk apt
  have l := filt_len (S := fun a => decide (a ∈ p)) (upto ls S w (i + 1))
  rw [f1, f2] at c l
  refine ⟨by omega, ?_⟩
  rw [c, Nat.mul_comm (cnt ls (upto ls S w i).length _), Nat.mul_assoc, Nat.mul_comm (cnt ls (w.filter _).length _)]
/-- where all letters share a place there is one order -/
theorem cnt_one {ls : Lets} {k : Int} (A : AlphaOk k ls) {w : List Int} (hw : WordOk ls w) {p : Int} (h0 : 0 ≤ p) (h1 : p < k) (h : ∀ a ∈ w, p ∈ pl ls a) : cnt ls w.length w = 1 := by
  have lo := cnt_pos A hw
  have all : ∀ x ∈ ords ls w.length w, x = w := fun x hx => by
    obtain ⟨hx1, hx2⟩ := (ords_mem A hw rfl).mp hx
    have s := swp_of_alk A (x := []) hw hx1 hx2 (.refl _)
    rw [List.nil_append, List.nil_append] at s
    have e1 : at_ ls p w = w := List.filter_eq_self.mpr fun a ha => decide_eq_true (h a ha)
    have e2 : at_ ls p x = x := List.filter_eq_self.mpr fun a ha => decide_eq_true (h a ((swp_perm s).mem_iff.mpr ha))
    rw [← e2, s.at_, e1]
  have := nodup_le (m := [w]) (ords_nd w.length w) fun x hx => by rw [all x hx]; exact List.mem_cons_self
  rw [ords_len] at this
  simp at this
  omega
end My
namespace My
open Hq
theorem cnt_few {ls : Lets} {k : Int} (A : AlphaOk k ls) {w : List Int} (hw : WordOk ls w) (hl : w.length ≤ 7) : cnt ls w.length w ≤ 5040 := by
  obtain ⟨b1, b2, b3⟩ := bfs_all (ls := ls) (w := w) (m := 6000) (Nat.le_trans (fct_mono hl) (by decide))
  rw [← cnt_orders A hw b1 b3]
  exact Nat.le_trans b2 (Nat.le_trans (fct_mono hl) (by decide))
theorem cnt_same {ls : Lets} {k : Int} (A : AlphaOk k ls) {w : List Int} (hw : WordOk ls w) {c : Int} (h : ∀ a ∈ w, a = c) : cnt ls w.length w = 1 := by
  cases w with
  | nil => rfl
  | cons a w =>
    have ha := hw a List.mem_cons_self
    obtain ⟨pne, _, pok⟩ := A.ok _ (pl_mem ha.1 ha.2)
    obtain ⟨p, hp⟩ := List.exists_mem_of_ne_nil _ pne
    refine cnt_one A hw (pok p hp).1 (pok p hp).2 fun b hb => ?_
    rw [h b hb, ← h a List.mem_cons_self]; exact hp
theorem cmps_ne {ls : Lets} : ∀ (n : Nat) (S : List Int), S.length ≤ n → ∀ p ∈ cmps ls S, p ≠ []
  | 0, S, h, p, hp => by
    have : S = [] := List.eq_nil_of_length_eq_zero (by omega)
    subst this
    rw [cmps_nil] at hp; cases hp
  | n + 1, S, h, p, hp => by
    by_cases e : S = []
    · subst e; rw [cmps_nil] at hp; cases hp
    · rw [cmps_step e] at hp
      rcases List.mem_cons.mp hp with rfl | hp
      · exact fun e2 => by have := rch_hd (ls := ls) e; rw [e2] at this; cases this
      · exact cmps_ne n _ (by have := left_lt (ls := ls) e; omega) p hp
theorem cmps_apart {ls : Lets} : ∀ (n : Nat) (S : List Int), S.length ≤ n → (∀ x ∈ S, ∀ y ∈ S, x ≠ y → free ls x y = true) → ∀ p ∈ cmps ls S, ∀ x ∈ p, ∀ y ∈ p, x = y
  | 0, S, h, _, p, hp => by
    have : S = [] := List.eq_nil_of_length_eq_zero (by omega)
    subst this
    rw [cmps_nil] at hp; cases hp
  | n + 1, S, h, hf, p, hp => by
    by_cases e : S = []
    · subst e; rw [cmps_nil] at hp; cases hp
    · rw [cmps_step e] at hp
      rcases List.mem_cons.mp hp with rfl | hp
      · have key : ∀ x, Rc ls S (S.headD 0) x → x = S.headD 0 := fun x h => by
          induction h with
          | refl => rfl
          | @step x y _ hy hn ih =>
            refine Classical.byContradiction fun c => ?_
            rw [ih] at hn
            rw [hf _ (mem_rch.mp (rch_hd (ls := ls) e)).1 y hy (fun e => c e.symm)] at hn
            cases hn
        intro x hx y hy
        rw [key x (mem_rch.mp hx).2, key y (mem_rch.mp hy).2]
      · exact cmps_apart n _ (by have := left_lt (ls := ls) e; omega) (fun x hx y hy => hf x (List.mem_filter.mp hx).1 y (List.mem_filter.mp hy).1) p hp
def two (a b : Int) (t : Nat) : List Int := List.replicate t a ++ List.replicate t b
theorem two_mem {a b x : Int} {t : Nat} (h : x ∈ two a b t) : x = a ∨ x = b := by
  rcases List.mem_append.mp h with h | h
  · exact .inl (List.eq_of_mem_replicate h)
  · exact .inr (List.eq_of_mem_replicate h)
theorem two_len {a b : Int} {t : Nat} : (two a b t).length = t + t := by unfold two; rw [List.length_append, List.length_replicate, List.length_replicate]
theorem flat_one {a : Int} : ∀ n : Nat, (List.replicate n [a]).flatten = List.replicate n a
  | 0 => rfl
  | n + 1 => by rw [List.replicate_succ, List.flatten_cons, flat_one n, List.replicate_succ]; rfl
theorem two_cnt {ls : Lets} {k : Int} (A : AlphaOk k ls) {a b : Int} (ha : 0 ≤ a ∧ a < (ls.length : Int)) (hb : 0 ≤ b ∧ b < (ls.length : Int)) (t : Nat) : cnt ls (two a b t).length (two a b t) = if free ls a b = true then chs (t + t) t else 1 := by
  have hw : WordOk ls (two a b t) := fun x hx => by rcases two_mem hx with rfl | rfl <;> assumption
  by_cases h : free ls a b = true
  · rw [if_pos h]
    have ne : b ≠ a := fun e => by
      subst e
      obtain ⟨pne, _, _⟩ := A.ok _ (pl_mem ha.1 ha.2)
      obtain ⟨p, hp⟩ := List.exists_mem_of_ne_nil _ pne
      exact disj_iff.mp h p hp hp
    have f1 : (two a b t).filter (fun x => decide (x = a)) = List.replicate t a := by
      unfold two
      rw [List.filter_append, List.filter_eq_self.mpr fun x hx => by rw [List.eq_of_mem_replicate hx]; simp, List.filter_eq_nil_iff.mpr fun x hx => by rw [List.eq_of_mem_replicate hx]; simpa using ne, List.append_nil]
    have f2 : (two a b t).filter (fun x => !decide (x = a)) = List.replicate t b := by
      unfold two
      rw [List.filter_append, List.filter_eq_nil_iff.mpr fun x hx => by rw [List.eq_of_mem_replicate hx]; simp, List.filter_eq_self.mpr fun x hx => by rw [List.eq_of_mem_replicate hx]; simpa using ne, List.nil_append]
    have c := cnt_two A (S := fun x => decide (x = a)) (n := (two a b t).length) rfl hw fun x hx y hy h1 h2 => by
      have h1 := of_decide_eq_true h1
      have h2 := of_decide_eq_false h2
      rw [h1, (two_mem hy).resolve_left h2]; exact h
    rw [f1, f2, cnt_same A (fun x hx => by rw [List.eq_of_mem_replicate hx]; exact ha) (fun x hx => List.eq_of_mem_replicate hx), cnt_same A (fun x hx => by rw [List.eq_of_mem_replicate hx]; exact hb) (fun x hx => List.eq_of_mem_replicate hx), List.length_replicate, two_len] at c
    rw [two_len, c]
    simp only [Nat.mul_one]
  · rw [if_neg h]
    obtain ⟨p, h1, h2⟩ := not_disj.mp (show disj (pl ls a) (pl ls b) = false by unfold free at h; simpa using h)
    obtain ⟨_, _, pok⟩ := A.ok _ (pl_mem ha.1 ha.2)
    refine cnt_one A hw (pok p h1).1 (pok p h1).2 fun x hx => ?_
    rcases two_mem hx with rfl | rfl <;> assumption
theorem two_few {ls : Lets} {k : Int} (A : AlphaOk k ls) {a b : Int} (ha : 0 ≤ a ∧ a < (ls.length : Int)) (hb : 0 ≤ b ∧ b < (ls.length : Int)) (t : Nat) {S : List Int} (hS : ∀ x, x ∈ S ↔ x ∈ two a b t) :
    (∀ p ∈ cmps ls S, cnt ls ((two a b t).filter fun x => decide (x ∈ p)).length ((two a b t).filter fun x => decide (x ∈ p)) ≤ 5040) ∧ ∀ i, i < (cmps ls S).length → cnt ls (upto ls S (two a b t) i).length (upto ls S (two a b t) i) ≤ 5040 := by
  have hw : WordOk ls (two a b t) := fun x hx => by rcases two_mem hx with rfl | rfl <;> assumption
  refine ⟨fun p hp => ?_, fun i hi => ?_⟩
  · have wf : WordOk ls ((two a b t).filter fun x => decide (x ∈ p)) := fun x hx => hw x (List.mem_filter.mp hx).1
    by_cases h : free ls a b = true
    · have ap := cmps_apart _ S (Nat.le_refl _) (fun x hx y hy hne => by
        rcases two_mem ((hS x).mp hx) with rfl | rfl <;> rcases two_mem ((hS y).mp hy) with rfl | rfl
        · exact absurd rfl hne
        · exact h
        · rw [free_comm]; exact h
        · exact absurd rfl hne) p hp
      obtain ⟨c, hc⟩ := List.exists_mem_of_ne_nil _ (cmps_ne _ S (Nat.le_refl _) p hp)
      rw [cnt_same A wf (c := c) fun x hx => ap x (of_decide_eq_true (List.mem_filter.mp hx).2) c hc]
      decide
    · obtain ⟨q, h1, h2⟩ := not_disj.mp (show disj (pl ls a) (pl ls b) = false by unfold free at h; simpa using h)
      obtain ⟨_, _, pok⟩ := A.ok _ (pl_mem ha.1 ha.2)
      rw [cnt_one A wf (pok q h1).1 (pok q h1).2 fun x hx => by rcases two_mem (List.mem_filter.mp hx).1 with rfl | rfl <;> assumption]
      decide
  · have wf : WordOk ls (upto ls S (two a b t) i) := fun x hx => hw x (List.mem_filter.mp hx).1
    obtain ⟨c1, _, c3⟩ := cmps_ok (ls := ls) _ S (Nat.le_refl _)
    obtain ⟨z, hz⟩ := List.exists_mem_of_ne_nil _ (cmps_ne _ S (Nat.le_refl _) _ (List.getElem_mem hi))
    have hzs := two_mem ((hS z).mp (c1 _ (List.getElem_mem hi) z hz))
    have off : ∀ x ∈ upto ls S (two a b t) i, x ≠ z := fun x hx => by
      obtain ⟨q, hq, hxq⟩ := List.mem_flatten.mp (of_decide_eq_true (List.mem_filter.mp hx).2)
      obtain ⟨j, hj, e⟩ := List.mem_iff_getElem.mp hq
      rw [List.length_take] at hj
      rw [List.getElem_take] at e
      have := List.pairwise_iff_getElem.mp c3 j i (by omega) hi (by omega)
      rw [e] at this
      exact (this x hxq z hz).2
    rw [cnt_same A wf (c := if z = a then b else a) fun x hx => by
      have h1 := off x hx
      rcases hzs with rfl | rfl
      · rw [if_pos rfl]; exact (two_mem (List.mem_filter.mp hx).1).resolve_left h1
      · have h2 := (two_mem (List.mem_filter.mp hx).1).resolve_right h1
        rw [h2]
        split
        · rename_i e; exact absurd (h2.trans e.symm) h1
        · rfl]
    decide
end My
namespace My
open Hq
/-! ### parts that hang together, letter by letter -/
theorem Rc.mono {ls : Lets} {S T : List Int} {a x : Int} (h : Rc ls S a x) (st : ∀ y ∈ S, y ∈ T) : Rc ls T a x := by
  induction h with
  | refl => exact .refl
  | step _ hy hf ih => exact .step ih (st _ hy) hf
theorem Rc.trans {ls : Lets} {S : List Int} {a b x : Int} (h : Rc ls S a b) (h2 : Rc ls S b x) : Rc ls S a x := by
  induction h2 with
  | refl => exact h
  | step _ hy hf ih => exact .step ih hy hf
theorem Rc.mem {ls : Lets} {S : List Int} {a x : Int} (h : Rc ls S a x) (ha : a ∈ S) : x ∈ S := by
  cases h with
  | refl => exact ha
  | step _ hy _ => exact hy
theorem Rc.symm {ls : Lets} {S : List Int} {a x : Int} (h : Rc ls S a x) (ha : a ∈ S) : Rc ls S x a := by
  induction h with
  | refl => exact .refl
  | @step x y h1 hy hf ih => exact Rc.trans (.step .refl (h1.mem ha) (by rw [free_comm]; exact hf)) ih
structure PI (ls : Lets) (T : List Int) (P : List (List Int)) : Prop where
  ne : ∀ p ∈ P, p ≠ [] ∧ p.Pairwise (· < ·)
  pm : P.flatten.Perm T
  cl : ∀ p ∈ P, ∀ x ∈ p, ∀ y ∈ T, (y ∈ p ↔ Rc ls T x y)
theorem PI.sub {ls : Lets} {T : List Int} {P : List (List Int)} (h : PI ls T P) {p : List Int} (hp : p ∈ P) {x : Int} (hx : x ∈ p) : x ∈ T := h.pm.mem_iff.mp (List.mem_flatten.mpr ⟨p, hp, hx⟩)
def tch (ls : Lets) (a : Int) (p : List Int) : Bool := p.any fun x => !free ls x a
theorem tch_iff {ls : Lets} {a : Int} {p : List Int} : tch ls a p = true ↔ ∃ x ∈ p, free ls x a = false := by
  unfold tch
  rw [List.any_eq_true]
  simp
theorem flat_two {f : List Int → Bool} : ∀ (P : List (List Int)), ((P.filter fun p => !f p).flatten ++ (P.filter f).flatten).Perm P.flatten
  | [] => .refl _
  | p :: P => by
    have ih := flat_two (f := f) P
    cases h : f p
    · rw [List.filter_cons, if_pos (by rw [h]; rfl), List.filter_cons, if_neg (by rw [h]; decide), List.flatten_cons, List.flatten_cons, List.append_assoc]
      exact ih.append_left _
    · rw [List.filter_cons, if_neg (by rw [h]; decide), List.filter_cons, if_pos (by rw [h]), List.flatten_cons, List.flatten_cons]
      refine List.Perm.trans ?_ (ih.append_left p)
      rw [← List.append_assoc, ← List.append_assoc]
      exact List.perm_append_comm.append_right _
theorem PI.start {ls : Lets} : PI ls [] [] := ⟨fun p h => (by cases h), .refl _, fun p h => (by cases h)⟩
/-- one letter more -/
theorem PI.step {ls : Lets} {k : Int} (A : AlphaOk k ls) {T : List Int} {P : List (List Int)} (h : PI ls T P) (hnd : T.Nodup) {a : Int} (ha : a ∉ T) {J : List Int} (hJ : J.Perm (a :: (P.filter (tch ls a)).flatten)) (hu : J.Pairwise (· ≤ ·)) :
    PI ls (T ++ [a]) ((P.filter fun p => !tch ls a p) ++ [J]) := by
  have near : ∀ p, p ∈ P.filter (tch ls a) ↔ p ∈ P ∧ ∃ x ∈ p, free ls x a = false := fun p => by rw [List.mem_filter, tch_iff]
  have far : ∀ p, (p ∈ P.filter fun p => !tch ls a p) ↔ p ∈ P ∧ ∀ x ∈ p, free ls x a = true := fun p => by
    rw [List.mem_filter]
    constructor
    · rintro ⟨h1, h2⟩
      refine ⟨h1, fun x hx => ?_⟩
      cases hf : free ls x a with
      | true => rfl
      | false =>
        have := tch_iff.mpr ⟨x, hx, hf⟩
        rw [this] at h2; cases h2
    · rintro ⟨h1, h2⟩
      refine ⟨h1, ?_⟩
      cases ht : tch ls a p with
      | false => rfl
      | true =>
        obtain ⟨x, hx, hf⟩ := tch_iff.mp ht
        rw [h2 x hx] at hf; cases hf
  have memJ : ∀ x, x ∈ J ↔ x = a ∨ ∃ p ∈ P, (∃ z ∈ p, free ls z a = false) ∧ x ∈ p := fun x => by
    rw [hJ.mem_iff, List.mem_cons, List.mem_flatten]
    constructor
    · rintro (h1 | ⟨p, hp, hx⟩)
      · exact .inl h1
      · obtain ⟨h1, h2⟩ := (near p).mp hp
        exact .inr ⟨p, h1, h2, hx⟩
    · rintro (h1 | ⟨p, hp, hz, hx⟩)
      · exact .inl h1
      · exact .inr ⟨p, (near p).mpr ⟨hp, hz⟩, hx⟩
  have pm : (((P.filter fun p => !tch ls a p) ++ [J]).flatten).Perm (T ++ [a]) := by
    rw [List.flatten_append, List.flatten_cons, List.flatten_nil, List.append_nil]
    refine List.Perm.trans (hJ.append_left _) ?_
    refine List.Perm.trans List.perm_middle ?_
    refine List.Perm.trans (List.Perm.cons a ((flat_two P).trans h.pm)) ?_
    exact (List.perm_append_singleton a T).symm
  have nd2 : (T ++ [a]).Nodup := by
    rw [List.nodup_append]
    exact ⟨hnd, by simp, fun x hx y hy => by rw [List.mem_singleton.mp hy]; exact fun z : x = a => ha (z ▸ hx)⟩
  have inT : ∀ y, y ∈ T ++ [a] ↔ y ∈ T ∨ y = a := fun y => by rw [List.mem_append, List.mem_singleton]
  refine ⟨fun p hp => ?_, pm, fun p hp x hx y hy => ?_⟩
  · rcases List.mem_append.mp hp with hp | hp
    · exact h.ne p ((far p).mp hp).1
    · rw [List.mem_singleton.mp hp]
      refine ⟨fun z => ?_, ?_⟩
      · have : a ∈ J := (memJ a).mpr (.inl rfl)
        rw [z] at this; cases this
      · have nj : J.Nodup := by
          have := pm.nodup_iff.mpr nd2
          rw [List.flatten_append, List.flatten_cons, List.flatten_nil, List.append_nil, List.nodup_append] at this
          exact this.2.1
        exact (List.Pairwise.and hu nj).imp fun ⟨h1, h2⟩ => by omega
  · rcases List.mem_append.mp hp with hp | hp
    · obtain ⟨p1, p2⟩ := (far p).mp hp
      have xT := h.sub p1 hx
      constructor
      · intro hyp
        exact ((h.cl p p1 x hx y (h.sub p1 hyp)).mp hyp).mono fun z hz => (inT z).mpr (.inl hz)
      · intro r
        clear hy
        induction r with
        | refl => exact hx
        | @step z y _ hy hf ih =>
          rcases (inT y).mp hy with hyT | rfl
          · have := (h.cl p p1 z ih y hyT).mpr (.step .refl hyT hf)
            exact this
          · rw [p2 z ih] at hf; cases hf
    · rw [List.mem_singleton.mp hp] at hx ⊢
      have up : ∀ {u v : Int}, Rc ls T u v → Rc ls (T ++ [a]) u v := fun r => r.mono fun z hz => (inT z).mpr (.inl hz)
      have toA : ∀ x ∈ J, Rc ls (T ++ [a]) x a := fun x hx => by
        rcases (memJ x).mp hx with rfl | ⟨p, hp, ⟨z, hz, hf⟩, hxp⟩
        · exact .refl
        · exact .step (up ((h.cl p hp x hxp z (h.sub hp hz)).mp hz)) ((inT a).mpr (.inr rfl)) hf
      have fromA : ∀ y ∈ J, Rc ls (T ++ [a]) a y := fun y hy => (toA y hy).symm ((inT y).mpr (by
        rcases (memJ y).mp hy with rfl | ⟨p, hp, _, hyp⟩
        · exact .inr rfl
        · exact .inl (h.sub hp hyp)))
      constructor
      · intro hyJ
        exact (toA x hx).trans (fromA y hyJ)
      · intro r
        clear hy
        induction r with
        | refl => exact hx
        | @step z y _ hy hf ih =>
          rcases (inT y).mp hy with hyT | rfl
          · obtain ⟨p2, hp2, hyp2⟩ := List.mem_flatten.mp (h.pm.mem_iff.mpr hyT)
            rcases (memJ z).mp ih with ez | ⟨p', hp', hz', hzp⟩
            · exact (memJ y).mpr (.inr ⟨p2, hp2, ⟨y, hyp2, by rw [free_comm, ← ez]; exact hf⟩, hyp2⟩)
            · exact (memJ y).mpr (.inr ⟨p', hp', hz', (h.cl p' hp' z hzp y hyT).mpr (.step .refl hyT hf)⟩)
          · exact (memJ y).mpr (.inl rfl)
theorem flat_filter {S : List Int} {f : Int → Bool} : ((S.filter f) ++ (S.filter fun x => !f x)).Perm S := by
  induction S with
  | nil => exact .refl _
  | cons a S ih =>
    cases h : f a
    · rw [List.filter_cons, if_neg (by rw [h]; decide), List.filter_cons, if_pos (by rw [h]; rfl)]
      exact List.perm_middle.trans (ih.cons a)
    · rw [List.filter_cons, if_pos (by rw [h]), List.filter_cons, if_neg (by rw [h]; decide)]
      exact ih.cons a
/-- the components are such parts, in order -/
theorem cmps_pi {ls : Lets} : ∀ (n : Nat) (S : List Int), S.length ≤ n → S.Pairwise (· < ·) → PI ls S (cmps ls S) ∧ (cmps ls S).Pairwise (· < ·) ∧ ∀ p ∈ cmps ls S, ∀ x, p.head? = some x → x ∈ S
  | 0, S, h, _ => by
    have : S = [] := List.eq_nil_of_length_eq_zero (by omega)
    subst this
    rw [cmps_nil]
    exact ⟨.start, .nil, fun p h => (by cases h)⟩
  | n + 1, S, h, hup => by
    by_cases e : S = []
    · subst e
      rw [cmps_nil]
      exact ⟨.start, .nil, fun p h => (by cases h)⟩
    · have lt := left_lt (ls := ls) e
      obtain ⟨h1, h2, h3⟩ := cmps_pi n (S.filter fun x => !decide (x ∈ rch ls S)) (by omega) (hup.filter _)
      have sub : ∀ x, x ∈ (S.filter fun x => !decide (x ∈ rch ls S)) ↔ x ∈ S ∧ x ∉ rch ls S := fun x => by rw [List.mem_filter]; simp
      have hd := rch_hd (ls := ls) e
      have hdS := (mem_rch.mp hd).1
      have hmin : ∀ y ∈ S, S.headD 0 ≤ y := by
        obtain ⟨a, S', rfl⟩ := List.exists_cons_of_ne_nil e
        intro y hy
        rcases List.mem_cons.mp hy with rfl | hy
        · exact Int.le_refl _
        · have := (List.pairwise_cons.mp hup).1 y hy
          show a ≤ y
          omega
      have rup := rch_up (ls := ls) hup
      have rhd : (rch ls S).head? = some (S.headD 0) := by
        cases hr : rch ls S with
        | nil => rw [hr] at hd; cases hd
        | cons b r =>
          rw [hr] at hd rup
          have hb : b ∈ S := (mem_rch.mp (by rw [hr]; exact List.mem_cons_self)).1
          have h4 := hmin b hb
          rcases List.mem_cons.mp hd with h5 | h5
          · rw [h5]; rfl
          · have := (List.pairwise_cons.mp rup).1 _ h5
            omega
      have low : ∀ {x z : Int}, x ∈ rch ls S → (Rc ls S x z ↔ z ∈ rch ls S) := fun {x z} hx => by
        obtain ⟨x1, x2⟩ := mem_rch.mp hx
        constructor
        · intro r
          exact mem_rch.mpr ⟨r.mem x1, x2.trans r⟩
        · intro hz
          exact (x2.symm hdS).trans (mem_rch.mp hz).2
      rw [cmps_step e]
      refine ⟨⟨fun p hp => ?_, ?_, fun p hp x hx y hy => ?_⟩, List.pairwise_cons.mpr ⟨fun q hq => ?_, h2⟩, fun p hp x hx => ?_⟩
      · rcases List.mem_cons.mp hp with rfl | hp
        · exact ⟨fun z => (by rw [z] at hd; cases hd), rup⟩
        · exact h1.ne p hp
      · rw [List.flatten_cons]
        refine List.Perm.trans (h1.pm.append_left _) ?_
        have e2 : S.filter (fun x => decide (x ∈ rch ls S)) = rch ls S := lt_unique (hup.filter _) rup fun x => by
          rw [List.mem_filter, decide_eq_true_iff]
          exact ⟨fun h => h.2, fun h => ⟨(mem_rch.mp h).1, h⟩⟩
        have := flat_filter (S := S) (f := fun x => decide (x ∈ rch ls S))
        rw [e2] at this
        exact this
      · rcases List.mem_cons.mp hp with rfl | hp
        · exact (low hx).symm
        · have hx2 := (sub x).mp (h1.sub hp hx)
          have closed : ∀ {z : Int}, Rc ls S x z → z ∉ rch ls S := fun {z} r hz => hx2.2 ((low hz).mp (r.symm hx2.1))
          by_cases hyr : y ∈ rch ls S
          · constructor
            · intro hyp
              exact absurd hyr ((sub y).mp (h1.sub hp hyp)).2
            · intro r
              exact absurd hyr (closed r)
          · have hy2 := (sub y).mpr ⟨hy, hyr⟩
            rw [h1.cl p hp x hx y hy2]
            constructor
            · intro r
              exact r.mono fun z hz => ((sub z).mp hz).1
            · intro r
              clear hy hyr hy2
              induction r with
              | refl => exact .refl
              | @step z y r1 hy hf ih => exact .step ih ((sub y).mpr ⟨hy, closed (.step r1 hy hf)⟩) hf
      · have qne := (h1.ne q hq).1
        obtain ⟨c, q', rfl⟩ := List.exists_cons_of_ne_nil qne
        have hc := (sub c).mp (h3 _ hq c rfl)
        have : S.headD 0 < c := by
          have h5 := hmin c hc.1
          have : S.headD 0 ≠ c := fun z => hc.2 (z ▸ hd)
          omega
        cases hr : rch ls S with
        | nil => rw [hr] at hd; cases hd
        | cons b r =>
          rw [hr] at rhd
          have : b = S.headD 0 := Option.some.inj rhd
          rw [this]
          exact List.cons_lt_cons_iff.mpr (.inl (by omega))
      · rcases List.mem_cons.mp hp with rfl | hp
        · rw [rhd] at hx
          rw [← Option.some.inj hx]; exact hdS
        · exact ((sub x).mp (h3 p hp x hx)).1
theorem PI.part {ls : Lets} {S : List Int} (hS : S.Pairwise (· < ·)) {P : List (List Int)} (h : PI ls S P) {p : List Int} (hp : p ∈ P) {Q : List (List Int)} (g : PI ls S Q) : p ∈ Q := by
  obtain ⟨x, hx⟩ := List.exists_mem_of_ne_nil p (h.ne p hp).1
  have xS := h.sub hp hx
  obtain ⟨q, hq, hxq⟩ := List.mem_flatten.mp (g.pm.mem_iff.mpr xS)
  have : p = q := lt_unique (h.ne p hp).2 (g.ne q hq).2 fun y => by
    constructor
    · intro hy
      have := (h.cl p hp x hx y (h.sub hp hy)).mp hy
      exact (g.cl q hq x hxq y (h.sub hp hy)).mpr this
    · intro hy
      have := (g.cl q hq x hxq y (g.sub hq hy)).mp hy
      exact (h.cl p hp x hx y (g.sub hq hy)).mpr this
  rw [this]; exact hq
theorem flat_nodup : ∀ {P : List (List Int)}, P.flatten.Nodup → (∀ p ∈ P, p ≠ []) → P.Nodup
  | [], _, _ => .nil
  | p :: P, h, hne => by
    rw [List.flatten_cons, List.nodup_append] at h
    refine List.nodup_cons.mpr ⟨fun hp => ?_, flat_nodup h.2.1 fun q hq => hne q (List.mem_cons_of_mem _ hq)⟩
    obtain ⟨x, hx⟩ := List.exists_mem_of_ne_nil p (hne p List.mem_cons_self)
    exact h.2.2 x hx x (List.mem_flatten.mpr ⟨p, hp, hx⟩) rfl
theorem PI.nodup {ls : Lets} {S : List Int} (hS : S.Pairwise (· < ·)) {P : List (List Int)} (h : PI ls S P) : P.Nodup :=
  flat_nodup (h.pm.nodup_iff.mpr (hS.imp fun h => Int.ne_of_lt h)) fun p hp => (h.ne p hp).1
/-- sorted, they are the components -/
theorem pieces_eq {ls : Lets} {S : List Int} (hS : S.Pairwise (· < ·)) {P L : List (List Int)} (h : PI ls S P) (hL : L.Perm P) (hs : L.Pairwise (· ≤ ·)) : L = cmps ls S := by
  obtain ⟨g, gs, _⟩ := cmps_pi S.length S (Nat.le_refl _) hS
  have pm : L.Perm (cmps ls S) := by
    refine hL.trans ?_
    rw [List.perm_ext_iff_of_nodup (h.nodup hS) (g.nodup hS)]
    exact fun p => ⟨fun hp => h.part hS hp g, fun hp => g.part hS hp h⟩
  exact pm.eq_of_pairwise (le := (· ≤ ·)) (fun a b _ _ h1 h2 => List.le_antisymm h1 h2) hs (gs.imp fun h => List.le_of_lt h)
end My
namespace My
open PySem L2 Hq
/-! ### the text by places -/
def top (i : Nat) : Stmt := PySem.Challenge.pw_placewords_k01_alphabets.main.body.getD i (.Pass ⟨0, 0, 0, 0⟩)
abbrev s_Alphabet_init : Stmt := inClass (top 6) 0
abbrev s__check_letter : Stmt := top 7
abbrev s_independent : Stmt := top 8
abbrev s_components : Stmt := top 9
abbrev s__reached : Stmt := top 10
abbrev s__law_draws : Stmt := top 12
abbrev s__law_take : Stmt := top 13
abbrev s__law_alphabet : Stmt := top 14
abbrev s__law_free : Stmt := top 15
abbrev s__law_pieces : Stmt := top 16
abbrev s__law_outcome : Stmt := top 17
abbrev s_law : Stmt := top 18
structure Txt (K : PySem.W.Frag) (mg : Str → Option Value) where
  f_Alphabet_init : Addr
  d_Alphabet_init : FuncData
  F_Alphabet_init : Fun K "__init__" "Alphabet.__init__" s_Alphabet_init f_Alphabet_init d_Alphabet_init
  b_Alphabet_init : Binds K d_Alphabet_init ["self", "places", "letters"] []
  f__check_letter : Addr
  d__check_letter : FuncData
  F__check_letter : Fun K "_check_letter" "_check_letter" s__check_letter f__check_letter d__check_letter
  m__check_letter : mg "_check_letter" = some (.ref f__check_letter)
  b__check_letter : Binds K d__check_letter ["places", "row"] []
  f_independent : Addr
  d_independent : FuncData
  F_independent : Fun K "independent" "independent" s_independent f_independent d_independent
  m_independent : mg "independent" = some (.ref f_independent)
  b_independent : Binds K d_independent ["alphabet", "first", "second"] []
  f_components : Addr
  d_components : FuncData
  F_components : Fun K "components" "components" s_components f_components d_components
  m_components : mg "components" = some (.ref f_components)
  b_components : Binds K d_components ["alphabet", "letters"] []
  f__reached : Addr
  d__reached : FuncData
  F__reached : Fun K "_reached" "_reached" s__reached f__reached d__reached
  m__reached : mg "_reached" = some (.ref f__reached)
  b__reached : Binds K d__reached ["alphabet", "letters"] []
  f__law_draws : Addr
  d__law_draws : FuncData
  F__law_draws : Fun K "_law_draws" "_law_draws" s__law_draws f__law_draws d__law_draws
  m__law_draws : mg "_law_draws" = some (.ref f__law_draws)
  b__law_draws : Binds K d__law_draws ["script", "count"] []
  f__law_take : Addr
  d__law_take : FuncData
  F__law_take : Fun K "_law_take" "_law_take" s__law_take f__law_take d__law_take
  m__law_take : mg "_law_take" = some (.ref f__law_take)
  b__law_take : Binds K d__law_take ["draws", "limit"] []
  f__law_alphabet : Addr
  d__law_alphabet : FuncData
  F__law_alphabet : Fun K "_law_alphabet" "_law_alphabet" s__law_alphabet f__law_alphabet d__law_alphabet
  m__law_alphabet : mg "_law_alphabet" = some (.ref f__law_alphabet)
  b__law_alphabet : Binds K d__law_alphabet ["draws", "places", "most"] []
  f__law_free : Addr
  d__law_free : FuncData
  F__law_free : Fun K "_law_free" "_law_free" s__law_free f__law_free d__law_free
  m__law_free : mg "_law_free" = some (.ref f__law_free)
  b__law_free : Binds K d__law_free ["letters", "first", "second"] []
  f__law_pieces : Addr
  d__law_pieces : FuncData
  F__law_pieces : Fun K "_law_pieces" "_law_pieces" s__law_pieces f__law_pieces d__law_pieces
  m__law_pieces : mg "_law_pieces" = some (.ref f__law_pieces)
  b__law_pieces : Binds K d__law_pieces ["letters", "chosen"] []
  f__law_outcome : Addr
  d__law_outcome : FuncData
  F__law_outcome : Fun K "_law_outcome" "_law_outcome" s__law_outcome f__law_outcome d__law_outcome
  m__law_outcome : mg "_law_outcome" = some (.ref f__law_outcome)
  b__law_outcome : Binds K d__law_outcome ["count", "letters"] []
  f_law : Addr
  d_law : FuncData
  F_law : Fun K "law" "law" s_law f_law d_law
  m_law : mg "law" = some (.ref f_law)
  b_law : Binds K d_law ["script"] []
  c_Alphabet : Addr
  mc_Alphabet : mg "Alphabet" = some (.ref c_Alphabet)
  mk_Alphabet : PySem.W.makesIn K c_Alphabet = true
  in_Alphabet : PySem.W.findIn K (.ref c_Alphabet) "__init__" = some (some (.ref f_Alphabet_init))
  if_Alphabet : PySem.W.isFn K (.ref f_Alphabet_init) = true
  kc_Alphabet : PySem.W.keepIn K (.ref c_Alphabet) = true
  cl_Alphabet : Cls K c_Alphabet
  na_Alphabet_places : NoAttr K c_Alphabet "places"
  na_Alphabet_letters : NoAttr K c_Alphabet "letters"
  c_InvalidAlphabet : Addr
  mc_InvalidAlphabet : mg "InvalidAlphabet" = some (.ref c_InvalidAlphabet)
  x_InvalidAlphabet : PySem.W.excIn K c_InvalidAlphabet [.type "ValueError", .type "Exception", .type "BaseException", .type "object"] "ValueError.__new__" = true
  k_InvalidAlphabet : PySem.W.keepIn K (.ref c_InvalidAlphabet) = true
  b_InvalidAlphabet : PySem.W.subIn K (.ref c_InvalidAlphabet) (.type "BaseException") = some true
  t_InvalidAlphabet : PySem.W.typeIn K (.ref c_InvalidAlphabet) = some (.type "type")
  e_InvalidAlphabet : PySem.W.exmOne K (.ref c_InvalidAlphabet) (.ref c_InvalidAlphabet) = some true
  c_PlaceError : Addr
  mc_PlaceError : mg "PlaceError" = some (.ref c_PlaceError)
  ec_InvalidAlphabet : ExcC K c_InvalidAlphabet
  iv_InvalidAlphabet : PySem.W.kitOne K (.ref c_InvalidAlphabet) (.type "ValueError") = some true
  ik_InvalidAlphabet_PlaceError : PySem.W.kitOne K (.ref c_InvalidAlphabet) (.ref c_PlaceError) = some true
  om_Alphabet : PySem.W.mroIn K c_Alphabet (.type "object") = some true
  oe_Alphabet : PySem.W.findIn K (.ref c_Alphabet) "__eq__" = some (some (.builtin "object.__eq__"))
  z_ValueError : mg "ValueError" = none
  z_bool : mg "bool" = none
  z_int : mg "int" = none
  z_isinstance : mg "isinstance" = none
  z_len : mg "len" = none
  z_list : mg "list" = none
  z_range : mg "range" = none
  z_set : mg "set" = none
  z_sorted : mg "sorted" = none
  z_tuple : mg "tuple" = none
  t_MOST_LETTERS : Tok
  v_MOST_LETTERS : mg "MOST_LETTERS" = some (.int 6 t_MOST_LETTERS)
  t_MOST_PLACES : Tok
  v_MOST_PLACES : mg "MOST_PLACES" = some (.int 4 t_MOST_PLACES)
local macro_rules | `(tactic| trivial) => `(tactic| omega)
theorem pin_le {K : PySem.W.Frag} {lo hi x : Int} (h : lo ≤ x ∧ x < hi) : (D K (.int x)).le (PIn K lo hi) := MP.le_trans (PAn.in h) (PEx.in (R := fun x : Int => PAn (lo ≤ x ∧ x < hi) (D K (.int x))) x)
section
variable {P : Program} {wo : World} {K : PySem.W.Frag} {mg : Str → Option Value} {base : Heap}
/-! ### _law_take -/
theorem sc__law_take : FnScope ["draws", "limit"] ["draws", "limit"] (defScope s__law_take) := ⟨rfl, rfl, rfl, by decide +kernel, rfl, by decide +kernel, by decide +kernel⟩
def sp__law_take (T : Txt K mg) : Sp := fun vs H Q _ => ∃ (d : Addr) (n : Int), 0 < n ∧ Prom [Own d, D K (.int n)] [(d, MDr K)] (PIn K 0 n) [(d, MDr K)] vs H Q
theorem sp__law_take_len {T : Txt K mg} {vs H Q E} (h : sp__law_take T vs H Q E) : vs.length = 2 := by obtain ⟨d, n, _, h⟩ := h; exact h.len
set_option maxHeartbeats 4000000 in
theorem ok__law_take (T : Txt K mg) : FnOk P wo K mg base CX0 1 T.f__law_take T.d__law_take ["draws", "limit"] (sp__law_take T) := by
  have nd := (sc__law_take).nd
  refine T.F__law_take.ok sc__law_take (fun vs H Q E h => (sp__law_take_len h)) (fun cdv A outer s H vs Q E hr h => ?_)
  obtain ⟨d, n, hn, F, w, p, k⟩ := h
  refine ⟨_, (pss_cons (ps_if (pt_cmpR op_eq (pe_callB (c_len (K := K) rfl) (by rfl) T.z_len PySem.boot_len (pa_cons (pv 0) pa_nil)) pe_int (nomark _)) (pss_one (ps_ret pe_int)) pss_nil)
    (pss_one (ps_ret (pe_op op_mod (pe_callTy call_int1 (by rfl) T.z_int (by decide +kernel) (pa_cons (pe_bm0 PySem.F.plainAttrs_list PySem.F.slot_list_pop PySem.F.type_list_pop mt_pop (pv 0)) pa_nil)) (pv 1))))), ?_⟩
  refine go_start w p (Γ := [some (Own d), some (D K (.int n))]) rfl ?_
  refine nx_exM (j := 0) rfl fun ns => nx_anM (j := 0) rfl fun hl => ?_
  show Nx _ _ [(d, MInts K ns)] _
  have k2 : ∀ ns' : List Int, ns'.length ≤ 1000 → Rt ⟨F, H, keys [(d, MDr K)]⟩ [(d, MInts K ns')] (PIn K 0 n) Q := fun ns' h => Rt.to (j := 0) (O' := MDr K) k rfl (fun F o q => ⟨ns', h, q⟩) rfl
  refine (q_if (et_test (ev_op (ev_cb (ea_cons (ev_var rfl) ea_nil) (rc_lenO (j := 0) rfl)) (ev_int (K := K)) rv_eqI)) (fun _ => go_ret Le.refl (ev_int (K := K)) (Rt.weak (pin_le (by omega)) (k2 ns hl))) fun hz => go_next ?_)
  have hz : ns ≠ [] := by intro e; subst e; simp at hz
  have hlast : (ns.map fun n => D K (.int n))[(ns.map fun n => D K (.int n)).length - 1]? = some (D K (.int (ns.getLast hz))) := by rw [List.length_map, List.getElem?_map, ← List.getLast?_eq_getElem?, List.getLast?_eq_some_getLast hz]; rfl
  have hd : (ns.map fun n => D K (.int n)).dropLast = ns.dropLast.map fun n => D K (.int n) := by rw [List.map_dropLast]
  refine go_ret Le.refl (ev_op (ev_cb (ea_cons (ev_pop (j := 0) (ev_var rfl) rfl hlast) ea_nil) rc_int) (ev_var rfl) (rv_ic (by trivial))) (Rt.weak (pin_le ⟨Int.emod_nonneg _ (by omega), Int.emod_lt_of_pos _ hn⟩) ?_)
  rw [hd]
  exact k2 _ (by rw [List.length_dropLast]; omega)
theorem use__law_take {T : Txt K mg} {tr : TA} {Γ : Gm} {M M1 : Ms} {d : Addr} {n : Int} {j : Nat} {X : XK} (h : EvA tr Γ M [Own d, D K (.int n)] M1) (hn : 0 < n) (e : M1[j]? = some (d, MDr K)) : Ev (tCall (sp__law_take T) [] X tr) Γ M (PIn K 0 n) M1 :=
  call1 h e fun vs H Q z => ⟨d, n, hn, z⟩
/-! ### _law_draws -/
theorem sc__law_draws : FnScope ["script", "count", "cells", "found", "mixed", "k", "j", "cell", "again"] ["script", "count"] (defScope s__law_draws) := ⟨rfl, rfl, rfl, by decide +kernel, rfl, by decide +kernel, by decide +kernel⟩
def sp__law_draws (T : Txt K mg) : Sp := fun vs H Q _ => ∃ (ns : List Int) (c : Int), 0 ≤ c ∧ c ≤ 1000 ∧ ns.length ≤ 1000 ∧ PromN [PLi K (ns.map fun n => D K (.int n)), D K (.int c)] [] (MDr K) [] vs H Q
theorem sp__law_draws_len {T : Txt K mg} {vs H Q E} (h : sp__law_draws T vs H Q E) : vs.length = 2 := by obtain ⟨_, _, _, _, _, h⟩ := h; exact h.len
set_option maxHeartbeats 4000000 in
theorem ok__law_draws (T : Txt K mg) : FnOk P wo K mg base CX0 1 T.f__law_draws T.d__law_draws ["script", "count"] (sp__law_draws T) := by
  have nd := (sc__law_draws).nd
  refine T.F__law_draws.ok sc__law_draws (fun vs H Q E h => (sp__law_draws_len h)) (fun cdv A outer s H vs Q E hr h => ?_)
  obtain ⟨ns, cnt, c0, c1, nl, F, w, p, k⟩ := h
  refine ⟨_, (pss_cons (ps_set (i := 2) nd rfl (Or.inl rfl) (pe_callTy (c_list (K := K) rfl) (by rfl) T.z_list (by decide +kernel) (pa_cons (pv 0) pa_nil)))
    (Evl.pss_cut (ps_if (pt_cmpR op_eq (pe_callB (c_len (K := K) rfl) (by rfl) T.z_len PySem.boot_len (pa_cons (pv 2) pa_nil)) pe_int (nomark _)) (pss_one (ps_set (i := 2) nd rfl (Or.inl rfl) (pe_lst (pa_cons pe_int pa_nil)))) pss_nil)
    (pss_cons (ps_set (i := 3) nd rfl (Or.inl rfl) (pe_lst pa_nil))
    (pss_cons (ps_set (i := 4) nd rfl (Or.inl rfl) pe_int)
    (pss_cons (ps_for PassesOwn.never rfl (pi_range1 (by rfl) T.z_range (pa_cons (pv 1) pa_nil)) (pg_name (i := 5) nd rfl (by first | exact Or.inl rfl | exact Or.inr rfl))
     (pss_cons (ps_set (i := 6) nd rfl (Or.inl rfl) (pe_op op_mod (pv 5) (pe_callB (c_len (K := K) rfl) (by rfl) T.z_len PySem.boot_len (pa_cons (pv 2) pa_nil))))
     (pss_cons (ps_set (i := 7) nd rfl (Or.inl rfl) (pe_ix (c_ix (K := K) rfl) (pv 2) (pv 6) (fun _ _ => rfl)))
     (pss_cons (ps_set (i := 4) nd rfl (Or.inl rfl) (pe_op op_mod (pe_callTy call_int1 (by rfl) T.z_int (by decide +kernel) (pa_cons (pe_op op_add (pe_op op_add (pe_op op_add (pe_op op_mul (pv 4) pe_int) (pe_op op_mul (pe_op op_mod (pe_callTy call_int1 (by rfl) T.z_int (by decide +kernel) (pa_cons (pv 7) pa_nil)) pe_int) pe_int)) (pe_op op_mul (pv 5) pe_int)) pe_int) pa_nil)) pe_int))
     (pss_cons (ps_set (i := 8) nd rfl (Or.inl rfl) (pe_op op_mod (pe_callTy call_int1 (by rfl) T.z_int (by decide +kernel) (pa_cons (pe_op op_add (pe_op op_add (pe_op op_mul (pv 4) (pv 4)) (pe_op op_mul pe_int (pv 4))) (pv 5)) pa_nil)) pe_int))
     (pss_one (ps_if (pt_cmpR op_ge (pv 7) (pe_op op_pow pe_int pe_int) (nomark _)) (pss_cons (ps_expr (pe_bm PySem.F.plainAttrs_list PySem.F.slot_list_append PySem.F.type_list_append mt_append (pv 3) (pa_cons (pe_op op_mod (pe_callTy call_int1 (by rfl) T.z_int (by decide +kernel) (pa_cons (pv 7) pa_nil)) pe_int) pa_nil)))
      (pss_one (ps_asg (pe_op op_fdiv (pv 7) pe_int) (pg_sub (pv 2) (pv 6) set_list)))) (pss_one (ps_expr (pe_bm PySem.F.plainAttrs_list PySem.F.slot_list_append PySem.F.type_list_append mt_append (pv 3) (pa_cons (pe_op op_mod (pe_callTy call_int1 (by rfl) T.z_int (by decide +kernel) (pa_cons (pv 8) pa_nil)) pe_int) pa_nil)))))))))))
    (pss_cons (ps_expr (pe_bm0 PySem.F.plainAttrs_list PySem.F.slot_list_reverse PySem.F.type_list_reverse mt_reverse (pv 3)))
    (pss_one (ps_ret (pv 3))))))))), ?_⟩
  refine go_start w p (Γ := [some (PLi K (ns.map fun n => D K (.int n))), some (D K (.int cnt)), none, none, none, none, none, none, none]) rfl ?_
  refine (q_asgN (evn_cb (ea_cons (ev_var rfl) ea_nil) rcn_listL) fun c hc => ?_)
  show Nx _ _ [(c, MInts K ns)] _
  refine go_cut (fun Γ M => ∃ (c : Addr) (cs : List Int), Γ = [some (PLi K (ns.map fun n => D K (.int n))), some (D K (.int cnt)), some (Own c), none, none, none, none, none, none] ∧ M = [(c, MInts K cs)] ∧ cs ≠ [] ∧ cs.length ≤ 1000) ?_ ?rest
  · refine go_if (et_test (ev_op (ev_cb (ea_cons (ev_var rfl) ea_nil) (rc_lenO (j := 0) rfl)) (ev_int (K := K)) rv_eqI)) (fun _ => ?_) fun hz => go_next (JA.of ⟨c, ns, rfl, rfl, by intro e; subst e; simp at hz, nl⟩)
    refine go_asgN (evn_lst (ea_cons (ev_int (K := K)) ea_nil) (by simp)) fun c2 h2 => ?_
    exact nx_drop (List.Sublist.cons₂ _ (List.nil_sublist _)) (JA.of ⟨c2, [7], rfl, rfl, by decide, by decide⟩)
  case rest =>
    rintro _ _ ⟨c, cs, rfl, rfl, hne, hlen⟩
    have lpos : 0 < cs.length := List.length_pos_iff.mpr hne
    refine (q_asgN (evn_lst ea_nil (by decide)) fun f hf => ?_)
    show Nx _ _ [(f, MInts K []), (c, MInts K cs)] _
    refine (q_asg (ev_int (K := K)) ?_)
    refine (q_forR (ea_cons (ev_var rfl) ea_nil) (by omega) (by omega) (fun n Γ M => ∃ (zs fs : List Int) (m : Int) (g5 g6 g7 g8 : Option MP), Γ = [some (PLi K (ns.map fun n => D K (.int n))), some (D K (.int cnt)), some (Own c), some (Own f), some (D K (.int m)), g5, g6, g7, g8] ∧
      M = [(f, MInts K fs), (c, MInts K zs)] ∧ zs.length = cs.length ∧ fs.length = n ∧ 0 ≤ m ∧ m < 2147483647) ⟨cs, [], 12345, none, none, none, none, rfl, rfl, rfl, rfl, by decide, by decide⟩ ?_ ?_)
    · rintro n hn _ _ ⟨zs, fs, m, g5, g6, g7, g8, rfl, rfl, hz, hfl, m0, m1⟩
      show Nx _ [some (PLi K (ns.map fun n => D K (.int n))), some (D K (.int cnt)), some (Own c), some (Own f), some (D K (.int m)), some (D K (.int n)), g6, g7, g8] _ _
      have hL : ((zs.map fun n => D K (.int n)).length : Int) = (cs.length : Int) := by rw [List.length_map, hz]
      have hj0 : 0 ≤ (n : Int) % ((zs.map fun n => D K (.int n)).length : Int) := Int.emod_nonneg _ (by omega)
      have hj1 : (n : Int) % ((zs.map fun n => D K (.int n)).length : Int) < zs.length := by rw [hL, ← hz]; exact Int.emod_lt_of_pos _ (by omega)
      refine (q_asg (ev_op (ev_var rfl) (ev_cb (ea_cons (ev_var rfl) ea_nil) (rc_lenO (j := 1) rfl)) (rv_ic (show (0 : Int) < _ by omega))) ?_)
      generalize (n : Int) % ((zs.map fun n => D K (.int n)).length : Int) = jj at hj0 hj1
      obtain ⟨jn, rfl⟩ := Int.eq_ofNat_of_zero_le hj0
      have hjn : jn < zs.length := by omega
      refine (q_asg (ev_op (ev_var rfl) (ev_var rfl) (rv_ixO (j := 1) rfl (by omega) (show (zs.map fun n => D K (.int n))[((jn : Int)).toNat]? = some (D K (.int zs[jn])) by rw [Int.toNat_natCast, List.getElem?_map, List.getElem?_eq_getElem hjn]; rfl))) ?_)
      refine (q_asg (ev_op (ev_cb (ea_cons (ev_op (ev_op (ev_op (ev_op (ev_var rfl) (ev_int (K := K)) (rv_ic (.inr ⟨by decide, by decide⟩))) (ev_op (ev_op (ev_cb (ea_cons (ev_var rfl) ea_nil) rc_int) (ev_int (K := K)) (rv_ic (by trivial))) (ev_int (K := K)) (rv_ic (.inr ⟨by decide, by decide⟩))) rv_i0) (ev_op (ev_var rfl) (ev_int (K := K)) (rv_ic (.inr ⟨by decide, by decide⟩))) rv_i0) (ev_int (K := K)) rv_i0) ea_nil) rc_int) (ev_int (K := K)) (rv_ic (by trivial))) ?_)
      refine (q_asg (ev_op (ev_cb (ea_cons (ev_op (ev_op (ev_op (ev_var rfl) (ev_var rfl) (rv_ic (.inl ⟨?_, ?_⟩))) (ev_op (ev_int (K := K)) (ev_var rfl) (rv_ic (.inl ⟨by decide, by decide⟩))) rv_i0) (ev_var rfl) rv_i0) ea_nil) rc_int) (ev_int (K := K)) (rv_ic (by trivial))) ?_)
      · have := Int.emod_nonneg (m * 48271 + zs[jn] % 1000003 * 69621 + (n : Int) * 7919 + 11) (by decide : (2147483647 : Int) ≠ 0)
        exact Int.lt_of_lt_of_le (by decide) this
      · have := Int.emod_lt_of_pos (m * 48271 + zs[jn] % 1000003 * 69621 + (n : Int) * 7919 + 11) (by decide : (0 : Int) < 2147483647)
        exact Int.lt_trans this (by decide)
      have fin : ∀ (zs' fs' : List Int) (m' : Int) (g5 g6 g7 g8 : Option MP) (Γ : Gm) (M : Ms), Γ = [some (PLi K (ns.map fun n => D K (.int n))), some (D K (.int cnt)), some (Own c), some (Own f), some (D K (.int m')), g5, g6, g7, g8] → M = [(f, MInts K fs'), (c, MInts K zs')] → zs'.length = cs.length → fs'.length = n + 1 → 0 ≤ m' → m' < 2147483647 → Nx ⟨F, H, keys []⟩ Γ M (JA ⟨F, H, keys []⟩ fun Γ M => ∃ (zs fs : List Int) (m : Int) (g5 g6 g7 g8 : Option MP), Γ = [some (PLi K (ns.map fun n => D K (.int n))), some (D K (.int cnt)), some (Own c), some (Own f), some (D K (.int m)), g5, g6, g7, g8] ∧
        M = [(f, MInts K fs), (c, MInts K zs)] ∧ zs.length = cs.length ∧ fs.length = n + 1 ∧ 0 ≤ m ∧ m < 2147483647) := fun zs' fs' m' g5 g6 g7 g8 Γ M e1 e2 e3 e4 e5 e6 => JA.of ⟨zs', fs', m', g5, g6, g7, g8, e1, e2, e3, e4, e5, e6⟩
      have mm0 := Int.emod_nonneg (m * 48271 + zs[jn] % 1000003 * 69621 + (n : Int) * 7919 + 11) (by decide : (2147483647 : Int) ≠ 0)
      have mm1 := Int.emod_lt_of_pos (m * 48271 + zs[jn] % 1000003 * 69621 + (n : Int) * 7919 + 11) (by decide : (0 : Int) < 2147483647)
      refine go_if (et_test (ev_op (ev_var rfl) (ev_op (ev_int (K := K)) (ev_int (K := K)) (rv_ic ⟨by decide, by decide, by decide⟩)) rv_b0)) (fun _ => ?_) fun _ => ?_
      · refine (q_app (j := 0) (ev_var rfl) (ev_op (ev_cb (ea_cons (ev_var rfl) ea_nil) rc_int) (ev_int (K := K)) (rv_ic (by trivial))) rfl rfl (by rw [List.length_map]; omega) ?_)
        refine go_setL (j := 1) (ev_op (ev_var rfl) (ev_int (K := K)) (rv_ic ⟨by decide, by decide⟩)) (ev_var rfl) (ev_var rfl) rfl (by omega) (by rw [List.length_map]; omega) ?_
        exact fin (zs.set jn (zs[jn] / 1000)) (fs ++ [zs[jn] % 1000]) _ _ _ _ _ _ _ rfl (by simp [MInts, List.map_set]) (by rw [List.length_set]; exact hz) (by rw [List.length_append, hfl]; rfl) mm0 mm1
      · refine go_app (j := 0) (ev_var rfl) (ev_op (ev_cb (ea_cons (ev_var rfl) ea_nil) rc_int) (ev_int (K := K)) (rv_ic (by trivial))) rfl rfl (by rw [List.length_map]; omega) ?_
        exact fin zs (fs ++ [_]) _ _ _ _ _ _ _ rfl (by simp [MInts]; rfl) hz (by rw [List.length_append, hfl]; rfl) mm0 mm1
    · rintro _ _ ⟨zs, fs, m, g5, g6, g7, g8, rfl, rfl, hz, hfl, m0, m1⟩
      refine (q_rev (j := 0) (ev_var rfl) rfl ?_)
      refine nx_drop (List.Sublist.cons₂ _ (List.nil_sublist _)) ?_
      refine go_retO Le.refl (ev_var rfl) hf rfl (RtN.to k fun F o h => ⟨fs.reverse, by rw [List.length_reverse]; omega, ?_⟩)
      rw [← List.map_reverse] at h
      exact h
theorem use__law_draws {T : Txt K mg} {tr : TA} {Γ : Gm} {M M1 : Ms} {ns : List Int} {c : Int} {X : XK} (h : EvA tr Γ M [PLi K (ns.map fun n => D K (.int n)), D K (.int c)] M1) (h0 : 0 ≤ c) (h1 : c ≤ 1000) (h2 : ns.length ≤ 1000) : EvN (tCall (sp__law_draws T) [] X tr) Γ M (MDr K) M1 :=
  calln0 h fun vs H Q z => ⟨ns, c, h0, h1, h2, z⟩
/-! ### _check_letter -/
theorem sc__check_letter : FnScope ["places", "row", "place", "index"] ["places", "row"] (defScope s__check_letter) := ⟨rfl, rfl, rfl, by decide +kernel, rfl, by decide +kernel, by decide +kernel⟩
def LOk (k : Int) (l : List Int) : Prop := l ≠ [] ∧ l.Pairwise (· < ·) ∧ ∀ x ∈ l, 0 ≤ x ∧ x < k
def sp__check_letter (T : Txt K mg) : Sp := fun vs H Q X => ∃ (k : Int) (l : List Int), l.length ≤ 1000 ∧ ∃ F, Wd F [] H ∧ Ps F vs [D K (.int k), D K (dT l)] ∧ (LOk k l → Rt ⟨F, H, keys []⟩ [] (D K .none) Q) ∧ (¬ LOk k l → RtE ⟨F, H, keys []⟩ [] T.c_InvalidAlphabet X)
theorem sp__check_letter_len {T : Txt K mg} {vs H Q E} (h : sp__check_letter T vs H Q E) : vs.length = 2 := by obtain ⟨_, _, _, F, _, p, _⟩ := h; exact paired_len p
set_option maxHeartbeats 4000000 in
theorem ok__check_letter (T : Txt K mg) : FnOk P wo K mg base (L2.CX P wo) 1 T.f__check_letter T.d__check_letter ["places", "row"] (sp__check_letter T) := by
  have nd := (sc__check_letter).nd
  refine T.F__check_letter.okX sc__check_letter (fun vs H Q E h => (sp__check_letter_len h)) (fun cdv A outer s H vs Q E hr h => ?_)
  obtain ⟨n, l, h4, F, w, p, k, kx⟩ := h
  refine ⟨_, (pss_cons (ps_if (pt_cmpR op_eq (pe_callB (c_len (K := K) rfl) (by rfl) T.z_len PySem.boot_len (pa_cons (pv 1) pa_nil)) pe_int (nomark _)) (pss_one (ps_raise rfl (takes_of rfl rfl rfl rfl) (pmk_own PySem.F.excBase_ValueError T.x_InvalidAlphabet T.mc_InvalidAlphabet T.k_InvalidAlphabet (raises_own T.b_InvalidAlphabet T.t_InvalidAlphabet) (by exact rfl)))) pss_nil)
    (pss_cons (ps_for (passes_of rfl) rfl (pi_tupK (K := K) rfl (pv 1)) (pg_name (i := 2) nd rfl (by first | exact Or.inl rfl | exact Or.inr rfl))
     (pss_one (ps_if (pt_not (pt_chain op_le op_lt pe_int (pv 2) (pv 0))) (pss_one (ps_raise rfl (takes_of rfl rfl rfl rfl) (pmk_own PySem.F.excBase_ValueError T.x_InvalidAlphabet T.mc_InvalidAlphabet T.k_InvalidAlphabet (raises_own T.b_InvalidAlphabet T.t_InvalidAlphabet) (by exact rfl)))) pss_nil)))
    (pss_one (ps_for (passes_of rfl) rfl (pi_range2 (by rfl) T.z_range (pa_cons pe_int (pa_cons (pe_callB (c_len (K := K) rfl) (by rfl) T.z_len PySem.boot_len (pa_cons (pv 1) pa_nil)) pa_nil))) (pg_name (i := 3) nd rfl (by first | exact Or.inl rfl | exact Or.inr rfl))
     (pss_one (ps_if (pt_cmpR op_ge (pe_ix (c_ix (K := K) rfl) (pv 1) (pe_op op_sub (pv 3) pe_int) (fun _ _ => rfl)) (pe_ix (c_ix (K := K) rfl) (pv 1) (pv 3) (fun _ _ => rfl)) (nomark _)) (pss_one (ps_raise rfl (takes_of rfl rfl rfl rfl) (pmk_own PySem.F.excBase_ValueError T.x_InvalidAlphabet T.mc_InvalidAlphabet T.k_InvalidAlphabet (raises_own T.b_InvalidAlphabet T.t_InvalidAlphabet) (by exact rfl)))) pss_nil)))))), ?_⟩
  refine go_start w p (Γ := [some (D K (.int n)), some (D K (dT l)), none, none]) rfl ?_
  have evlen : ∀ {Γ : Gm}, Γ[1]? = some (some (D K (dT l))) → Ev (tCB (fun xs H Q => ∃ p ys, xs = [.ref p] ∧ (SqL K H p ys ∨ SqT K H p ys) ∧ Q (.int ys.length) H) (tCons (tVar 1) tNil)) Γ [] (D K (.int l.length)) [] := fun e => by
    have := ev_cb (ea_cons (ev_var e) ea_nil) (rc_lenDT (K := K) (ds := l.map PyData.int) (M := []))
    rw [List.length_map] at this
    exact this
  refine (q_if (et_test (ev_op (evlen rfl) (ev_int (K := K)) rv_eqI)) (fun hz => go_raise (kx fun L => ?_)) fun hz => go_next ?_)
  · exact L.1 (by simpa using hz.symm)
  have hne : l ≠ [] := fun z => by subst z; simp at hz
  refine (q_forT ((ev_var rfl).weak le_dT) (fun i Γ M => ∃ g2 g3 : Option MP, Γ = [some (D K (.int n)), some (D K (dT l)), g2, g3] ∧ M = [] ∧ ∀ x ∈ l.take i, 0 ≤ x ∧ x < n) ⟨none, none, rfl, rfl, fun x hx => by simp at hx⟩ ?_ ?_)
  · rintro E' hE i P hP _ _ ⟨g2, g3, rfl, rfl, hp⟩
    rw [List.getElem?_map] at hP
    obtain ⟨x, hx, rfl⟩ := Option.map_eq_some_iff.mp hP
    refine go_if (et_not (et_test (ev_chain (ev_int (K := K)) (ev_var rfl) rv_b0 (fun _ => (ev_var rfl)) rv_b0))) (fun hz => go_raise (RtE.le hE (kx fun L => ?_))) fun hz => go_next (JA.of ⟨_, _, rfl, rfl, fun y hy => ?_⟩)
    · have := L.2.2 x (List.mem_of_getElem? hx)
      simp at hz
      omega
    · rw [List.take_add_one, hx] at hy
      rcases List.mem_append.mp hy with hy | hy
      · exact hp y hy
      · have : y = x := by simpa using hy
        subst this
        simp at hz
        omega
  · rintro _ _ ⟨g2, g3, rfl, rfl, hp⟩
    rw [List.length_map, List.take_length] at hp
    refine go_forR2 (ea_cons (ev_int (K := K)) (ea_cons (evlen rfl) ea_nil)) (by omega) (fun i Γ M => ∃ g2 g3 : Option MP, Γ = [some (D K (.int n)), some (D K (dT l)), g2, g3] ∧ M = [] ∧ ∀ j, j < i → ∀ h : j + 1 < l.length, l[j] < l[j + 1]) ⟨g2, g3, rfl, rfl, fun j hj => absurd hj (Nat.not_lt_zero _)⟩ ?_ ?_
    · rintro i hi _ _ ⟨g2, g3, rfl, rfl, hq⟩
      have a1 : i + 1 < l.length := by omega
      have e1 : (l.map PyData.int)[((1 + (i : Int)) - 1).toNat]? = some (.int l[i]) := by
        rw [show ((1 + (i : Int)) - 1).toNat = i by omega, List.getElem?_map, List.getElem?_eq_getElem (by omega)]; rfl
      have e2 : (l.map PyData.int)[(1 + (i : Int)).toNat]? = some (.int l[i + 1]) := by
        rw [show (1 + (i : Int)).toNat = i + 1 by omega, List.getElem?_map, List.getElem?_eq_getElem a1]; rfl
      refine go_if (et_test (ev_op (ev_op (ev_var rfl) (ev_op (ev_var rfl) (ev_int (K := K)) rv_i0) (rv_ixDT (by omega) e1)) (ev_op (ev_var rfl) (ev_var rfl) (rv_ixDT (by omega) e2)) rv_b0)) (fun hz => go_raise (kx fun L => ?_)) fun hz => go_next (JA.of ⟨_, _, rfl, rfl, fun j hj h => ?_⟩)
      · have lt : l[i] < l[i + 1] := List.pairwise_iff_getElem.mp L.2.1 i (i + 1) (by omega) a1 (by omega)
        simp at hz
        omega
      · rcases Nat.lt_succ_iff_lt_or_eq.mp hj with hj | rfl
        · exact hq j hj h
        · simp at hz
          omega
    · rintro _ _ ⟨g2, g3, rfl, rfl, hq⟩
      have pw : l.Pairwise (· < ·) := by
        have key : ∀ (d i : Nat) (h : i + d + 1 < l.length), l[i] < l[i + d + 1] := by
          intro d
          induction d with
          | zero => intro i h; exact hq i (by omega) h
          | succ d ih =>
            intro i h
            have h1 := ih i (by omega)
            have h2 := hq (i + d + 1) (by omega) (by omega)
            exact Int.lt_trans h1 h2
        rw [List.pairwise_iff_getElem]
        intro i j hi hj hij
        have := key (j - i - 1) i (by omega)
        have e : i + (j - i - 1) + 1 = j := by omega
        simp only [e] at this
        exact this
      exact fun σ H' ⟨F', a, b⟩ => k ⟨hne, pw, hp⟩ .non F' H' a .non
/-! ### Alphabet.__init__ -/
theorem sc_Alphabet_init : FnScope ["self", "places", "letters", "rows", "row"] ["self", "places", "letters"] (defScope s_Alphabet_init) := ⟨rfl, rfl, rfl, by decide +kernel, rfl, by decide +kernel, by decide +kernel⟩
abbrev alF (K : PySem.W.Frag) (k : Int) (ls : Lets) : List (Str × MP) := [("letters", D K (dTT ls)), ("places", D K (.int k))]
/-- an alphabet that stands -/
abbrev PAl (T : Txt K mg) (k : Int) (ls : Lets) : MP := PIns T.c_Alphabet (alF K k ls)
abbrev MLT (K : PySem.W.Frag) (L : List (List Int)) : MO := ML (L.map fun l => D K (dT l))
theorem alpha_iff {k : Int} {L : List (List Int)} : AlphaOk k L ↔ (1 ≤ k ∧ k ≤ 4) ∧ (1 ≤ L.length ∧ L.length ≤ 6) ∧ ∀ l ∈ L, LOk k l := ⟨fun A => ⟨⟨A.k1, A.k4⟩, ⟨A.l1, A.l6⟩, A.ok⟩, fun ⟨⟨a, b⟩, ⟨c, d⟩, e⟩ => ⟨a, b, c, d, e⟩⟩
def sp_Alphabet_init (T : Txt K mg) : Sp := fun vs H Q X => ∃ (x : Addr) (k : Int) (L : List (List Int)) (q : Addr), (L.length ≤ 1000 ∧ ∀ l ∈ L, l.length ≤ 1000) ∧ ∃ F, Wd F [(x, MIns T.c_Alphabet 0 []), (q, MLT K L)] H ∧ Ps F vs [Own x, D K (.int k), Own q] ∧
  (AlphaOk k L → Rt ⟨F, H, keys [(x, MIns T.c_Alphabet 0 []), (q, MLT K L)]⟩ [(x, MIns T.c_Alphabet 2 (alF K k L)), (q, MLT K L)] (D K .none) Q) ∧
  (¬ AlphaOk k L → RtE ⟨F, H, keys [(x, MIns T.c_Alphabet 0 []), (q, MLT K L)]⟩ [(x, MAny), (q, MLT K L)] T.c_InvalidAlphabet X)
theorem sp_Alphabet_init_len {T : Txt K mg} {vs H Q E} (h : sp_Alphabet_init T vs H Q E) : vs.length = 3 := by obtain ⟨_, _, _, _, _, F, _, p, _⟩ := h; exact paired_len p
theorem pw_len {l : List Int} {k : Int} (h2 : l.Pairwise (· < ·)) (h3 : ∀ x ∈ l, 0 ≤ x ∧ x < k) (hk : 0 ≤ k) : (l.length : Int) ≤ k := by
  have key : ∀ (l : List Int) (lo : Int), l.Pairwise (· < ·) → (∀ x ∈ l, lo ≤ x ∧ x < k) → lo ≤ k → (l.length : Int) ≤ k - lo := by
    intro l
    induction l with
    | nil => intro lo _ _ h; simp; omega
    | cons a l ih =>
      intro lo h1 h2 h3
      have ha := h2 a List.mem_cons_self
      have := ih (a + 1) (List.pairwise_cons.mp h1).2 (fun x hx => ⟨(List.pairwise_cons.mp h1).1 x hx, (h2 x (List.mem_cons_of_mem _ hx)).2⟩) (by omega)
      rw [List.length_cons]; omega
  have := key l 0 h2 h3 hk
  omega
set_option maxHeartbeats 4000000 in
theorem ok_Alphabet_init (T : Txt K mg) : FnOk P wo K mg base (L2.CX P wo) 2 T.f_Alphabet_init T.d_Alphabet_init ["self", "places", "letters"] (sp_Alphabet_init T) := by
  have nd := (sc_Alphabet_init).nd
  refine T.F_Alphabet_init.okX sc_Alphabet_init (fun vs H Q E h => (sp_Alphabet_init_len h)) (fun cdv A outer s H vs Q E hr h => ?_)
  obtain ⟨x, n, L, q, ⟨hL, hb⟩, F, w, p, k, kx⟩ := h
  refine ⟨_, (pss_cons (ps_set (i := 3) nd rfl (Or.inl rfl) (pe_callTy (c_tuple (K := K) rfl) (by rfl) T.z_tuple (by decide +kernel) (pa_cons (pe_lc (own := [("row", 4)]) (by rfl) nd (pi_listK (K := K) rfl (pv 2)) (blkOk_by (N := ["self", "places", "letters", "rows", "row"]) (sc := defScope s_Alphabet_init) (own := [("row", 4)]) (by decide +kernel)) (fun _ _ _ _ _ => pg_name (i := 4) nd rfl (by first | exact Or.inl rfl | exact Or.inr rfl)) (fun _ _ _ _ _ => pts_nil) (fun _ _ _ _ _ => (pe_callTy (c_tuple (K := K) rfl) (by rfl) T.z_tuple (by decide +kernel) (pa_cons (pv 4) pa_nil)))) pa_nil)))
    (pss_cons (ps_if (pt_not (pt_chain op_le op_le pe_int (pv 1) (pe_glob (v := .int 4) rfl T.v_MOST_PLACES ⟨_, rfl⟩))) (pss_one (ps_raise rfl (takes_of rfl rfl rfl rfl) (pmk_own PySem.F.excBase_ValueError T.x_InvalidAlphabet T.mc_InvalidAlphabet T.k_InvalidAlphabet (raises_own T.b_InvalidAlphabet T.t_InvalidAlphabet) (by exact rfl)))) pss_nil)
    (pss_cons (ps_if (pt_not (pt_chain op_le op_le pe_int (pe_callB (c_len (K := K) rfl) (by rfl) T.z_len PySem.boot_len (pa_cons (pv 3) pa_nil)) (pe_glob (v := .int 6) rfl T.v_MOST_LETTERS ⟨_, rfl⟩))) (pss_one (ps_raise rfl (takes_of rfl rfl rfl rfl) (pmk_own PySem.F.excBase_ValueError T.x_InvalidAlphabet T.mc_InvalidAlphabet T.k_InvalidAlphabet (raises_own T.b_InvalidAlphabet T.t_InvalidAlphabet) (by exact rfl)))) pss_nil)
    (pss_cons (ps_for (passes_of rfl) rfl (pi_tupK (K := K) rfl (pv 3)) (pg_name (i := 4) nd rfl (by first | exact Or.inl rfl | exact Or.inr rfl))
     (pss_one (ps_expr (pe_call (ok__check_letter T) (hr.mono (by decide)) rfl T.m__check_letter T.F__check_letter.kp T.b__check_letter .nil (passes_call (E := E) (takes_of rfl rfl rfl rfl) fun _ _ _ _ h => h) (pa_cons (pv 1) (pa_cons (pv 4) pa_nil))))))
    (pss_cons (ps_fld (pv 0) (pv 1) rfl)
    (pss_one (ps_fld (pv 0) (pv 3) rfl))))))), ?_⟩
  refine go_start w p (Γ := [some (Own x), some (D K (.int n)), some (Own q), none, none]) rfl ?_
  show Nx _ _ [(x, MIns T.c_Alphabet 0 []), (q, MLT K L)] _
  have lc := evn_lcO (K := K) (xs := L) (R := fun l => D K (dT l)) (G := fun l => D K (dT l)) (i := 4) (j := 1) (q := q) (M := [(x, MIns T.c_Alphabet 0 []), (q, MLT K L)]) (f := fun _ => true) (Γ := [some (Own x), some (D K (.int n)), some (Own q), none, none]) (tl := tVar 2) (t := tYes) (ev_var (i := 2) rfl) rfl (by omega) (fun _ _ => et_yes) (fun l _ _ => (ev_cb (ea_cons ((ev_var (i := 4) rfl).weak le_dT) ea_nil) rc_tupleT).weak dT_le)
  rw [filter_true] at lc
  refine (q_asg ((ev_cb (ea_cons (ev_newL lc) ea_nil) rc_tupleL).weak Tm_le) ?_)
  show Nx _ [some (Own x), some (D K (.int n)), some (Own q), some (D K (dTT L)), none] _ _
  refine (q_if (et_not (et_test (ev_chain (ev_int (K := K)) (ev_var rfl) rv_b0 (fun _ => (ev_int (K := K))) rv_b0))) (fun hz => ?_) fun hz => go_next ?_)
  · refine go_raise (kx fun A => ?_).any0
    have := A.k1; have := A.k4
    simp at hz
    omega
  have hk : 1 ≤ n ∧ n ≤ 4 := by simp at hz; omega
  have el : ∀ {Γ : Gm} {M : Ms}, Γ[3]? = some (some (D K (dTT L))) → Ev (tCB (rLn K) (tCons (tVar 3) tNil)) Γ M (D K (.int L.length)) M := fun e => ev_lenMT (f := dT) (ev_var e)
  dsimp only
  refine (q_if (et_not (et_test (ev_chain (ev_int (K := K)) (el rfl) rv_b0 (fun _ => (ev_int (K := K))) rv_b0))) (fun hz => ?_) fun hz => go_next ?_)
  · refine go_raise (kx fun A => ?_).any0
    have := A.l1; have := A.l6
    simp at hz
    omega
  have hLl : 1 ≤ L.length ∧ L.length ≤ 6 := by simp at hz; omega
  refine (q_forT ((ev_var rfl).weak le_Tm) (fun i Γ M => ∃ g4 : Option MP, Γ = [some (Own x), some (D K (.int n)), some (Own q), some (D K (dTT L)), g4] ∧ M = [(x, MIns T.c_Alphabet 0 []), (q, MLT K L)] ∧ ∀ l ∈ L.take i, LOk n l) ⟨none, rfl, rfl, fun l hl => by simp at hl⟩ ?_ ?_)
  · rintro E' hE i P hP _ _ ⟨g4, rfl, rfl, hp⟩
    rw [List.getElem?_map] at hP
    obtain ⟨l, hx, rfl⟩ := Option.map_eq_some_iff.mp hP
    have hm := List.mem_of_getElem? hx
    dsimp only [List.set]
    letI := Classical.propDecidable (LOk n l)
    refine q_callB (ok := decide (LOk n l)) (Cx := T.c_InvalidAlphabet) (ps := [D K (.int n), D K (dT l)]) (P := D K .none) (ea_cons (ev_var (i := 1) rfl) (ea_cons (ev_var (i := 4) rfl) ea_nil)) (fun vs H Q X ⟨F, w, p, r1, r2⟩ => ⟨n, l, hb l hm, F, w, p, fun h => r1 (decide_eq_true h), fun h => r2 (decide_eq_false h)⟩) (fun ok => ?_) fun no => ?_
    · have ok := of_decide_eq_true ok
      refine JA.of ⟨_, rfl, rfl, fun y hy => ?_⟩
      rw [List.take_add_one, hx] at hy
      rcases List.mem_append.mp hy with hy | hy
      · exact hp y hy
      · have : y = l := by simpa using hy
        rw [this]; exact ok
    · have no := of_decide_eq_false no
      exact RtE.le hE (kx fun A => no (A.ok l hm)).any0
  · rintro _ _ ⟨g4, rfl, rfl, hp⟩
    rw [List.length_map, List.take_length] at hp
    have A : AlphaOk n L := alpha_iff.mpr ⟨hk, hLl, hp⟩
    refine (q_fld (j := 0) (n := 0) (fps := []) (ev_var rfl) (ev_var rfl) rfl (by decide) (fun _ h => by cases h) T.cl_Alphabet T.na_Alphabet_places ?_)
    refine go_fld (j := 0) (n := 1) (ev_var rfl) (ev_var rfl) rfl (by decide) (fun g h => by rw [List.mem_singleton.mp h]; show ("places" : Str) ≠ "letters"; decide +kernel) T.cl_Alphabet T.na_Alphabet_letters ?_
    exact fun σ H' ⟨F', a, b⟩ => k A .non F' H' a .non
theorem use_AlphabetO {T : Txt K mg} {tr : TA} {Γ : Gm} {M M1 : Ms} {k : Int} {L : List (List Int)} {q : Addr} {j : Nat} {X : XK} (h : EvA tr Γ M [D K (.int k), Own q] M1) (e : M1[j]? = some (q, MLT K L)) (hb : L.length ≤ 1000 ∧ ∀ l ∈ L, l.length ≤ 1000) (ok : AlphaOk k L) : Ev (tMake T.c_Alphabet (sp_Alphabet_init T) [] X tr) Γ M (PAl T k L) M1 :=
  (ev_fr (make1 h e fun x vs H Q ⟨F, w, p, r⟩ => ⟨x, k, L, q, hb, F, w, p, fun _ => r, fun c => absurd ok c⟩)).weak fr_Ins
/-! ### _law_free -/
theorem sc__law_free : FnScope ["letters", "first", "second", "place"] ["letters", "first", "second"] (defScope s__law_free) := ⟨rfl, rfl, rfl, by decide +kernel, rfl, by decide +kernel, by decide +kernel⟩
def sp__law_free (T : Txt K mg) : Sp := fun vs H Q _ => ∃ (ls : Lets) (a b : Int), (0 ≤ a ∧ a < ls.length ∧ 0 ≤ b ∧ b < ls.length ∧ ∀ l ∈ ls, l.length ≤ 1000) ∧ Prom [D K (dLT ls), D K (.int a), D K (.int b)] [] (D K (.bool (free ls a b))) [] vs H Q
theorem sp__law_free_len {T : Txt K mg} {vs H Q E} (h : sp__law_free T vs H Q E) : vs.length = 3 := by obtain ⟨_, _, _, _, h⟩ := h; exact h.len
set_option maxHeartbeats 4000000 in
theorem ok__law_free (T : Txt K mg) : FnOk P wo K mg base CX0 1 T.f__law_free T.d__law_free ["letters", "first", "second"] (sp__law_free T) := by
  have nd := (sc__law_free).nd
  refine T.F__law_free.ok sc__law_free (fun vs H Q E h => (sp__law_free_len h)) (fun cdv A outer s H vs Q E hr h => ?_)
  obtain ⟨ls, a, b, ⟨a0, a1, b0, b1, hl⟩, F, w, p, k⟩ := h
  refine ⟨_, (pss_one (ps_ret (pe_cmpR op_eq (pe_callB (c_len (K := K) rfl) (by rfl) T.z_len PySem.boot_len (pa_cons (pe_lc (own := [("place", 3)]) (by rfl) nd (pi_tupK (K := K) rfl (pe_ix (c_ix (K := K) rfl) (pv 0) (pv 1) (fun _ _ => rfl))) (blkOk_by (N := ["letters", "first", "second", "place"]) (sc := defScope s__law_free) (own := [("place", 3)]) (by decide +kernel)) (fun _ _ _ _ _ => pg_name (i := 3) nd rfl (by first | exact Or.inl rfl | exact Or.inr rfl)) (fun _ _ _ _ _ => (pts_one (pt_cmpR (c_in (K := K) rfl) (pv 3) (pe_ix (c_ix (K := K) rfl) (pv 0) (pv 2) (fun _ _ => rfl)) (by rfl)))) (fun _ _ _ _ _ => (pv 3))) pa_nil)) pe_int (nomark _)))), ?_⟩
  refine go_start w p (Γ := [some (D K (dLT ls)), some (D K (.int a)), some (D K (.int b)), none]) rfl ?_
  have ha : (ls.map dT)[a.toNat]? = some (dT (pl ls a)) := by rw [List.getElem?_map, pl_get a0 a1]; rfl
  have hb : (ls.map dT)[b.toNat]? = some (dT (pl ls b)) := by rw [List.getElem?_map, pl_get b0 b1]; rfl
  have lcomp := evn_lcT (K := K) (xs := pl ls a) (R := fun x => D K (.int x)) (G := fun x => D K (.int x)) (i := 3) (M := []) (M1 := []) (Γ := [some (D K (dLT ls)), some (D K (.int a)), some (D K (.int b)), none]) (fun x => decide (x ∈ pl ls b)) ((ev_op (ev_var (i := 0) rfl) (ev_var (i := 1) rfl) (rv_ixDL (K := K) (ds := ls.map dT) a0 ha)).weak le_dT) (by have := hl _ (pl_mem a0 a1); omega)
    (fun x _ => et_test (ev_op (ev_var (i := 3) rfl) (ev_op (ev_var (i := 0) rfl) (ev_var (i := 2) rfl) (rv_ixDL (K := K) (ds := ls.map dT) b0 hb)) (rv_inT (neg := false)))) (fun x _ _ => ev_var (i := 3) rfl)
  refine go_ret Le.refl ((ev_op (ev_cb (ea_cons (ev_newL lcomp) ea_nil) rc_len) (ev_int (K := K)) rv_eqI).is ?_) k
  rw [List.length_map, disj_filter]
  rfl
theorem use__law_free {T : Txt K mg} {tr : TA} {Γ : Gm} {M M1 : Ms} {ls : Lets} {a b : Int} {X : XK} (h : EvA tr Γ M [D K (dLT ls), D K (.int a), D K (.int b)] M1) (hl : 0 ≤ a ∧ a < ls.length ∧ 0 ≤ b ∧ b < ls.length ∧ ∀ l ∈ ls, l.length ≤ 1000) : Ev (tCall (sp__law_free T) [] X tr) Γ M (D K (.bool (free ls a b))) M1 :=
  call0 h fun vs H Q z => ⟨ls, a, b, hl, z⟩
/-! ### _law_alphabet -/
theorem sc__law_alphabet : FnScope ["draws", "places", "most", "count", "letters", "k", "size", "there", "j"] ["draws", "places", "most"] (defScope s__law_alphabet) := ⟨rfl, rfl, rfl, by decide +kernel, rfl, by decide +kernel, by decide +kernel⟩
abbrev PAb (K : PySem.W.Frag) (p m : Int) : MP := PEx fun x : Int × Lets => PAn (AlphaOk x.1 x.2 ∧ x.1 ≤ p ∧ (x.2.length : Int) ≤ m) (D K (.tuple [.int x.1, dLT x.2]))
def sp__law_alphabet (T : Txt K mg) : Sp := fun vs H Q _ => ∃ (d : Addr) (p m : Int), (0 < p ∧ p ≤ 4 ∧ 0 < m ∧ m ≤ 6) ∧ Prom [Own d, D K (.int p), D K (.int m)] [(d, MDr K)] (PAb K p m) [(d, MDr K)] vs H Q
theorem sp__law_alphabet_len {T : Txt K mg} {vs H Q E} (h : sp__law_alphabet T vs H Q E) : vs.length = 3 := by obtain ⟨_, _, _, _, h⟩ := h; exact h.len
theorem sorted_ok {c : Int} {ns xs : List Int} (h : ns.Pairwise (· < ·) ∧ ∀ k, k ∈ ns ↔ k ∈ xs) (hx : ∀ x ∈ xs, 0 ≤ x ∧ x < c) (h0 : 0 < xs.length) : ns ≠ [] ∧ ns.Pairwise (· < ·) ∧ ∀ x ∈ ns, 0 ≤ x ∧ x < c := by
  refine ⟨fun e => ?_, h.1, fun x hx2 => hx x ((h.2 x).mp hx2)⟩
  subst e
  obtain ⟨y, ys, e⟩ := List.exists_cons_of_length_pos h0
  have := (h.2 y).mpr (by rw [e]; exact List.mem_cons_self)
  cases this
set_option maxHeartbeats 4000000 in
theorem ok__law_alphabet (T : Txt K mg) : FnOk P wo K mg base CX0 2 T.f__law_alphabet T.d__law_alphabet ["draws", "places", "most"] (sp__law_alphabet T) := by
  have nd := (sc__law_alphabet).nd
  refine T.F__law_alphabet.ok sc__law_alphabet (fun vs H Q E h => (sp__law_alphabet_len h)) (fun cdv A outer s H vs Q E hr h => ?_)
  obtain ⟨d, p, m, ⟨p0, p4, m0, m6⟩, F, w, ps, k⟩ := h
  refine ⟨_, (pss_cons (ps_set (i := 3) nd rfl (Or.inr rfl) (pe_op op_add pe_int (pe_call (ok__law_take T) (hr.mono (by decide)) rfl T.m__law_take T.F__law_take.kp T.b__law_take .nil pass0 (pa_cons (pv 0) (pa_cons (pv 1) pa_nil)))))
    (pss_cons (ps_set (i := 4) nd rfl (Or.inl rfl) (pe_lst pa_nil))
    (pss_cons (ps_for PassesOwn.never rfl (pi_range1 (by rfl) T.z_range (pa_cons (pe_op op_add pe_int (pe_call (ok__law_take T) (hr.mono (by decide)) rfl T.m__law_take T.F__law_take.kp T.b__law_take .nil pass0 (pa_cons (pv 0) (pa_cons (pv 2) pa_nil)))) pa_nil)) (pg_name (i := 5) nd rfl (by first | exact Or.inl rfl | exact Or.inr rfl))
     (pss_cons (ps_set (i := 6) nd rfl (Or.inl rfl) (pe_ix (c_ix (K := K) rfl) (pe_lst (pa_cons pe_int (pa_cons pe_int (pa_cons pe_int (pa_cons pe_int (pa_cons pe_int (pa_cons pe_int pa_nil))))))) (pe_call (ok__law_take T) (hr.mono (by decide)) rfl T.m__law_take T.F__law_take.kp T.b__law_take .nil pass0 (pa_cons (pv 0) (pa_cons pe_int pa_nil))) (fun _ _ => rfl)))
     (pss_cons (ps_setLc (i := 7) (own := [("j", 8)]) (by rfl) nd rfl rfl (sw_true rfl rfl rfl (by decide +kernel)) (pi_range1 (by rfl) T.z_range (pa_cons (pv 6) pa_nil)) (blkOk_by (N := ["draws", "places", "most", "count", "letters", "k", "size", "there", "j"]) (sc := defScope s__law_alphabet) (own := [("j", 8)]) (by decide +kernel)) (fun _ _ _ _ _ => pg_name (i := 8) nd rfl (by first | exact Or.inl rfl | exact Or.inr rfl)) (fun _ _ _ _ _ => pts_nil) (fun _ _ _ _ _ => (pe_call (ok__law_take T) (hr.mono (by decide)) rfl T.m__law_take T.F__law_take.kp T.b__law_take .nil pass0 (pa_cons (pv 0) (pa_cons (pv 3) pa_nil)))))
     (pss_one (ps_expr (pe_bm PySem.F.plainAttrs_list PySem.F.slot_list_append PySem.F.type_list_append mt_append (pv 4) (pa_cons (pe_callTy (c_tuple (K := K) rfl) (by rfl) T.z_tuple (by decide +kernel) (pa_cons (pe_callB (c_sortedSet (w := wo) rfl rfl) (by rfl) T.z_sorted (by decide +kernel) (pa_cons (pe_callTy (c_set (K := K) (w := wo) rfl rfl rfl) (by rfl) T.z_set (by decide +kernel) (pa_cons (pv 7) pa_nil)) pa_nil)) pa_nil)) pa_nil)))))))
    (pss_one (ps_ret (pe_tup (pa_cons (pv 3) (pa_cons (pv 4) pa_nil)))))))), ?_⟩
  refine go_start w ps (Γ := [some (Own d), some (D K (.int p)), some (D K (.int m)), none, none, none, none, none, none]) rfl ?_
  refine (q_asg (ev_op (ev_int (K := K)) (use__law_take (ea_cons (ev_var rfl) (ea_cons (ev_var rfl) ea_nil)) p0 (j := 0) rfl) rv_addIn) (nx_ex (i := 3) rfl fun c => nx_an (i := 3) rfl fun hc => ?_))
  show Nx _ [some (Own d), some (D K (.int p)), some (D K (.int m)), some (D K (.int c)), none, none, none, none, none] _ _
  refine (q_asgN (evn_lst ea_nil (by decide)) fun l hl => ?_)
  refine (q_forRX (φ := fun z => 1 + 0 ≤ z ∧ z < 1 + m) (ev_op (ev_int (K := K)) (use__law_take (ea_cons (ev_var rfl) (ea_cons (ev_var rfl) ea_nil)) m0 (j := 1) rfl) rv_addIn) fun z hz tr' htr => ?_)
  refine (q_forR htr (by omega) (by omega) (fun n Γ M => ∃ (ls : Lets) (g5 g6 g7 g8 : Option MP), Γ = [some (Own d), some (D K (.int p)), some (D K (.int m)), some (D K (.int c)), some (Own l), g5, g6, g7, g8] ∧
    M = [(l, ML (ls.map fun x => D K (dT x))), (d, MDr K)] ∧ ls.length = n ∧ ∀ x ∈ ls, x ≠ [] ∧ x.Pairwise (· < ·) ∧ ∀ y ∈ x, 0 ≤ y ∧ y < c) ⟨[], none, none, none, none, rfl, rfl, rfl, fun _ h => by cases h⟩ ?_ ?_)
  · rintro n hn _ _ ⟨ls, g5, g6, g7, g8, rfl, rfl, hls, hok⟩
    show Nx _ [some (Own d), some (D K (.int p)), some (D K (.int m)), some (D K (.int c)), some (Own l), some (D K (.int n)), g6, g7, g8] _ _
    have pick : RV (rIx K) (PLi K [D K (.int 1), D K (.int 1), D K (.int 1), D K (.int 2), D K (.int 2), D K (.int 3)]) (PIn K 0 6) [(l, ML (ls.map fun x => D K (dT x))), (d, MDr K)] (PIn K 1 4) [(l, ML (ls.map fun x => D K (dT x))), (d, MDr K)] := RV.ex2 fun x => RV.an2 fun hx => by
      have : x = 0 ∨ x = 1 ∨ x = 2 ∨ x = 3 ∨ x = 4 ∨ x = 5 := by omega
      rcases this with rfl | rfl | rfl | rfl | rfl | rfl <;> exact (rv_ixL (by decide) rfl).weak (pin_le (by decide))
    refine (q_asg (ev_op (ev_newL (evn_lst (ea_cons (ev_int (K := K)) (ea_cons (ev_int (K := K)) (ea_cons (ev_int (K := K)) (ea_cons (ev_int (K := K)) (ea_cons (ev_int (K := K)) (ea_cons (ev_int (K := K)) ea_nil)))))) (by simp))) (use__law_take (ea_cons (ev_var rfl) (ea_cons (ev_int (K := K)) ea_nil)) (by decide) (j := 1) rfl) pick) (nx_ex (i := 6) rfl fun sz => nx_an (i := 6) rfl fun hsz => ?_))
    show Nx _ [some (Own d), some (D K (.int p)), some (D K (.int m)), some (D K (.int c)), some (Own l), some (D K (.int n)), some (D K (.int sz)), g7, g8] _ _
    have lc := evn_lcR (K := K) (z := sz) (i := 8) (G := fun _ => PIn K 0 c) (M := [(l, ML (ls.map fun x => D K (dT x))), (d, MDr K)]) (M1 := [(l, ML (ls.map fun x => D K (dT x))), (d, MDr K)]) (Γ := [some (Own d), some (D K (.int p)), some (D K (.int m)), some (D K (.int c)), some (Own l), some (D K (.int n)), some (D K (.int sz)), g7, g8]) (fun _ => true) (ea_cons (ev_var (i := 6) rfl) ea_nil) (by omega) (fun _ _ => et_yes)
      (fun _ _ _ => use__law_take (T := T) (X := E0) (ea_cons (ev_var (i := 0) rfl) (ea_cons (ev_var (i := 3) rfl) ea_nil)) (by omega) (j := 1) rfl)
    rw [filter_true, map_const, List.length_range] at lc
    refine (q_asgN (lc.weak ml_name) fun q hq => nx_exM (j := 0) rfl fun xs => nx_anM (j := 0) rfl fun hxs => ?_)
    show Nx _ [some (Own d), some (D K (.int p)), some (D K (.int m)), some (D K (.int c)), some (Own l), some (D K (.int n)), some (D K (.int sz)), some (Own q), g8] [(q, MInts K xs), (l, ML (ls.map fun x => D K (dT x))), (d, MDr K)] _
    refine go_app (j := 1) (ev_var rfl) (ev_tupOf (evn_sortedSet (ev_var (i := 7) rfl) (own_ints (j := 0) rfl) (by omega))) rfl rfl (by rw [List.length_map]; omega) (nx_lastM (j := 1) rfl fun ns hns => ?_)
    refine nx_drop (List.sublist_cons_self _ _) (JA.of ⟨ls ++ [ns], _, _, _, _, rfl, by simp, by rw [List.length_append, hls]; rfl, fun x hx => ?_⟩)
    rcases List.mem_append.mp hx with hx | hx
    · exact hok x hx
    · rw [List.mem_singleton.mp hx]
      exact sorted_ok hns (fun x hx => hxs.2 x hx) (by omega)
  · rintro _ _ ⟨ls, g5, g6, g7, g8, rfl, rfl, hls, hok⟩
    refine nx_freeze (K := K) (i := 4) 0 rfl hl rfl ?_
    show Nx _ [some (Own d), some (D K (.int p)), some (D K (.int m)), some (D K (.int c)), some (PLi K (ls.map fun x => D K (dT x))), g5, g6, g7, g8] [(d, MDr K)] _
    refine go_ret Le.refl (ev_tup (K := K) (ea_cons (ev_var (i := 3) rfl) (ea_cons (ev_var (i := 4) rfl) ea_nil)) (by simp)) (Rt.weak (MP.le_trans ?_ (MP.le_trans (PAn.in (φ := AlphaOk c ls ∧ c ≤ p ∧ (ls.length : Int) ≤ m) ⟨⟨by omega, by omega, by omega, by omega, hok⟩, by omega, by omega⟩) (PEx.in (R := fun x : Int × Lets => PAn (AlphaOk x.1 x.2 ∧ x.1 ≤ p ∧ (x.2.length : Int) ≤ m) (D K (.tuple [.int x.1, dLT x.2]))) (c, ls)))) k)
    rintro F v ⟨a, vs, e, s, h⟩
    obtain ⟨x, y, rfl, hx, hy⟩ := ps2 h
    subst e
    exact .tup s (.cons hx (.cons (Lm_le _ _ hy) .nil))
theorem use__law_alphabet {T : Txt K mg} {tr : TA} {Γ : Gm} {M M1 : Ms} {d : Addr} {p m : Int} {j : Nat} {X : XK} (h : EvA tr Γ M [Own d, D K (.int p), D K (.int m)] M1) (hn : 0 < p ∧ p ≤ 4 ∧ 0 < m ∧ m ≤ 6) (e : M1[j]? = some (d, MDr K)) : Ev (tCall (sp__law_alphabet T) [] X tr) Γ M (PAb K p m) M1 :=
  call1 h e fun vs H Q z => ⟨d, p, m, hn, z⟩
/-! ### independent -/
theorem sc_independent : FnScope ["alphabet", "first", "second", "others", "place"] ["alphabet", "first", "second"] (defScope s_independent) := ⟨rfl, rfl, rfl, by decide +kernel, rfl, by decide +kernel, by decide +kernel⟩
theorem ev_lets {T : Txt K mg} {Γ : Gm} {M M1 : Ms} {k : Int} {ls : Lets} {te ti : TE} {a : Int} (h : Ev te Γ M (PAl T k ls) M1) (hi : Ev ti Γ M1 (D K (.int a)) M1) (ha : 0 ≤ a ∧ a < (ls.length : Int)) : Ev (tOp (rIx K) (tFld K te "letters") ti) Γ M (D K (dT (pl ls a))) M1 :=
  ev_op (ev_fld (P := D K (dTT ls)) (fps := alF K k ls) h (by simp) T.cl_Alphabet T.na_Alphabet_letters) hi (rv_ixDT (K := K) (ds := ls.map dT) ha.1 (by rw [List.getElem?_map, pl_get ha.1 ha.2]; rfl))
theorem ev_places {T : Txt K mg} {Γ : Gm} {M M1 : Ms} {k : Int} {ls : Lets} {te : TE} (h : Ev te Γ M (PAl T k ls) M1) : Ev (tFld K te "places") Γ M (D K (.int k)) M1 :=
  ev_fld (P := D K (.int k)) (fps := alF K k ls) h (by simp) T.cl_Alphabet T.na_Alphabet_places
def sp_independent (T : Txt K mg) : Sp := fun vs H Q _ => ∃ (k : Int) (ls : Lets) (a b : Int), (AlphaOk k ls ∧ (0 ≤ a ∧ a < (ls.length : Int)) ∧ (0 ≤ b ∧ b < (ls.length : Int))) ∧ Prom [PAl T k ls, D K (.int a), D K (.int b)] [] (D K (.bool (free ls a b))) [] vs H Q
theorem sp_independent_len {T : Txt K mg} {vs H Q E} (h : sp_independent T vs H Q E) : vs.length = 3 := by obtain ⟨_, _, _, _, _, h⟩ := h; exact h.len
set_option maxHeartbeats 4000000 in
theorem ok_independent (T : Txt K mg) : FnOk P wo K mg base CX0 1 T.f_independent T.d_independent ["alphabet", "first", "second"] (sp_independent T) := by
  have nd := (sc_independent).nd
  refine T.F_independent.ok sc_independent (fun vs H Q E h => (sp_independent_len h)) (fun cdv A outer s H vs Q E hr h => ?_)
  obtain ⟨n, ls, a, b, ⟨A, ha, hb⟩, F, w, ps, k⟩ := h
  refine ⟨_, (pss_cons (ps_set (i := 3) nd rfl (Or.inl rfl) (pe_ix (c_ix (K := K) rfl) (c_fld (K := K) rfl (pv 0) rfl) (pv 2) (fun _ _ => rfl)))
    (pss_cons (ps_for PassesOwn.never rfl (pi_tupK (K := K) rfl (pe_ix (c_ix (K := K) rfl) (c_fld (K := K) rfl (pv 0) rfl) (pv 1) (fun _ _ => rfl))) (pg_name (i := 4) nd rfl (by first | exact Or.inl rfl | exact Or.inr rfl))
     (pss_one (ps_if (pt_cmpR (c_in (K := K) rfl) (pv 4) (pv 3) (by rfl)) (pss_one (ps_ret pe_bl)) pss_nil)))
    (pss_one (ps_ret pe_bl)))), ?_⟩
  refine go_start w ps (Γ := [some (PAl T n ls), some (D K (.int a)), some (D K (.int b)), none, none]) rfl ?_
  refine (q_asg (ev_lets (ev_var (i := 0) rfl) (ev_var (i := 2) rfl) hb) ?_)
  refine (q_forT ((ev_lets (ev_var (i := 0) rfl) (ev_var (i := 1) rfl) ha).weak le_dT) (fun i Γ M => ∃ g4 : Option MP, Γ = [some (PAl T n ls), some (D K (.int a)), some (D K (.int b)), some (D K (dT (pl ls b))), g4] ∧ M = [] ∧ ∀ x ∈ (pl ls a).take i, x ∉ pl ls b) ⟨none, rfl, rfl, by simp⟩ ?_ ?_)
  · rintro E' hE i P hP _ _ ⟨g4, rfl, rfl, hx⟩
    rw [List.getElem?_map] at hP
    obtain ⟨x, hxi, rfl⟩ := Option.map_eq_some_iff.mp hP
    refine go_if (et_test (ev_op (ev_var (i := 4) rfl) (ev_var (i := 3) rfl) (rv_inT (neg := false)))) (fun hz => ?_) fun hz => go_next (JA.of ⟨_, rfl, rfl, fun y hy => ?_⟩)
    · have e : free ls a b = false := not_disj.mpr ⟨x, List.mem_of_getElem? hxi, by simpa using hz.symm⟩
      rw [e] at k
      exact go_ret hE (ev_bl (K := K)) k
    · rw [List.take_add_one, hxi] at hy
      rcases List.mem_append.mp hy with hy | hy
      · exact hx y hy
      · have : y = x := by simpa using hy
        subst this
        simpa using hz
  · rintro _ _ ⟨g4, rfl, rfl, hx⟩
    rw [List.length_map, List.take_length] at hx
    have e : free ls a b = true := disj_iff.mpr hx
    rw [e] at k
    exact go_ret Le.refl (ev_bl (K := K)) k
theorem use_independent {T : Txt K mg} {tr : TA} {Γ : Gm} {M M1 : Ms} {k : Int} {ls : Lets} {a b : Int} {X : XK} (h : EvA tr Γ M [PAl T k ls, D K (.int a), D K (.int b)] M1) (hn : AlphaOk k ls ∧ (0 ≤ a ∧ a < (ls.length : Int)) ∧ (0 ≤ b ∧ b < (ls.length : Int))) : Ev (tCall (sp_independent T) [] X tr) Γ M (D K (.bool (free ls a b))) M1 :=
  call0 h fun vs H Q z => ⟨k, ls, a, b, hn, z⟩
/-! ### _reached -/
theorem sc__reached : FnScope ["alphabet", "letters", "part", "at", "letter"] ["alphabet", "letters"] (defScope s__reached) := ⟨rfl, rfl, rfl, by decide +kernel, rfl, by decide +kernel, by decide +kernel⟩
def sp__reached (T : Txt K mg) : Sp := fun vs H Q _ => ∃ (k : Int) (ls : Lets) (S : List Int), (AlphaOk k ls ∧ WordOk ls S ∧ S ≠ [] ∧ S.Pairwise (· < ·) ∧ S.length ≤ 50) ∧ Prom [PAl T k ls, D K (dL S)] [] (D K (dL (rch ls S))) [] vs H Q
theorem sp__reached_len {T : Txt K mg} {vs H Q E} (h : sp__reached T vs H Q E) : vs.length = 2 := by obtain ⟨_, _, _, _, h⟩ := h; exact h.len
theorem i_rc {l : List Int} {n : Nat} (h : n < l.length) : (l.map fun n => D K (.int n))[((n : Int)).toNat]? = some (D K (.int (l.getD n 0))) := by
  rw [Int.toNat_natCast, List.getElem?_map, List.getElem?_eq_getElem h, List.getD_eq_getElem?_getD, List.getElem?_eq_getElem h]; rfl
set_option maxHeartbeats 4000000 in
theorem ok__reached (T : Txt K mg) : FnOk P wo K mg base CX0 2 T.f__reached T.d__reached ["alphabet", "letters"] (sp__reached T) := by
  have nd := (sc__reached).nd
  refine T.F__reached.ok sc__reached (fun vs H Q E h => (sp__reached_len h)) (fun cdv A outer s H vs Q E hr h => ?_)
  obtain ⟨n, ls, S, ⟨A, hS, hne, hup, hl⟩, F, w, pp, k⟩ := h
  refine ⟨_, (pss_cons (ps_set (i := 2) nd rfl (Or.inl rfl) (pe_lst (pa_cons (pe_ix (c_ix (K := K) rfl) (pv 1) pe_int (fun _ _ => rfl)) pa_nil)))
    (pss_cons (ps_set (i := 3) nd rfl (Or.inl rfl) pe_int)
    (pss_cons (ps_while PassesOwn.never (pt_cmpR op_lt (pv 3) (pe_callB (c_len (K := K) rfl) (by rfl) T.z_len PySem.boot_len (pa_cons (pv 2) pa_nil)) (nomark _)) (pss_cons (ps_for PassesOwn.never rfl (pi_listK (K := K) rfl (pv 1)) (pg_name (i := 4) nd rfl (by first | exact Or.inl rfl | exact Or.inr rfl))
      (pss_one (ps_if (PW.pt (pw_and (pt_cmpR (c_notIn (K := K) rfl) (pv 4) (pv 2) (by rfl)) (pw_and1 (pt_not (pt_val (pe_call (ok_independent T) (hr.mono (by decide)) rfl T.m_independent T.F_independent.kp T.b_independent .nil pass0 (pa_cons (pv 0) (pa_cons (pe_ix (c_ix (K := K) rfl) (pv 2) (pv 3) (fun _ _ => rfl)) (pa_cons (pv 4) pa_nil))))))))) (pss_one (ps_expr (pe_bm PySem.F.plainAttrs_list PySem.F.slot_list_append PySem.F.type_list_append mt_append (pv 2) (pa_cons (pv 4) pa_nil)))) pss_nil)))
     (pss_one (ps_aug (i := 3) nd rfl (Or.inl rfl) pe_int ip_add))))
    (pss_one (ps_ret (pe_callB (c_sorted (K := K) rfl) (by rfl) T.z_sorted (by decide +kernel) (pa_cons (pv 2) pa_nil))))))), ?_⟩
  refine go_start w pp (Γ := [some (PAl T n ls), some (D K (dL S)), none, none, none]) rfl ?_
  have s0 : S.headD 0 = S.getD 0 0 := by cases S <;> rfl
  have sl : 0 < S.length := List.length_pos_iff.mpr hne
  refine (q_asgN (evn_lst (ps := [D K (.int (S.headD 0))]) (ea_cons ((ev_op (ev_var (i := 1) rfl) (ev_int (K := K) (i := 0)) (rv_ixDLd (by omega) (by omega))).is (by rw [s0]; rfl)) ea_nil) (by simp)) fun p hp => ?_)
  dsimp only [List.set]
  refine (q_asg (ev_int (K := K) (i := 0)) ?_)
  dsimp only [List.set]
  refine (q_while (fun m Γ M => ∃ (P : List Int) (a : Nat) (g4 : Option MP), Γ = [some (PAl T n ls), some (D K (dL S)), some (Own p), some (D K (.int (a : Int))), g4] ∧ M = [(p, MInts K P)] ∧ Rg ls S P a ∧ m = S.length - a) _ ⟨[S.headD 0], 0, none, rfl, rfl, Rg.start hne, rfl⟩ ?_)
  rintro m _ _ ⟨P, a, g4, rfl, rfl, R, rfl⟩
  have pl := R.len
  refine ⟨_, _, et_test (ev_op (ev_var (i := 3) rfl) (ev_lenI (j := 0) (ev_var (i := 2) rfl) rfl) (rv_b0 (g := fun i j => decide (i < j)))), fun hz => ?_, fun hz => ?_⟩
  · have ha : a < P.length := by simpa using hz
    refine (q_forL ((ev_var (i := 1) rfl).weak le_dL) (fun i Γ M => ∃ (P' : List Int) (g4 : Option MP), Γ = [some (PAl T n ls), some (D K (dL S)), some (Own p), some (D K (.int (a : Int))), g4] ∧ M = [(p, MInts K P')] ∧ Rg ls S P' a ∧ a < P'.length ∧ ∀ y ∈ S.take i, free ls (P'.getD a 0) y = false → y ∈ P') ⟨P, g4, rfl, rfl, R, ha, fun y hy => by simp at hy⟩ ?_ ?_)
    · rintro E' hE i X hX _ _ ⟨P', g4, rfl, rfl, R', ha', hc⟩
      rw [List.getElem?_map] at hX
      obtain ⟨y, hy, rfl⟩ := Option.map_eq_some_iff.mp hX
      have ym := List.mem_of_getElem? hy
      have pa := (R'.sub _ (show P'.getD a 0 ∈ P' by rw [getD_at ha']; exact List.getElem_mem _)).1
      have tk : S.take (i + 1) = S.take i ++ [y] := by rw [List.take_add_one, hy]; rfl
      have pl' := R'.len
      dsimp only [List.set]
      refine go_if (et_and (a := !decide (y ∈ P')) (b := !free ls (P'.getD a 0) y) (et_test (ev_op (ev_var (i := 4) rfl) (ev_var (i := 2) rfl) (rv_inO (j := 0) (neg := true) rfl))) fun _ => et_not (et_val (use_independent (ea_cons (ev_var (i := 0) rfl) (ea_cons ((ev_op (ev_var (i := 2) rfl) (ev_var (i := 3) rfl) (rv_ixO (j := 0) rfl (by omega) (i_rc (by omega))))) (ea_cons (ev_var (i := 4) rfl) ea_nil))) ⟨A, hS _ pa, hS _ ym⟩))) (fun hz => ?_) fun hz => go_next (JA.of ⟨P', _, rfl, rfl, R', ha', fun z hz2 hf => ?_⟩)
      · have hz := hz.symm
        simp at hz
        refine go_app (j := 0) (ev_var (i := 2) rfl) (ev_var (i := 4) rfl) rfl rfl (by rw [List.length_map]; omega) (JA.of ⟨P' ++ [y], _, rfl, by simp [MInts], R'.add ha' ym hz.1 hz.2, by rw [List.length_append]; omega, fun z hz2 hf => ?_⟩)
        rw [tk] at hz2
        rcases List.mem_append.mp hz2 with h | h
        · refine List.mem_append_left _ (hc z h ?_)
          rwa [List.getD_eq_getElem?_getD, List.getElem?_append_left ha', ← List.getD_eq_getElem?_getD] at hf
        · rw [List.mem_singleton.mp h]; simp
      · rw [tk] at hz2
        rcases List.mem_append.mp hz2 with h | h
        · exact hc z h hf
        · rw [List.mem_singleton.mp h] at hf ⊢
          have hz := hz.symm
          rw [hf] at hz
          simpa using hz
    · rintro _ _ ⟨P', g4, rfl, rfl, R', ha', hc⟩
      rw [List.length_map, List.take_length] at hc
      have pl' := R'.len
      refine go_aug (f := fun i j => i + j) (x := (a : Int)) (y := 1) rfl (ev_int (K := K) (i := 1)) (JA.of ⟨S.length - (a + 1), by omega, P', a + 1, _, by rw [show ((a + 1 : Nat) : Int) = (a : Int) + 1 by omega]; rfl, rfl, ⟨R'.nd, R'.sub, R'.hd, ha', fun i hi y hy hf => ?_⟩, rfl⟩)
      rcases Nat.lt_or_ge i a with z | z
      · exact R'.cl i z y hy hf
      · have : i = a := by omega
        subst this
        exact hc y hy hf
  · have ha : ¬ a < P.length := by simpa using hz
    have e : a = P.length := by have := R.le; omega
    subst e
    have so := evn_cb (M := [(p, MInts K P)]) (M1 := [(p, MInts K P)]) (Γ := [some (PAl T n ls), some (D K (dL S)), some (Own p), some (D K (.int (P.length : Int))), g4]) (ea_cons (ev_var (i := 2) rfl) ea_nil) (rcn_sortedO (K := K) (j := 0) (ns := P) rfl)
    refine go_ret Le.refl (P := D K (dL (rch ls S))) ((ev_fr so).weak fun F v h => ?_) (Rt.drop (List.nil_sublist _) k)
    obtain ⟨ns, ⟨pm, up⟩, h⟩ := MP.le_trans fr_X (PEx.le fun x => MP.le_trans fr_A (PAn.le fun _ => MP.le_trans (fr_L (K := K)) dL_le)) F v h
    rw [← R.done hup pm up]; exact h
theorem use__reached {T : Txt K mg} {tr : TA} {Γ : Gm} {M M1 : Ms} {k : Int} {ls : Lets} {S : List Int} {X : XK} (h : EvA tr Γ M [PAl T k ls, D K (dL S)] M1) (hn : AlphaOk k ls ∧ WordOk ls S ∧ S ≠ [] ∧ S.Pairwise (· < ·) ∧ S.length ≤ 50) : Ev (tCall (sp__reached T) [] X tr) Γ M (D K (dL (rch ls S))) M1 :=
  call0 h fun vs H Q z => ⟨k, ls, S, hn, z⟩
/-! ### components -/
theorem sc_components : FnScope ["alphabet", "letters", "left", "parts", "part", "letter"] ["alphabet", "letters"] (defScope s_components) := ⟨rfl, rfl, rfl, by decide +kernel, rfl, by decide +kernel, by decide +kernel⟩
def sp_components (T : Txt K mg) : Sp := fun vs H Q _ => ∃ (k : Int) (ls : Lets) (L : List Int), (AlphaOk k ls ∧ WordOk ls L ∧ L.Nodup ∧ L.length ≤ 50) ∧ Prom [PAl T k ls, PLi K (L.map fun n => D K (.int n))] [] (PEx fun S : List Int => PAn (S.Perm L ∧ S.Pairwise (· < ·)) (D K (.list ((cmps ls S).map dL)))) [] vs H Q
theorem sp_components_len {T : Txt K mg} {vs H Q E} (h : sp_components T vs H Q E) : vs.length = 2 := by obtain ⟨_, _, _, _, h⟩ := h; exact h.len
set_option maxHeartbeats 4000000 in
theorem ok_components (T : Txt K mg) : FnOk P wo K mg base CX0 3 T.f_components T.d_components ["alphabet", "letters"] (sp_components T) := by
  have nd := (sc_components).nd
  refine T.F_components.ok sc_components (fun vs H Q E h => (sp_components_len h)) (fun cdv A outer s H vs Q E hr h => ?_)
  obtain ⟨n, ls, L, ⟨A, hL, hnd, hl⟩, F, w, pp, k⟩ := h
  refine ⟨_, (pss_cons (ps_set (i := 2) nd rfl (Or.inl rfl) (pe_callB (c_sorted (K := K) rfl) (by rfl) T.z_sorted (by decide +kernel) (pa_cons (pv 1) pa_nil)))
    (pss_cons (ps_set (i := 3) nd rfl (Or.inl rfl) (pe_lst pa_nil))
    (pss_cons (ps_while PassesOwn.never (pt_cmpR op_gt (pe_callB (c_len (K := K) rfl) (by rfl) T.z_len PySem.boot_len (pa_cons (pv 2) pa_nil)) pe_int (nomark _)) (pss_cons (ps_set (i := 4) nd rfl (Or.inr rfl) (pe_call (ok__reached T) (hr.mono (by decide)) rfl T.m__reached T.F__reached.kp T.b__reached .nil pass0 (pa_cons (pv 0) (pa_cons (pv 2) pa_nil))))
     (pss_cons (ps_expr (pe_bm PySem.F.plainAttrs_list PySem.F.slot_list_append PySem.F.type_list_append mt_append (pv 3) (pa_cons (pv 4) pa_nil)))
     (pss_one (ps_setLc (i := 2) (own := [("letter", 5)]) (by rfl) nd rfl rfl (sw_true rfl rfl rfl (by decide +kernel)) (pi_listK (K := K) rfl (pv 2)) (blkOk_by (N := ["alphabet", "letters", "left", "parts", "part", "letter"]) (sc := defScope s_components) (own := [("letter", 5)]) (by decide +kernel)) (fun _ _ _ _ _ => pg_name (i := 5) nd rfl (by first | exact Or.inl rfl | exact Or.inr rfl)) (fun _ _ _ _ _ => (pts_one (pt_cmpR (c_notIn (K := K) rfl) (pv 5) (pv 4) (by rfl)))) (fun _ _ _ _ _ => (pv 5)))))))
    (pss_one (ps_ret (pv 3)))))), ?_⟩
  refine go_start w pp (Γ := [some (PAl T n ls), some (PLi K (L.map fun n => D K (.int n))), none, none, none, none]) rfl ?_
  have so := evn_cb (M := []) (M1 := []) (Γ := [some (PAl T n ls), some (PLi K (L.map fun n => D K (.int n))), none, none, none, none]) (ea_cons (ev_var (i := 1) rfl) ea_nil) (rcn_sortedI (K := K) (ns := L))
  refine (q_asg (P := PEx fun S : List Int => PAn (S.Perm L ∧ S.Pairwise (· < ·)) (D K (dL S))) ((ev_fr so).weak fun F v h => ?_) (nx_ex (i := 2) rfl fun S => nx_an (i := 2) rfl fun hS => ?_))
  · obtain ⟨ns, ⟨pm, up⟩, h⟩ := MP.le_trans fr_X (PEx.le fun x => MP.le_trans fr_A (PAn.le fun _ => MP.le_trans (fr_L (K := K)) dL_le)) F v h
    exact ⟨ns, ⟨pm, (List.Pairwise.and up (pm.nodup_iff.mpr hnd)).imp fun ⟨h1, h2⟩ => by omega⟩, h⟩
  obtain ⟨pm, up⟩ := hS
  have sl : S.length ≤ 50 := by rw [pm.length_eq]; exact hl
  have sok : WordOk ls S := fun x hx => hL x (pm.mem_iff.mp hx)
  dsimp only [List.set]
  refine (q_asgN (evn_lst ea_nil (by decide)) fun fd hfd => ?_)
  dsimp only [List.set]
  refine (q_while (fun m Γ M => ∃ (R : List Int) (ps : List (List Int)) (g4 g5 : Option MP), Γ = [some (PAl T n ls), some (PLi K (L.map fun n => D K (.int n))), some (D K (dL R)), some (Own fd), g4, g5] ∧ M = [(fd, ML (ps.map fun l => D K (dL l)))] ∧ m = R.length ∧ R.Pairwise (· < ·) ∧ (∀ x ∈ R, x ∈ S) ∧ ps ++ cmps ls R = cmps ls S ∧ ps.length + R.length ≤ 50) _ ⟨S, [], none, none, rfl, rfl, rfl, up, fun _ h => h, rfl, by simpa using sl⟩ ?_)
  rintro m _ _ ⟨R, ps, g4, g5, rfl, rfl, rfl, ru, rs, rc, rl⟩
  refine ⟨_, _, et_test (ev_op (ev_lenM (f := PyData.int) (ev_var (i := 2) rfl)) (ev_int (K := K) (i := 0)) (rv_b0 (g := fun i j => decide (i > j)))), fun hz => ?_, fun hz => ?_⟩
  · have hR : R ≠ [] := fun z => by subst z; simp at hz
    have rl2 := List.length_pos_iff.mpr hR
    rw [cmps_step hR] at rc
    have lt := left_lt (ls := ls) hR
    refine (q_asg (use__reached (ea_cons (ev_var (i := 0) rfl) (ea_cons (ev_var (i := 2) rfl) ea_nil)) ⟨A, fun x hx => sok x (rs x hx), hR, ru, by omega⟩) ?_)
    dsimp only [List.set]
    refine (q_app (j := 0) (ev_var (i := 3) rfl) (ev_var (i := 4) rfl) rfl rfl (by rw [List.length_map]; omega) ?_)
    have lc := evn_lcL (K := K) (xs := R) (R := fun x => D K (.int x)) (G := fun x => D K (.int x)) (i := 5) (M := [(fd, ML (ps.map (fun l => D K (dL l)) ++ [D K (dL (rch ls R))]))]) (M1 := [(fd, ML (ps.map (fun l => D K (dL l)) ++ [D K (dL (rch ls R))]))]) (Γ := [some (PAl T n ls), some (PLi K (L.map fun n => D K (.int n))), some (D K (dL R)), some (Own fd), some (D K (dL (rch ls R))), g5]) (fun x => !decide (x ∈ rch ls R)) ((ev_var (i := 2) rfl).weak le_dL) (by omega)
      (fun x hx => et_test (ev_op (ev_var (i := 5) rfl) (ev_var (i := 4) rfl) (rv_inL (neg := true)))) (fun x _ _ => ev_var (i := 5) rfl)
    refine go_asg ((ev_newL (K := K) lc).weak dL_le) (JA.of ⟨_, lt, R.filter fun x => !decide (x ∈ rch ls R), ps ++ [rch ls R], _, _, rfl, by rw [List.map_append]; rfl, rfl, ru.filter _, fun x hx => rs x (List.mem_filter.mp hx).1, by rw [← rc, List.append_assoc]; rfl, by rw [List.length_append, List.length_singleton]; omega⟩)
  · have hR : R = [] := by
      have hz := hz.symm
      simp at hz
      exact hz
    subst hR
    rw [cmps_nil, List.append_nil] at rc
    subst rc
    refine nx_freezeFr (i := 3) 0 rfl hfd rfl ?_
    dsimp only [List.set, List.eraseIdx]
    exact go_ret Le.refl (P := PEx fun S : List Int => PAn (S.Perm L ∧ S.Pairwise (· < ·)) (D K (.list ((cmps ls S).map dL)))) ((ev_var (i := 3) rfl).weak (fun F v h => ⟨S, ⟨pm, up⟩, Lm_le (f := dL) F v (fr_L (K := K) F v h)⟩)) k
theorem use_components {T : Txt K mg} {tr : TA} {Γ : Gm} {M M1 : Ms} {k : Int} {ls : Lets} {L : List Int} {X : XK} (h : EvA tr Γ M [PAl T k ls, PLi K (L.map fun n => D K (.int n))] M1) (hn : AlphaOk k ls ∧ WordOk ls L ∧ L.Nodup ∧ L.length ≤ 50) : Ev (tCall (sp_components T) [] X tr) Γ M (PEx fun S : List Int => PAn (S.Perm L ∧ S.Pairwise (· < ·)) (D K (.list ((cmps ls S).map dL)))) M1 :=
  call0 h fun vs H Q z => ⟨k, ls, L, hn, z⟩
/-! ### _law_outcome -/
theorem sc__law_outcome : FnScope ["count", "letters", "e"] ["count", "letters"] (defScope s__law_outcome) := ⟨rfl, rfl, rfl, by decide +kernel, rfl, by decide +kernel, by decide +kernel⟩
def sp__law_outcome (T : Txt K mg) : Sp := fun vs H Q _ => ∃ (k : Int) (L : List (List Int)) (q : Addr), (L.length ≤ 1000 ∧ ∀ l ∈ L, l.length ≤ 1000) ∧
  (AlphaOk k L ∧ Prom [D K (.int k), Own q] [(q, MLT K L)] (PAl T k L) [(q, MLT K L)] vs H Q ∨ ¬ AlphaOk k L ∧ Prom [D K (.int k), Own q] [(q, MLT K L)] (D K .none) [(q, MLT K L)] vs H Q)
theorem sp__law_outcome_len {T : Txt K mg} {vs H Q E} (h : sp__law_outcome T vs H Q E) : vs.length = 2 := by
  obtain ⟨_, _, _, _, ⟨_, h⟩ | ⟨_, h⟩⟩ := h <;> exact h.len
set_option maxHeartbeats 4000000 in
theorem ok__law_outcome (T : Txt K mg) : FnOk P wo K mg base CX0 4 T.f__law_outcome T.d__law_outcome ["count", "letters"] (sp__law_outcome T) := by
  have nd := (sc__law_outcome).nd
  refine T.F__law_outcome.ok sc__law_outcome (fun vs H Q E h => (sp__law_outcome_len h)) (fun cdv A outer s H vs Q E hr h => ?_)
  obtain ⟨n, L, q, hb, h⟩ := h
  refine ⟨_, (pss_cons (ps_try_as (i := 2) rfl rfl nd rfl rfl ⟨rfl, by decide, Or.inl T.mc_InvalidAlphabet⟩ takes0 (fun W pn xe tk _ => (pss_one (ps_ret (pe_make ⟨T.mk_Alphabet, T.in_Alphabet, T.if_Alphabet, T.kc_Alphabet⟩ (ok_Alphabet_init T) (hr.mono (by decide)) rfl T.mc_Alphabet T.b_Alphabet_init .nil (passes_callL (n := 3) rfl tk (E := fun cls d H => ∀ σ : L2.St, List.length σ = 3 → W cls d σ H) fun _ _ σ _ hl h => h σ hl) (pa_cons (pv 0) (pa_cons (pv 1) pa_nil)))))) (fun a oe cls d pn hz hf => pss_given (φ := cls = .ref T.c_InvalidAlphabet ∧ d = none) fun hcd => (pss_one (ps_if (PW.pt (pw_and (pt_val (pe_callB (c_isE (K := K) (D := T.c_InvalidAlphabet) (a := a) (oe := oe) rfl T.ec_InvalidAlphabet (by obtain ⟨h1, h2⟩ := hcd; subst h1; subst h2; exact hz) hf) (by rfl) T.z_isinstance (by decide +kernel) (pa_cons (pv 2) (pa_cons (pe_glob (v := .ref T.c_PlaceError) rfl T.mc_PlaceError rfl) pa_nil)))) (pw_and1 (pt_val (pe_callB (c_isE (K := K) (D := T.c_InvalidAlphabet) (a := a) (oe := oe) rfl T.ec_InvalidAlphabet (by obtain ⟨h1, h2⟩ := hcd; subst h1; subst h2; exact hz) hf) (by rfl) T.z_isinstance (by decide +kernel) (pa_cons (pv 2) (pa_cons (pe_bltn (v := .ty "ValueError") (by rfl) T.z_ValueError (by decide +kernel) rfl) pa_nil))))))) (pss_one (ps_ret pe_non)) pss_nil))))
    (pss_one (ps_ret pe_int))), ?_⟩
  rcases h with ⟨A, F, w, pp, k⟩ | ⟨A, F, w, pp, k⟩
  · refine go_start w pp (Γ := [some (D K (.int n)), some (Own q), none]) rfl ?_
    show Nx _ _ [(q, MLT K L)] _
    refine go_seq ?_
    exact go_ret Le.refl (use_AlphabetO (j := 0) (ea_cons (ev_var (i := 0) rfl) (ea_cons (ev_var (i := 1) rfl) ea_nil)) rfl hb A) k
  · refine go_start w pp (Γ := [some (D K (.int n)), some (Own q), none]) rfl ?_
    show Nx _ _ [(q, MLT K L)] _
    refine go_seq ?_
    refine make1_no (C := T.c_Alphabet) (Cx := T.c_InvalidAlphabet) (j := 0) (q := q) (O2 := MLT K L) (ps := [D K (.int n), Own q]) (ea_cons (ev_var (i := 0) rfl) (ea_cons (ev_var (i := 1) rfl) ea_nil)) rfl (fun x vs H Q X ⟨F, w, p, r⟩ => ⟨x, n, L, q, hb, F, w, p, fun c => absurd c A, fun _ => r⟩) ?_
    exact try_as (i := 2) (n := 3) (va := .ref T.c_PlaceError) (ca := .ref T.c_PlaceError) (vb := .ty "ValueError") (cb := .type "ValueError") T.e_InvalidAlphabet (fun u h => h) (fun u h => h) T.ik_InvalidAlphabet_PlaceError T.iv_InvalidAlphabet (by decide) Le.refl k rfl
theorem use_outcome_ok {T : Txt K mg} {tr : TA} {Γ : Gm} {M M1 : Ms} {k : Int} {L : List (List Int)} {q : Addr} {j : Nat} {X : XK} (h : EvA tr Γ M [D K (.int k), Own q] M1) (e : M1[j]? = some (q, MLT K L)) (hb : L.length ≤ 1000 ∧ ∀ l ∈ L, l.length ≤ 1000) (A : AlphaOk k L) : Ev (tCall (sp__law_outcome T) [] X tr) Γ M (PAl T k L) M1 :=
  call1 h e fun vs H Q z => ⟨k, L, q, hb, .inl ⟨A, z⟩⟩
theorem use_outcome_no {T : Txt K mg} {tr : TA} {Γ : Gm} {M M1 : Ms} {k : Int} {L : List (List Int)} {q : Addr} {j : Nat} {X : XK} (h : EvA tr Γ M [D K (.int k), Own q] M1) (e : M1[j]? = some (q, MLT K L)) (hb : L.length ≤ 1000 ∧ ∀ l ∈ L, l.length ≤ 1000) (A : ¬ AlphaOk k L) : Ev (tCall (sp__law_outcome T) [] X tr) Γ M (D K .none) M1 :=
  call1 h e fun vs H Q z => ⟨k, L, q, hb, .inr ⟨A, z⟩⟩
/-! ### _law_pieces -/
theorem sc__law_pieces : FnScope ["letters", "chosen", "found", "letter", "near", "far", "joined", "part", "one"] ["letters", "chosen"] (defScope s__law_pieces) := ⟨rfl, rfl, rfl, by decide +kernel, rfl, by decide +kernel, by decide +kernel⟩
theorem flat_sub {L P : List (List Int)} (h : L.Sublist P) : L.flatten.length ≤ P.flatten.length := by
  induction h with
  | slnil => exact Nat.le_refl _
  | cons a _ ih => rw [List.flatten_cons, List.length_append]; omega
  | cons_cons a _ ih => rw [List.flatten_cons, List.flatten_cons, List.length_append, List.length_append]; omega
def sp__law_pieces (T : Txt K mg) : Sp := fun vs H Q _ => ∃ (k : Int) (ls : Lets) (C S : List Int), (AlphaOk k ls ∧ WordOk ls C ∧ C.length < 50 ∧ S.Pairwise (· < ·) ∧ ∀ x, x ∈ S ↔ x ∈ C) ∧ Prom [D K (dLT ls), PLi K (C.map fun n => D K (.int n))] [] (D K (.list ((cmps ls S).map dL))) [] vs H Q
theorem sp__law_pieces_len {T : Txt K mg} {vs H Q E} (h : sp__law_pieces T vs H Q E) : vs.length = 2 := by obtain ⟨_, _, _, _, _, h⟩ := h; exact h.len
set_option maxHeartbeats 4000000 in
theorem ok__law_pieces (T : Txt K mg) : FnOk P wo K mg base CX0 2 T.f__law_pieces T.d__law_pieces ["letters", "chosen"] (sp__law_pieces T) := by
  have nd := (sc__law_pieces).nd
  refine T.F__law_pieces.ok sc__law_pieces (fun vs H Q E h => (sp__law_pieces_len h)) (fun cdv A outer s H vs Q E hr h => ?_)
  obtain ⟨n, ls, C, S, ⟨A, hC, hl, hS, hm⟩, F, w, pp, k⟩ := h
  refine ⟨_, (pss_cons (ps_set (i := 2) nd rfl (Or.inl rfl) (pe_lst pa_nil))
    (pss_cons (ps_for PassesOwn.never rfl (pi_listK (K := K) rfl (pe_callB (c_sortedSet (w := wo) rfl rfl) (by rfl) T.z_sorted (by decide +kernel) (pa_cons (pe_callTy (c_set (K := K) (w := wo) rfl rfl rfl) (by rfl) T.z_set (by decide +kernel) (pa_cons (pv 1) pa_nil)) pa_nil))) (pg_name (i := 3) nd rfl (by first | exact Or.inl rfl | exact Or.inr rfl))
     (pss_cons (ps_set (i := 4) nd rfl (Or.inr rfl) (pe_lc (own := [("part", 7)]) (by rfl) nd (pi_listK (K := K) rfl (pv 2)) (blkOk_by (N := ["letters", "chosen", "found", "letter", "near", "far", "joined", "part", "one"]) (sc := defScope s__law_pieces) (own := [("part", 7)]) (by decide +kernel)) (fun _ _ _ _ _ => pg_name (i := 7) nd rfl (by first | exact Or.inl rfl | exact Or.inr rfl)) (fun _ _ _ _ _ => (pts_one (pt_cmpR op_gt (pe_callB (c_len (K := K) rfl) (by rfl) T.z_len PySem.boot_len (pa_cons (pe_lc (own := [("one", 8)]) (by rfl) nd (pi_listK (K := K) rfl (pv 7)) (blkOk_by (N := ["letters", "chosen", "found", "letter", "near", "far", "joined", "part", "one"]) (sc := (relS ({ kind := PySem.ScopeKind.function, names := [ (PySem.Str.ofString ".0", PySem.NameKind.local), (PySem.Str.ofString "part", PySem.NameKind.local), (PySem.Str.ofString "len", PySem.NameKind.globalImplicit), (PySem.Str.ofString "letter", PySem.NameKind.free), (PySem.Str.ofString "letters", PySem.NameKind.free)], isGenerator := false, isCoroutine := false, more := [] : PySem.Scope }) (defScope s__law_pieces))) (own := [("one", 8)]) (by decide +kernel)) (fun _ _ _ _ _ => pg_name (i := 8) nd rfl (by first | exact Or.inl rfl | exact Or.inr rfl)) (fun _ _ _ _ _ => (pts_one (pt_not (pt_val (pe_call (ok__law_free T) (hr.mono (by decide)) rfl T.m__law_free T.F__law_free.kp T.b__law_free .nil pass0 (pa_cons (pv 0) (pa_cons (pv 8) (pa_cons (pv 3) pa_nil)))))))) (fun _ _ _ _ _ => (pv 8))) pa_nil)) pe_int (nomark _)))) (fun _ _ _ _ _ => (pv 7))))
     (pss_cons (ps_setLc (i := 5) (own := [("part", 7)]) (by rfl) nd rfl rfl (sw_true rfl rfl rfl (by decide +kernel)) (pi_listK (K := K) rfl (pv 2)) (blkOk_by (N := ["letters", "chosen", "found", "letter", "near", "far", "joined", "part", "one"]) (sc := defScope s__law_pieces) (own := [("part", 7)]) (by decide +kernel)) (fun _ _ _ _ _ => pg_name (i := 7) nd rfl (by first | exact Or.inl rfl | exact Or.inr rfl)) (fun _ _ _ _ _ => (pts_one (pt_cmpR (c_notInD (K := K) rfl (units65 hr)) (pv 7) (pv 4) (by rfl)))) (fun _ _ _ _ _ => (pv 7)))
     (pss_cons (ps_set (i := 6) nd rfl (Or.inl rfl) (pe_lst (pa_cons (pv 3) pa_nil)))
     (pss_cons (ps_for PassesOwn.never rfl (pi_listK (K := K) rfl (pv 4)) (pg_name (i := 7) nd rfl (by first | exact Or.inl rfl | exact Or.inr rfl))
      (pss_one (ps_set (i := 6) nd rfl (Or.inl rfl) (pe_op (c_catL (K := K) rfl) (pv 6) (pv 7)))))
     (pss_one (ps_set (i := 2) nd rfl (Or.inl rfl) (pe_op (c_catL (K := K) rfl) (pv 5) (pe_lst (pa_cons (pe_callB (c_sorted (K := K) rfl) (by rfl) T.z_sorted (by decide +kernel) (pa_cons (pv 6) pa_nil)) pa_nil))))))))))
    (pss_one (ps_ret (pe_callB (c_sortLL (K := K) rfl hr.units) (by rfl) T.z_sorted (by decide +kernel) (pa_cons (pv 2) pa_nil)))))), ?_⟩
  refine go_start w pp (Γ := [some (D K (dLT ls)), some (PLi K (C.map fun n => D K (.int n))), none, none, none, none, none, none, none]) rfl ?_
  refine (q_asg (P := D K (.list (([] : List (List Int)).map dL))) ((ev_newL (evn_lst ea_nil (by decide))).weak (Lm_le (f := dL) (l := []))) ?_)
  dsimp only [List.set]
  have so : Ev (tCB (rSortedSet wo) (tCons (tCB (rSetI K wo) (tCons (tVar 1) tNil)) tNil)) [some (D K (dLT ls)), some (PLi K (C.map fun n => D K (.int n))), some (D K (.list (([] : List (List Int)).map dL))), none, none, none, none, none, none] [] (PLi K (S.map fun n => D K (.int n))) [] := (ev_sorts (ns := C) (ev_var (i := 1) rfl) (by omega)).weak fun F v ⟨ns', ⟨h1, h2⟩, h⟩ => by
    have e : ns' = S := lt_unique h1 hS fun x => by rw [h2, hm]
    rw [← e]; exact h
  have llen : ∀ l ∈ ls, l.length ≤ 1000 := fun l hl => by
    obtain ⟨_, h2, h3⟩ := A.ok l hl
    have := pw_len h2 h3 (by have := A.k1; omega)
    have := A.k4
    omega
  have Snd : S.Nodup := hS.imp fun h => Int.ne_of_lt h
  have Sl : S.length ≤ C.length := nodup_le Snd fun x hx => (hm x).mp hx
  refine (q_forL so (fun i Γ M => ∃ (P : List (List Int)) (g3 g4 g5 g6 g7 : Option MP), Γ = [some (D K (dLT ls)), some (PLi K (C.map fun n => D K (.int n))), some (D K (.list (P.map dL))), g3, g4, g5, g6, g7, none] ∧ M = [] ∧ PI ls (S.take i) P) ⟨[], none, none, none, none, none, rfl, rfl, by rw [List.take_zero]; exact .start⟩ ?_ ?_)
  · rintro E' hE i Pm hPm _ _ ⟨P, g3, g4, g5, g6, g7, rfl, rfl, pi⟩
    rw [List.getElem?_map] at hPm
    obtain ⟨a, ha, rfl⟩ := Option.map_eq_some_iff.mp hPm
    have hA := hC a ((hm a).mp (List.mem_of_getElem? ha))
    have tk : S.take (i + 1) = S.take i ++ [a] := by rw [List.take_add_one, ha]; rfl
    have nd1 : (S.take i ++ [a]).Nodup := by rw [← tk]; exact Snd.sublist (List.take_sublist _ _)
    have nin : a ∉ S.take i := fun z => by
      rw [List.nodup_append] at nd1
      exact nd1.2.2 a z a (by simp) rfl
    have tl : (S.take i).length ≤ 50 := by rw [List.length_take]; omega
    have fl : P.flatten.length ≤ 50 := by rw [pi.pm.length_eq]; exact tl
    have Pl : P.length ≤ 50 := by
      have : ∀ {L : List (List Int)}, (∀ p ∈ L, p ≠ []) → L.length ≤ L.flatten.length := by
        intro L
        induction L with
        | nil => intro _; exact Nat.zero_le _
        | cons p L ih =>
          intro h
          have h1 := List.length_pos_iff.mpr (h p List.mem_cons_self)
          have h2 := ih fun q hq => h q (List.mem_cons_of_mem _ hq)
          rw [List.flatten_cons, List.length_append, List.length_cons]; omega
      exact Nat.le_trans (this fun p hp => (pi.ne p hp).1) fl
    have pl50 : ∀ p ∈ P, p.length ≤ 50 := fun p hp => by
      have : p.Sublist P.flatten := List.sublist_flatten_of_mem hp
      exact Nat.le_trans this.length_le fl
    have pok : ∀ p ∈ P, ∀ x ∈ p, 0 ≤ x ∧ x < (ls.length : Int) := fun p hp x hx => hC x ((hm x).mp (List.mem_of_mem_take (pi.sub hp hx)))
    dsimp only [List.set]
    have lc := evn_lcL (K := K) (xs := P) (R := fun p => D K (dL p)) (G := fun p => D K (dL p)) (i := 7) (M := []) (M1 := []) (Γ := [some (D K (dLT ls)), some (PLi K (C.map fun n => D K (.int n))), some (D K (.list (P.map dL))), some (D K (.int a)), g4, g5, g6, g7, none]) (tch ls a) ((ev_var (i := 2) rfl).weak (le_Lm (f := dL))) (by omega)
      (fun p hp => by
        have inn := evn_lcL (K := K) (xs := p) (R := fun x => D K (.int x)) (G := fun x => D K (.int x)) (i := 8) (M := []) (M1 := []) (Γ := [some (D K (dLT ls)), some (PLi K (C.map fun n => D K (.int n))), some (D K (.list (P.map dL))), some (D K (.int a)), g4, g5, g6, some (D K (dL p)), none]) (fun x => !free ls x a) ((ev_var (i := 7) rfl).weak le_dL) (by have := pl50 p hp; omega)
          (fun x hx => et_not (et_val (use__law_free (T := T) (X := E0) (ea_cons (ev_var (i := 0) rfl) (ea_cons (ev_var (i := 8) rfl) (ea_cons (ev_var (i := 3) rfl) ea_nil))) ⟨(pok p hp x hx).1, (pok p hp x hx).2, hA.1, hA.2, llen⟩))) (fun x _ _ => ev_var (i := 8) rfl)
        refine (et_test (ev_op (ev_cb (ea_cons (ev_newL (K := K) inn) ea_nil) rc_len) (ev_int (K := K) (i := 0)) (rv_b0 (g := fun i j => decide (i > j))))).is ?_
        rw [List.length_map, Bool.eq_iff_iff, tch_iff, decide_eq_true_iff]
        constructor
        · intro h
          obtain ⟨y, ys, e⟩ := List.exists_cons_of_length_pos (by omega : 0 < (p.filter fun x => !free ls x a).length)
          have hy : y ∈ p.filter fun x => !free ls x a := by rw [e]; exact List.mem_cons_self
          obtain ⟨h1, h2⟩ := List.mem_filter.mp hy
          exact ⟨y, h1, by simpa using h2⟩
        · rintro ⟨y, h1, h2⟩
          have hy : y ∈ p.filter fun x => !free ls x a := List.mem_filter.mpr ⟨h1, by rw [h2]; rfl⟩
          have := List.length_pos_of_mem hy
          omega) (fun p _ _ => ev_var (i := 7) rfl)
    refine (q_asg ((ev_newL (K := K) lc).weak (Lm_le (f := dL))) ?_)
    clear lc
    dsimp only [List.set]
    have lc2 := evn_lcL (K := K) (xs := P) (R := fun p => D K (dL p)) (G := fun p => D K (dL p)) (i := 7) (M := []) (M1 := []) (Γ := [some (D K (dLT ls)), some (PLi K (C.map fun n => D K (.int n))), some (D K (.list (P.map dL))), some (D K (.int a)), some (D K (.list ((P.filter (tch ls a)).map dL))), g5, g6, g7, none]) (fun p => !decide (p ∈ P.filter (tch ls a))) ((ev_var (i := 2) rfl).weak (le_Lm (f := dL))) (by omega)
      (fun p _ => et_test (K := K) (ev_op (ev_var (i := 7) rfl) (ev_var (i := 4) rfl) (rv_notInB (b := !decide (p ∈ P.filter (tch ls a))) enc_dL (by decide) (by rw [Bool.not_eq_true', decide_eq_false_iff_not])))) (fun p _ _ => ev_var (i := 7) rfl)
    have ff : (P.filter fun p => !decide (p ∈ P.filter (tch ls a))) = P.filter fun p => !tch ls a p := List.filter_congr fun p hp => by
      congr 1
      rw [Bool.eq_iff_iff, decide_eq_true_iff, List.mem_filter]
      exact ⟨fun h => h.2, fun h => ⟨hp, h⟩⟩
    rw [ff] at lc2
    refine (q_asg ((ev_newL (K := K) lc2).weak (Lm_le (f := dL))) ?_)
    clear lc2
    dsimp only [List.set]
    refine (q_asg (P := D K (dL (a :: (([] : List (List Int)).flatten)))) ((ev_newL (K := K) (evn_lst (ps := [D K (.int a)]) (ea_cons (ev_var (i := 3) rfl) ea_nil) (by simp))).weak (dL_le (l := [a]))) ?_)
    dsimp only [List.set]
    have nl : ∀ i, ((P.filter (tch ls a)).take i).flatten.length ≤ 50 := fun i => by
      have s1 : ((P.filter (tch ls a)).take i).Sublist P := (List.take_sublist _ _).trans List.filter_sublist
      exact Nat.le_trans (flat_sub s1) fl
    refine (q_forL ((ev_var (i := 4) rfl).weak (le_Lm (f := dL))) (fun j Γ M => ∃ g7 : Option MP, Γ = [some (D K (dLT ls)), some (PLi K (C.map fun n => D K (.int n))), some (D K (.list (P.map dL))), some (D K (.int a)), some (D K (.list ((P.filter (tch ls a)).map dL))), some (D K (.list ((P.filter fun p => !tch ls a p).map dL))), some (D K (dL (a :: ((P.filter (tch ls a)).take j).flatten))), g7, none] ∧ M = []) ⟨_, by rw [List.take_zero], rfl⟩ ?_ ?_)
    · rintro E2 hE2 j Pj hPj _ _ ⟨g7, rfl, rfl⟩
      rw [List.getElem?_map] at hPj
      obtain ⟨p, hp, rfl⟩ := Option.map_eq_some_iff.mp hPj
      have pm := (List.mem_filter.mp (List.mem_of_getElem? hp)).1
      dsimp only [List.set]
      refine go_asg (P := D K (dL (a :: ((P.filter (tch ls a)).take (j + 1)).flatten))) ((ev_newL (K := K) ((evn_catL ((ev_var (i := 6) rfl).weak le_dL) ((ev_var (i := 7) rfl).weak le_dL) (by rw [List.length_map, List.length_map, List.length_cons]; have := nl j; have := pl50 p pm; omega)).is (O2 := MInts K (a :: ((P.filter (tch ls a)).take (j + 1)).flatten)) (by rw [MInts, List.take_add_one, hp, List.flatten_append, ← List.map_append]; simp))).weak dL_le) (JA.of ⟨_, rfl, rfl⟩)
    · rintro _ _ ⟨g7, rfl, rfl⟩
      rw [List.length_map, List.take_length]
      have srtd : Ev (tCB (rSortedI K) (tCons (tVar 6) tNil)) [some (D K (dLT ls)), some (PLi K (C.map fun n => D K (.int n))), some (D K (.list (P.map dL))), some (D K (.int a)), some (D K (.list ((P.filter (tch ls a)).map dL))), some (D K (.list ((P.filter fun p => !tch ls a p).map dL))), some (D K (dL (a :: (P.filter (tch ls a)).flatten))), g7, none] [] (D K (dL (srt (a :: (P.filter (tch ls a)).flatten)))) [] :=
        (ev_fr (evn_cb (ea_cons ((ev_var (i := 6) rfl).weak le_dL) ea_nil) (rcn_sortedI (K := K) (ns := a :: (P.filter (tch ls a)).flatten)))).weak fun F v h => by
          obtain ⟨ns', ⟨pm, up⟩, h⟩ := MP.le_trans fr_X (PEx.le fun x => MP.le_trans fr_A (PAn.le fun _ => MP.le_trans (fr_L (K := K)) dL_le)) F v h
          rw [← srt_eq pm up]; exact h
      refine go_asg (P := D K (.list (((P.filter fun p => !tch ls a p) ++ [srt (a :: (P.filter (tch ls a)).flatten)]).map dL))) ((ev_newL (K := K) ((evn_catL ((ev_var (i := 5) rfl).weak (le_Lm (f := dL))) (ev_newL (K := K) (evn_lst (ps := [D K (dL (srt (a :: (P.filter (tch ls a)).flatten)))]) (ea_cons srtd ea_nil) (by simp))) (by rw [List.length_map]; have := List.length_filter_le (fun p => !tch ls a p) P; simp only [List.length_singleton]; omega)).is (O2 := ML (((P.filter fun p => !tch ls a p) ++ [srt (a :: (P.filter (tch ls a)).flatten)]).map fun l => D K (dL l))) (by rw [List.map_append]; rfl))).weak (Lm_le (f := dL))) (JA.of ⟨_, _, _, _, _, _, rfl, rfl, ?_⟩)
      rw [tk]
      exact pi.step A (Snd.sublist (List.take_sublist _ _)) nin (srt_perm _) (srt_up _)
  · rintro _ _ ⟨P, g3, g4, g5, g6, g7, rfl, rfl, pi⟩
    rw [List.length_map, List.take_length] at pi
    have sl := evn_cb (M := []) (M1 := []) (Γ := [some (D K (dLT ls)), some (PLi K (C.map fun n => D K (.int n))), some (D K (.list (P.map dL))), g3, g4, g5, g6, g7, none]) (ea_cons ((ev_var (i := 2) rfl).weak (le_Lm (f := dL))) ea_nil) (rcn_sortLL (K := K) (L := P))
    refine go_ret Le.refl (P := D K (.list ((cmps ls S).map dL))) ((ev_fr sl).weak fun F v h => ?_) k
    obtain ⟨L', ⟨pm, up⟩, h⟩ := MP.le_trans fr_X (PEx.le fun x => MP.le_trans fr_A (PAn.le fun _ => MP.le_trans (fr_L (K := K)) (Lm_le (f := dL)))) F v h
    rw [← pieces_eq hS pi pm up]; exact h
theorem use__law_pieces {T : Txt K mg} {tr : TA} {Γ : Gm} {M M1 : Ms} {k : Int} {ls : Lets} {C S : List Int} {X : XK} (h : EvA tr Γ M [D K (dLT ls), PLi K (C.map fun n => D K (.int n))] M1) (hn : AlphaOk k ls ∧ WordOk ls C ∧ C.length < 50 ∧ S.Pairwise (· < ·) ∧ ∀ x, x ∈ S ↔ x ∈ C) : Ev (tCall (sp__law_pieces T) [] X tr) Γ M (D K (.list ((cmps ls S).map dL))) M1 :=
  call0 h fun vs H Q z => ⟨k, ls, C, S, hn, z⟩
/-! ### law -/
theorem sc_law : FnScope ["script", "draws", "count", "letters", "spoilt", "said", "given", "odd", "passed", "found", "chosen", "first", "second", "apart", "k"] ["script"] (defScope s_law) := ⟨rfl, rfl, rfl, by decide +kernel, rfl, by decide +kernel, by decide +kernel⟩
theorem rv_ixP {M : Ms} {ps : List MP} {R : MP} {n : Nat} (hn : n = ps.length) (h : ∀ p ∈ ps, p.le R) : RV (rIx K) (PLi K ps) (PIn K 0 (n : Int)) M R M := RV.ex2 fun x => RV.an2 fun hx => by
  obtain ⟨c, rfl⟩ := Int.eq_ofNat_of_zero_le hx.1
  have hc : c < ps.length := by omega
  exact (rv_ixL (by omega) (by rw [Int.toNat_natCast, List.getElem?_eq_getElem hc])).weak (h _ (List.getElem_mem hc))
theorem in_ex {α : Type} {R : α → MP} {φ : α → Prop} (x : α) (h : φ x) : (R x).le (PEx fun x => PAn (φ x) (R x)) := fun F v p => ⟨x, h, p⟩
abbrev JK (S : MP) (d : Addr) (n : Int) (ls : Lets) (sp : Int) (H : Hp) (K : PySem.W.Frag) (m : Int) : Gm → Ms → Prop := fun Γ M => ∃ (q : Addr) (said : Int) (G : List (List Int)) (g7 : Option MP), Γ = [some S, some (Own d), some (D K (.int n)), some (D K (dLT ls)), some (D K (.int sp)), some (D K (.int said)), some (Own q), g7, none, none, none, none, none, none, none] ∧ M = [(q, MLT K G), (d, MDr K)] ∧ H q = none ∧ G.length ≤ 7 ∧ (∀ l ∈ G, l.length ≤ 100) ∧ (sp < m → ¬ AlphaOk said G) ∧ (m ≤ sp → said = n ∧ G = ls)
def spLaw (K : PySem.W.Frag) : Sp := fun vs H Q _ => ∃ (a : Addr) (ns : List Int), vs = [.ref a] ∧ SqL K H a (ns.map V.int) ∧ ns.length ≤ 63 ∧ ∀ H', Q (.bl true) H'
def sp_law (T : Txt K mg) : Sp := spLaw K
theorem sp_law_len {T : Txt K mg} {vs H Q E} (h : sp_law T vs H Q E) : vs.length = 1 := by obtain ⟨a, ns, rfl, _⟩ := h; rfl
set_option maxHeartbeats 4000000 in
theorem ok_law (T : Txt K mg) : FnOk P wo K mg base CX0 5 T.f_law T.d_law ["script"] (sp_law T) := by
  have nd := (sc_law).nd
  refine T.F_law.ok sc_law (fun vs H Q E h => (sp_law_len h)) (fun cdv A outer s H vs Q E hr h => ?_)
  obtain ⟨a0, ns, rfl, hS, hns, k0⟩ := h
  have w : Wd H [] H := ⟨Evl.Ex.refl _, List.nodup_nil, fun r hr => by cases hr⟩
  have ps : Ps H [.ref a0] [PLi K (ns.map fun n => D K (.int n))] := .cons ⟨a0, _, rfl, hS, map_ints ns⟩ .nil
  have k : ∀ M, Rt ⟨H, H, keys []⟩ M (D K (.bool true)) Q := fun M v F H' _ hv => by cases dp_bl hv; exact k0 H'
  refine ⟨_, (pss_cons (ps_set (i := 1) nd rfl (Or.inr rfl) (pe_call (ok__law_draws T) (hr.mono (by decide)) rfl T.m__law_draws T.F__law_draws.kp T.b__law_draws .nil pass0 (pa_cons (pv 0) (pa_cons pe_int pa_nil))))
    (pss_cons (ps_asg (pe_call (ok__law_alphabet T) (hr.mono (by decide)) rfl T.m__law_alphabet T.F__law_alphabet.kp T.b__law_alphabet .nil pass0 (pa_cons (pv 1) (pa_cons pe_int (pa_cons pe_int pa_nil)))) (pg_tupK (K := K) (n := 2) rfl (by rfl) (pgs_cons (pg_name (i := 2) nd rfl (by first | exact Or.inl rfl | exact Or.inr rfl)) (pgs_cons (pg_name (i := 3) nd rfl (by first | exact Or.inl rfl | exact Or.inr rfl)) pgs_nil))))
    (pss_cons (ps_set (i := 4) nd rfl (Or.inl rfl) (pe_call (ok__law_take T) (hr.mono (by decide)) rfl T.m__law_take T.F__law_take.kp T.b__law_take .nil pass0 (pa_cons (pv 1) (pa_cons pe_int pa_nil))))
    (pss_cons (ps_set (i := 5) nd rfl (Or.inl rfl) (pv 2))
    (pss_cons (ps_set (i := 6) nd rfl (Or.inl rfl) (pe_callTy (c_list (K := K) rfl) (by rfl) T.z_list (by decide +kernel) (pa_cons (pv 3) pa_nil)))
    (Evl.pss_cut (ps_if (pt_cmpR op_eq (pv 4) pe_int (nomark _)) (pss_one (ps_set (i := 5) nd rfl (Or.inl rfl) (pe_ix (c_ix (K := K) rfl) (pe_lst (pa_cons pe_int (pa_cons pe_int (pa_cons (pe_un un_neg pe_int) pa_nil)))) (pe_call (ok__law_take T) (hr.mono (by decide)) rfl T.m__law_take T.F__law_take.kp T.b__law_take .nil pass0 (pa_cons (pv 1) (pa_cons pe_int pa_nil))) (fun _ _ => rfl)))) pss_nil)
    (Evl.pss_cut (ps_if (pt_cmpR op_eq (pv 4) pe_int (nomark _)) (pss_one (ps_set (i := 6) nd rfl (Or.inl rfl) (pe_lst pa_nil))) pss_nil)
    (Evl.pss_cut (ps_if (pt_cmpR op_eq (pv 4) pe_int (nomark _)) (pss_one (ps_set (i := 6) nd rfl (Or.inl rfl) (pe_op (c_catL (K := K) rfl) (pv 3) (pe_op op_rep (pe_lst (pa_cons (pe_tup (pa_cons pe_int pa_nil)) pa_nil)) (pe_op op_sub pe_int (pe_callB (c_len (K := K) rfl) (by rfl) T.z_len PySem.boot_len (pa_cons (pv 3) pa_nil))))))) pss_nil)
    (Evl.pss_cut (ps_if (pt_cmpR (c_in (K := K) rfl) (pv 4) (pe_tup (pa_cons pe_int (pa_cons pe_int pa_nil))) (by rfl)) (pss_cons (ps_set (i := 7) nd rfl (Or.inl rfl) (pe_lst (pa_cons (pe_tup pa_nil) (pa_cons (pe_tup (pa_cons (pv 2) pa_nil)) (pa_cons (pe_tup (pa_cons (pe_un un_neg pe_int) pa_nil)) (pa_cons (pe_tup (pa_cons pe_int (pa_cons pe_int pa_nil))) (pa_cons (pe_tup (pa_cons pe_int (pa_cons pe_int pa_nil))) pa_nil)))))))
     (pss_one (ps_asg (pe_ix (c_ix (K := K) rfl) (pv 7) (pe_call (ok__law_take T) (hr.mono (by decide)) rfl T.m__law_take T.F__law_take.kp T.b__law_take .nil pass0 (pa_cons (pv 1) (pa_cons pe_int pa_nil))) (fun _ _ => rfl)) (pg_sub (pv 6) (pe_call (ok__law_take T) (hr.mono (by decide)) rfl T.m__law_take T.F__law_take.kp T.b__law_take .nil pass0 (pa_cons (pv 1) (pa_cons (pe_callB (c_len (K := K) rfl) (by rfl) T.z_len PySem.boot_len (pa_cons (pv 6) pa_nil)) pa_nil))) set_list)))) pss_nil)
    (pss_cons (ps_set (i := 8) nd rfl (Or.inl rfl) (pe_callTy (c_list (K := K) rfl) (by rfl) T.z_list (by decide +kernel) (pa_cons (pv 6) pa_nil)))
    (pss_cons (ps_set (i := 9) nd rfl (Or.inl rfl) (pe_call (ok__law_outcome T) (hr.mono (by decide)) rfl T.m__law_outcome T.F__law_outcome.kp T.b__law_outcome .nil pass0 (pa_cons (pv 5) (pa_cons (pv 8) pa_nil))))
    (pss_cons (ps_if (pt_cmpR op_lt (pv 4) pe_int (nomark _)) (pss_one (ps_ret (pe_and (pe_cmpR op_isN (pv 9) pe_non (nomark _)) (pe_one (pe_cmpR (c_eq (K := K) rfl hr.units) (pv 8) (pv 6) (nomark _)))))) pss_nil)
    (pss_cons (ps_expr (pe_bm PySem.F.plainAttrs_list PySem.F.slot_list_append PySem.F.type_list_append mt_append (pv 8) (pa_cons (pe_tup (pa_cons pe_int pa_nil)) pa_nil)))
    (pss_cons (ps_if (PW.pt (pw_or (pt_cmpR op_isN (pv 9) pe_non (nomark _)) (pw_or (pt_cmpR (c_eqOI (K := K) rfl hr.units) (pv 9) pe_int (nomark _)) (pw_or (pt_cmpR op_ne (c_fld (K := K) rfl (pv 9) rfl) (pv 2) (nomark _)) (pw_or1 (pt_cmpR (c_ne (K := K) rfl hr.units) (c_fld (K := K) rfl (pv 9) rfl) (pe_callTy (c_tuple (K := K) rfl) (by rfl) T.z_tuple (by decide +kernel) (pa_cons (pv 3) pa_nil)) (nomark _))))))) (pss_one (ps_ret pe_bl)) pss_nil)
    (pss_cons (ps_setLc (i := 10) (own := [("k", 14)]) (by rfl) nd rfl rfl (sw_true rfl rfl rfl (by decide +kernel)) (pi_range1 (by rfl) T.z_range (pa_cons (pe_callB (c_len (K := K) rfl) (by rfl) T.z_len PySem.boot_len (pa_cons (pv 3) pa_nil)) pa_nil)) (blkOk_by (N := ["script", "draws", "count", "letters", "spoilt", "said", "given", "odd", "passed", "found", "chosen", "first", "second", "apart", "k"]) (sc := defScope s_law) (own := [("k", 14)]) (by decide +kernel)) (fun _ _ _ _ _ => pg_name (i := 14) nd rfl (by first | exact Or.inl rfl | exact Or.inr rfl)) (fun _ _ _ _ _ => (pts_one (pt_cmpR op_gt (pe_call (ok__law_take T) (hr.mono (by decide)) rfl T.m__law_take T.F__law_take.kp T.b__law_take .nil pass0 (pa_cons (pv 1) (pa_cons pe_int pa_nil))) pe_int (nomark _)))) (fun _ _ _ _ _ => (pv 14)))
    (Evl.pss_cut (ps_if (pt_cmpR op_eq (pe_call (ok__law_take T) (hr.mono (by decide)) rfl T.m__law_take T.F__law_take.kp T.b__law_take .nil pass0 (pa_cons (pv 1) (pa_cons pe_int pa_nil))) pe_int (nomark _)) (pss_one (ps_expr (pe_bm0 PySem.F.plainAttrs_list PySem.F.slot_list_reverse PySem.F.type_list_reverse mt_reverse (pv 10)))) pss_nil)
    (pss_cons (ps_set (i := 11) nd rfl (Or.inl rfl) (pe_call (ok__law_take T) (hr.mono (by decide)) rfl T.m__law_take T.F__law_take.kp T.b__law_take .nil pass0 (pa_cons (pv 1) (pa_cons (pe_callB (c_len (K := K) rfl) (by rfl) T.z_len PySem.boot_len (pa_cons (pv 3) pa_nil)) pa_nil))))
    (pss_cons (ps_set (i := 12) nd rfl (Or.inl rfl) (pe_call (ok__law_take T) (hr.mono (by decide)) rfl T.m__law_take T.F__law_take.kp T.b__law_take .nil pass0 (pa_cons (pv 1) (pa_cons (pe_callB (c_len (K := K) rfl) (by rfl) T.z_len PySem.boot_len (pa_cons (pv 3) pa_nil)) pa_nil))))
    (pss_cons (ps_set (i := 13) nd rfl (Or.inl rfl) (pe_call (ok_independent T) (hr.mono (by decide)) rfl T.m_independent T.F_independent.kp T.b_independent .nil pass0 (pa_cons (pv 9) (pa_cons (pv 11) (pa_cons (pv 12) pa_nil)))))
    (pss_cons (ps_if (PW.pt (pw_or (pt_not (pt_val (pe_callB (c_isi (K := K) rfl) (by rfl) T.z_isinstance (by decide +kernel) (pa_cons (pv 13) (pa_cons (pe_bltn (v := .ty "bool") (by rfl) T.z_bool (by decide +kernel) rfl) pa_nil))))) (pw_or1 (pt_cmpR (c_ne (K := K) rfl hr.units) (pv 13) (pe_call (ok__law_free T) (hr.mono (by decide)) rfl T.m__law_free T.F__law_free.kp T.b__law_free .nil pass0 (pa_cons (pv 3) (pa_cons (pv 11) (pa_cons (pv 12) pa_nil)))) (nomark _))))) (pss_one (ps_ret pe_bl)) pss_nil)
    (pss_one (ps_ret (pe_cmpR (c_eq (K := K) rfl hr.units) (pe_call (ok_components T) (hr.mono (by decide)) rfl T.m_components T.F_components.kp T.b_components .nil pass0 (pa_cons (pv 9) (pa_cons (pe_callTy (c_list (K := K) rfl) (by rfl) T.z_list (by decide +kernel) (pa_cons (pv 10) pa_nil)) pa_nil))) (pe_call (ok__law_pieces T) (hr.mono (by decide)) rfl T.m__law_pieces T.F__law_pieces.kp T.b__law_pieces .nil pass0 (pa_cons (pv 3) (pa_cons (pv 10) pa_nil))) (nomark _)))))))))))))))))))))))), ?_⟩
  refine go_start w ps (Γ := [some (PLi K (ns.map fun n => D K (.int n))), none, none, none, none, none, none, none, none, none, none, none, none, none, none]) rfl ?_
  refine (q_asgN (use__law_draws (ea_cons (ev_var rfl) (ea_cons (ev_int (K := K)) ea_nil)) (by decide) (by decide) (by omega)) fun d hd => ?_)
  generalize PLi K (ns.map fun n => D K (.int n)) = S at *
  refine (q_unp2 (φ := fun x : Int × Lets => AlphaOk x.1 x.2 ∧ x.1 ≤ 4 ∧ (x.2.length : Int) ≤ 6) (R1 := fun x => D K (.int x.1)) (R2 := fun x => D K (dLT x.2)) ((use__law_alphabet (ea_cons (ev_var rfl) (ea_cons (ev_int (K := K)) (ea_cons (ev_int (K := K)) ea_nil))) (by decide) (j := 0) rfl).weak (PEx.le fun x => PAn.le fun _ => D_PTu)) fun x hx => ?_)
  obtain ⟨n, ls⟩ := x
  obtain ⟨A, n4, l6⟩ := hx
  dsimp only at A n4 l6
  have n1 := A.k1
  have ll := A.l1
  have llen4 : ∀ l ∈ ls, l.length ≤ 100 := fun l hl => by
    obtain ⟨_, h2, h3⟩ := A.ok l hl
    have := pw_len h2 h3 (by omega)
    omega
  have llen : ∀ l ∈ ls, l.length ≤ 1000 := fun l hl => by have := llen4 l hl; omega
  have evlen : ∀ {Γ : Gm} {M : Ms}, Γ[3]? = some (some (D K (dLT ls))) → Ev (tCB (rLn K) (tCons (tVar 3) tNil)) Γ M (D K (.int ls.length)) M := fun e => ev_lenM (f := dT) (ev_var e)
  dsimp only [List.set]
  refine (q_asg (use__law_take (n := 12) (ea_cons (ev_var (i := 1) rfl) (ea_cons (ev_int (K := K) (i := 12)) ea_nil)) (by decide) (j := 0) rfl) (nx_ex (i := 4) rfl fun sp => nx_an (i := 4) rfl fun hsp => ?_))
  dsimp only [List.set]
  refine (q_asg (ev_var (i := 2) rfl) ?_)
  dsimp only [List.set]
  refine (q_asgN (evn_cb (ea_cons ((ev_var (i := 3) rfl).weak le_Lm) ea_nil) rcn_listL) fun q hq => ?_)
  dsimp only [List.set]
  refine go_cut (JK S d n ls sp H K 1) ?_ ?_
  · refine go_if (et_test (ev_op (ev_var (i := 4) rfl) (ev_int (K := K) (i := 0)) rv_eqI)) (fun hz => ?_) fun hz => go_next (JA.of ⟨q, n, ls, _, rfl, rfl, hq, by omega, llen4, fun h => (by simp at hz; omega), fun _ => ⟨rfl, rfl⟩⟩)
    refine go_asg (ev_op (ev_newL (K := K) (evn_lst (ps := [D K (.int 0), D K (.int 5), D K (.int (-1))]) (ea_cons (ev_int (K := K)) (ea_cons (ev_int (K := K)) (ea_cons (ev_neg (ev_int (K := K) (i := 1))) ea_nil))) (by simp))) (use__law_take (n := 3) (ea_cons (ev_var (i := 1) rfl) (ea_cons (ev_int (K := K) (i := 3)) ea_nil)) (by decide) (j := 1) rfl) (rv_ixP (n := 3) (R := PEx fun z : Int => PAn (¬ (1 ≤ z ∧ z ≤ 4)) (D K (.int z))) rfl fun p hp => by
      simp only [List.mem_cons, List.not_mem_nil, or_false] at hp
      rcases hp with rfl | rfl | rfl
      · exact in_ex (R := fun z : Int => D K (.int z)) (φ := fun z : Int => ¬ (1 ≤ z ∧ z ≤ 4)) 0 (by decide)
      · exact in_ex (R := fun z : Int => D K (.int z)) (φ := fun z : Int => ¬ (1 ≤ z ∧ z ≤ 4)) 5 (by decide)
      · exact in_ex (R := fun z : Int => D K (.int z)) (φ := fun z : Int => ¬ (1 ≤ z ∧ z ≤ 4)) (-1) (by decide))) (nx_ex (i := 5) rfl fun z => nx_an (i := 5) rfl fun hz2 => JA.of ⟨q, z, ls, _, rfl, rfl, hq, by omega, llen4, fun _ A2 => hz2 ⟨A2.k1, A2.k4⟩, fun h => (by simp at hz; omega)⟩)
  clear hq q
  rintro _ _ ⟨q, said, G, g7, rfl, rfl, hq, gl, gb, j1, j2⟩
  refine go_cut (JK S d n ls sp H K 2) ?_ ?_
  · refine go_if (et_test (ev_op (ev_var (i := 4) rfl) (ev_int (K := K) (i := 1)) rv_eqI)) (fun hz => ?_) fun hz => go_next (JA.of ⟨q, said, G, _, rfl, rfl, hq, gl, gb, fun h => j1 (by simp at hz; omega), fun h => j2 (by omega)⟩)
    refine go_asgN (evn_lst ea_nil (by decide)) fun q2 hq2 => ?_
    exact nx_drop (List.Sublist.cons₂ _ (List.sublist_cons_self _ _)) (JA.of ⟨q2, said, [], _, rfl, rfl, hq2, by simp, fun l hl => (by cases hl), fun _ A2 => (by have := A2.l1; simp at this), fun h => (by simp at hz; omega)⟩)
  clear hq gl gb j1 j2 q
  rintro _ _ ⟨q, said, G, g7, rfl, rfl, hq, gl, gb, j1, j2⟩
  refine go_cut (JK S d n ls sp H K 3) ?_ ?_
  · refine go_if (et_test (ev_op (ev_var (i := 4) rfl) (ev_int (K := K) (i := 2)) rv_eqI)) (fun hz => ?_) fun hz => go_next (JA.of ⟨q, said, G, _, rfl, rfl, hq, gl, gb, fun h => j1 (by simp at hz; omega), fun h => j2 (by omega)⟩)
    refine go_asgN ((evn_catL ((ev_var (i := 3) rfl).weak le_Lm) (ev_newL (K := K) (evn_rep (K := K) (P := D K (dT [0])) (z := 7 - (ls.length : Int)) (evn_lst (ps := [D K (dT [0])]) (ea_cons ((ev_tup (ps := [D K (.int 0)]) (ea_cons (ev_int (K := K)) ea_nil) (by simp)).weak (dT_le (l := [0]))) ea_nil) (by simp)) (fun M => ev_op (ev_int (K := K)) (evlen rfl) (rv_i0 (g := fun i j => i - j))) (by omega))) (by rw [List.length_map, List.length_replicate]; omega)).is (O2 := MLT K (ls ++ List.replicate (7 - (ls.length : Int)).toNat [(0 : Int)])) (by rw [MLT, List.map_append, List.map_replicate])) fun q2 hq2 => ?_
    refine nx_drop (List.Sublist.cons₂ _ (List.sublist_cons_self _ _)) (JA.of ⟨q2, said, _, _, rfl, rfl, hq2, by rw [List.length_append, List.length_replicate]; omega, fun l hl => ?_, fun _ A2 => (by have := A2.l6; rw [List.length_append, List.length_replicate] at this; omega), fun h => (by simp at hz; omega)⟩)
    rcases List.mem_append.mp hl with hl | hl
    · exact llen4 l hl
    · rw [(List.mem_replicate.mp hl).2]; simp
  clear hq gl gb j1 j2 q
  rintro _ _ ⟨q, said, G, g7, rfl, rfl, hq, gl, gb, j1, j2⟩
  refine go_cut (JK S d n ls sp H K 5) ?_ ?_
  · refine go_if (et_test (ev_op (ev_var (i := 4) rfl) ((ev_tup (ps := [D K (.int 3), D K (.int 4)]) (ea_cons (ev_int (K := K)) (ea_cons (ev_int (K := K)) ea_nil)) (by simp)).weak (dT_le (l := [3, 4]))) (rv_inT (ns := [3, 4]) (neg := false)))) (fun hz => ?_) fun hz => go_next (JA.of ⟨q, said, G, _, rfl, rfl, hq, gl, gb, fun h => j1 (by simp at hz; omega), fun h => j2 (by omega)⟩)
    have hsp2 : sp = 3 ∨ sp = 4 := by simpa using hz
    obtain ⟨rfl, rfl⟩ := j2 (by omega)
    refine (q_asg (P := D K (.list ([([] : List Int), [said], [-1], [1, 0], [0, 0]].map dT))) ((ev_newL (K := K) (evn_lst (ps := [([] : List Int), [said], [-1], [1, 0], [0, 0]].map fun l => D K (dT l)) (ea_cons ((ev_tup (ps := []) ea_nil (by simp)).weak (dT_le (l := []))) (ea_cons ((ev_tup (ps := [D K (.int said)]) (ea_cons (ev_var (i := 2) rfl) ea_nil) (by simp)).weak (dT_le (l := [said]))) (ea_cons ((ev_tup (ps := [D K (.int (-1))]) (ea_cons (ev_neg (ev_int (K := K) (i := 1))) ea_nil) (by simp)).weak (dT_le (l := [-1]))) (ea_cons ((ev_tup (ps := [D K (.int 1), D K (.int 0)]) (ea_cons (ev_int (K := K)) (ea_cons (ev_int (K := K)) ea_nil)) (by simp)).weak (dT_le (l := [1, 0]))) (ea_cons ((ev_tup (ps := [D K (.int 0), D K (.int 0)]) (ea_cons (ev_int (K := K)) (ea_cons (ev_int (K := K)) ea_nil)) (by simp)).weak (dT_le (l := [0, 0]))) ea_nil))))) (by simp))).weak (Lm_le (f := dT))) ?_)
    dsimp only [List.set]
    refine go_setEX (n := G.length) (j := 0) (R := fun l : List Int => D K (dT l)) (φ := fun l => l ∈ [([] : List Int), [said], [-1], [1, 0], [0, 0]]) (ev_op (ev_var (i := 7) rfl) (use__law_take (n := 5) (ea_cons (ev_var (i := 1) rfl) (ea_cons (ev_int (K := K) (i := 5)) ea_nil)) (by decide) (j := 1) rfl) rv_ixX) (ev_var (i := 6) rfl) (use__law_take (n := (G.length : Int)) (ea_cons (ev_var (i := 1) rfl) (ea_cons ((ev_cb (ea_cons (ev_var (i := 6) rfl) ea_nil) (rc_lenO (j := 0) rfl)).is (by rw [List.length_map])) ea_nil)) (by omega) (j := 1) rfl) rfl (by rw [List.length_map]) fun l hl i hi => ?_
    refine JA.of ⟨q, said, G.set i l, _, rfl, by show _ = [(q, ML ((G.set i l).map fun l => D K (dT l))), (d, MDr K)]; rw [List.map_set]; rfl, hq, by rw [List.length_set]; exact gl, fun l' hl' => ?_, fun _ A2 => ?_, fun h => by omega⟩
    · rcases List.mem_or_eq_of_mem_set hl' with h | rfl
      · exact gb l' h
      · simp only [List.mem_cons, List.not_mem_nil, or_false] at hl
        rcases hl with rfl | rfl | rfl | rfl | rfl <;> simp
    · have hm : l ∈ G.set i l := List.mem_set hi l
      obtain ⟨c1, c2, c3⟩ := A2.ok l hm
      simp only [List.mem_cons, List.not_mem_nil, or_false] at hl
      rcases hl with rfl | rfl | rfl | rfl | rfl
      · exact c1 rfl
      · have := c3 said (by simp); omega
      · have := c3 (-1) (by simp); omega
      · simp at c2
      · simp at c2
  clear hq gl gb j1 j2 q
  rintro _ _ ⟨q, said, G, g7, rfl, rfl, hq, gl, gb, j1, j2⟩
  refine (q_asgN (evn_cb (ea_cons (ev_var (i := 6) rfl) ea_nil) (rcn_listO (j := 0) rfl)) fun pq hpq => ?_)
  dsimp only [List.set]
  have gb2 : G.length ≤ 1000 ∧ ∀ l ∈ G, l.length ≤ 1000 := ⟨by omega, fun l hl => by have := gb l hl; omega⟩
  by_cases h5 : sp < 5
  · refine (q_asg (use_outcome_no (L := G) (j := 0) (ea_cons (ev_var (i := 5) rfl) (ea_cons (ev_var (i := 8) rfl) ea_nil)) rfl gb2 (j1 h5)) ?_)
    dsimp only [List.set]
    refine (q_if (et_test (ev_op (ev_var (i := 4) rfl) (ev_int (K := K) (i := 5)) (rv_b0 (g := fun i j => decide (i < j))))) (fun _ => ?_) fun hz => absurd hz (by simp; omega))
    refine nx_freeze (K := K) (i := 8) 0 rfl hpq rfl ?_
    dsimp only [List.set, List.eraseIdx]
    refine nx_freeze (K := K) (i := 6) 0 rfl hq rfl ?_
    dsimp only [List.set, List.eraseIdx]
    exact go_ret Le.refl ((ev_andV (a := true) (b := true) (ev_op (ev_var (i := 9) rfl) (ev_non (K := K)) rv_isN1) fun _ => (ev_op (P1 := D K (dLT G)) (P2 := D K (dLT G)) ((ev_var (i := 8) rfl).weak (Lm_le (f := dT))) ((ev_var (i := 6) rfl).weak (Lm_le (f := dT))) (rv_eqE enc_dLT (by decide))).is (by simp)).is (by simp)) (k _)
  obtain ⟨e1, e2⟩ := j2 (by omega)
  subst said
  subst G
  refine (q_asg (use_outcome_ok (L := ls) (j := 0) (ea_cons (ev_var (i := 5) rfl) (ea_cons (ev_var (i := 8) rfl) ea_nil)) rfl gb2 A) ?_)
  dsimp only [List.set]
  refine (q_if (et_test (ev_op (ev_var (i := 4) rfl) (ev_int (K := K) (i := 5)) (rv_b0 (g := fun i j => decide (i < j))))) (fun hz => absurd hz (by simp; omega)) fun _ => go_next ?_)
  refine (q_app (j := 0) (P := D K (dT [9])) (ev_var (i := 8) rfl) ((ev_tup (ps := [D K (.int 9)]) (ea_cons (ev_int (K := K)) ea_nil) (by simp)).weak (dT_le (l := [9]))) rfl rfl (by rw [List.length_map]; omega) ?_)
  dsimp only [List.set]
  refine (q_if (et_or (a := false) (b := false) (et_test (ev_op (ev_var (i := 9) rfl) (ev_non (K := K)) rv_isNI)) fun _ => et_or (a := false) (b := false) (et_test (ev_op (ev_var (i := 9) rfl) (ev_int (K := K) (i := 0)) (rv_eqOI T.om_Alphabet T.oe_Alphabet))) fun _ => et_or (a := false) (b := false) ((et_test (ev_op (ev_places (ev_var (i := 9) rfl)) (ev_var (i := 2) rfl) rv_neI)).is (by simp)) fun _ => (et_test (ev_op (P1 := D K (dTT ls)) (P2 := D K (dTT ls)) (ev_fld (P := D K (dTT ls)) (fps := alF K n ls) (ev_var (i := 9) rfl) (by simp) T.cl_Alphabet T.na_Alphabet_letters) ((ev_cb (ea_cons ((ev_var (i := 3) rfl).weak le_Lm) ea_nil) rc_tupleL).weak (Tm_le (f := dT))) (rv_neE enc_dTT (by decide)))).is (by simp)) (fun hz => absurd hz (by simp)) fun _ => go_next ?_)
  refine (q_asgN (evn_lcRD (K := K) (z := (ls.length : Int)) (G := fun x : Nat => D K (.int (x : Int))) (ea_cons (evlen rfl) ea_nil) (by omega) (fun x _ => et_testX (φ := fun _ => True) (ev_op (use__law_take (n := 3) (ea_cons (ev_var (i := 1) rfl) (ea_cons (ev_int (K := K) (i := 3)) ea_nil)) (by decide) (j := 2) rfl) (ev_int (K := K) (i := 0)) rv_gtX)) (fun x _ => ev_var (i := 14) rfl)) fun cq hcq => nx_exM (j := 0) rfl fun C0 => nx_anM (j := 0) rfl fun hC0 => ?_)
  rw [Int.toNat_natCast] at hC0
  have C0m : ∀ x ∈ C0, x < ls.length := fun x hx => List.mem_range.mp (hC0.subset hx)
  have C0u : C0.Pairwise (· < ·) := List.pairwise_lt_range.sublist hC0
  have C0l : C0.length ≤ ls.length := by have := hC0.length_le; rwa [List.length_range] at this
  dsimp only [List.set]
  refine go_cut (fun Γ M => ∃ (C : List Int), Γ = [some S, some (Own d), some (D K (.int n)), some (D K (dLT ls)), some (D K (.int sp)), some (D K (.int n)), some (Own q), g7, some (Own pq), some (PAl T n ls), some (Own cq), none, none, none, none] ∧ M = [(cq, MInts K C), (pq, ML ((ls.map fun l => D K (dT l)) ++ [D K (dT [9])])), (q, MLT K ls), (d, MDr K)] ∧ C.Perm (C0.map fun x : Nat => (x : Int))) ?_ ?_
  · refine go_if (et_testX (φ := fun _ => True) (ev_op (use__law_take (n := 2) (ea_cons (ev_var (i := 1) rfl) (ea_cons (ev_int (K := K) (i := 2)) ea_nil)) (by decide) (j := 3) rfl) (ev_int (K := K) (i := 0)) rv_eqX)) (fun _ => ?_) fun _ => go_next (JA.of ⟨C0.map fun x : Nat => (x : Int), rfl, by simp [MInts, List.map_map, Function.comp_def], .refl _⟩)
    refine go_rev (j := 0) (ev_var (i := 10) rfl) rfl (JA.of ⟨(C0.map fun x : Nat => (x : Int)).reverse, rfl, by simp [MInts, List.map_map, Function.comp_def, ← List.map_reverse], List.reverse_perm _⟩)
  rintro _ _ ⟨C, rfl, rfl, pm⟩
  refine nx_freeze (K := K) (i := 10) 0 rfl hcq rfl ?_
  dsimp only [List.set, List.eraseIdx]
  have Cok : WordOk ls C := fun x hx => by
    obtain ⟨y, hy, rfl⟩ := List.mem_map.mp (pm.mem_iff.mp hx)
    have := C0m y hy
    omega
  have Sup : (C0.map fun x : Nat => (x : Int)).Pairwise (· < ·) := List.pairwise_map.mpr (C0u.imp fun h => by omega)
  have Cl : C.length ≤ 6 := by rw [pm.length_eq, List.length_map]; omega
  have Cnd : C.Nodup := pm.nodup_iff.mpr (Sup.imp fun h => Int.ne_of_lt h)
  refine (q_asg (use__law_take (n := (ls.length : Int)) (ea_cons (ev_var (i := 1) rfl) (ea_cons (evlen rfl) ea_nil)) (by omega) (j := 2) rfl) (nx_ex (i := 11) rfl fun fs => nx_an (i := 11) rfl fun hfs => ?_))
  dsimp only [List.set]
  refine (q_asg (use__law_take (n := (ls.length : Int)) (ea_cons (ev_var (i := 1) rfl) (ea_cons (evlen rfl) ea_nil)) (by omega) (j := 2) rfl) (nx_ex (i := 12) rfl fun sc => nx_an (i := 12) rfl fun hsc => ?_))
  dsimp only [List.set]
  refine (q_asg (use_independent (ea_cons (ev_var (i := 9) rfl) (ea_cons (ev_var (i := 11) rfl) (ea_cons (ev_var (i := 12) rfl) ea_nil))) ⟨A, hfs, hsc⟩) ?_)
  dsimp only [List.set]
  refine (q_if (et_or (a := false) (b := false) ((et_not (et_val (ev_cb (ea_cons (ev_var (i := 13) rfl) (ea_cons ev_pv ea_nil)) (rc_isi (d := .bool (free ls fs sc)) (b := true) (by show kitB "bool" "bool" = some true; decide +kernel))))).is (by simp)) fun _ => (et_test (ev_op (ev_var (i := 13) rfl) (use__law_free (ea_cons (ev_var (i := 3) rfl) (ea_cons (ev_var (i := 11) rfl) (ea_cons (ev_var (i := 12) rfl) ea_nil))) ⟨hfs.1, hfs.2, hsc.1, hsc.2, llen⟩) (rv_neE enc_bool (by decide)))).is (by simp)) (fun hz => absurd hz (by simp)) fun _ => go_next ?_)
  have cm := (use_components (T := T) (X := E0) (ls := ls) (L := C) (Γ := [some S, some (Own d), some (D K (.int n)), some (D K (dLT ls)), some (D K (.int sp)), some (D K (.int n)), some (Own q), g7, some (Own pq), some (PAl T n ls), some (PLi K (C.map fun n => D K (.int n))), some (D K (.int fs)), some (D K (.int sc)), some (D K (.bool (free ls fs sc))), none]) (M := [(pq, ML ((ls.map fun l => D K (dT l)) ++ [D K (dT [9])])), (q, MLT K ls), (d, MDr K)]) (ea_cons (ev_var (i := 9) rfl) (ea_cons (ev_newL (K := K) (evn_cb (ea_cons (ev_var (i := 10) rfl) ea_nil) rcn_listL)) ea_nil)) ⟨A, Cok, Cnd, by omega⟩).weak (P' := D K (.list ((cmps ls (C0.map fun x : Nat => (x : Int))).map dL))) fun F v ⟨S', ⟨h1, h2⟩, h⟩ => by
    have e : S' = C0.map fun x : Nat => (x : Int) := lt_unique h2 Sup fun x => by rw [h1.mem_iff, pm.mem_iff]
    rw [← e]; exact h
  exact go_ret Le.refl ((ev_op cm (use__law_pieces (S := C0.map fun x : Nat => (x : Int)) (ea_cons (ev_var (i := 3) rfl) (ea_cons (ev_var (i := 10) rfl) ea_nil)) ⟨A, Cok, by omega, Sup, fun x => by rw [pm.mem_iff]⟩) (rv_eqE (enc_list enc_dL) (by decide))).is (by simp)) (k _)
end
end My
namespace My
open PySem L2 Hq
theorem all_mk {l : PySem.W.OpenLaw} {wo : World} {K : PySem.W.Frag} {h : Heap} {mg : Str → Option Value} {fa c_Alphabet c_InvalidAlphabet c_PlaceError f__law_take f__law_draws f__check_letter f_Alphabet_init f__law_free f__law_alphabet f_independent f__reached f_components f__law_outcome f__law_pieces f_law : Addr} (X : K.In h) (G : h.Ns mainGlobals mg) (hfa : mg "law" = some (.ref fa))
    {od0 od1 od2 od3 od4 od5 od6 od7 od8 od9 od10 od11 an0 an1 an2 an3 an4 an5 an6 an7 an8 an9 an10 an11 : Option Addr} {sl0 sl1 sl2 sl3 sl4 sl5 sl6 sl7 sl8 sl9 sl10 sl11 : Array (Option Value)} {oc0 oc1 oc2 oc3 oc4 oc5 oc6 oc7 oc8 oc9 oc10 oc11 kV0 kV1 kV2 kV3 kV4 kV5 kV6 kV7 kV8 kV9 kV10 kV11 dc0 dc1 dc2 dc3 dc4 dc5 dc6 dc7 dc8 dc9 dc10 dc11 pm0 pm1 pm2 pm3 pm4 pm5 pm6 pm7 pm8 pm9 pm10 pm11 cd0 cd1 cd2 cd3 cd4 cd5 cd6 cd7 cd8 cd9 cd10 cd11 ct0 ct1 ct2 ct3 ct4 ct5 ct6 ct7 ct8 ct9 ct10 ct11 : Value}
    {t_MOST_LETTERS : Tok}
    {t_MOST_PLACES : Tok}
    (aC_Alphabet : PySem.W.nsIn K mainGlobals "Alphabet" = some (some (.ref c_Alphabet)))
    (a0 : PySem.W.nsIn K mainGlobals "_law_take" = some (some (.ref f__law_take)))
    (l0 : K.lookup f__law_take = some ⟨oc0, od0, .func (PySem.W.fnOf "_law_take" "_law_take" (defArgs s__law_take) (defBody s__law_take) (defScope s__law_take) .none kV0 dc0 pm0 an0 cd0 ct0), sl0⟩)
    (c0 : PySem.W.codeIn K cd0 "_law_take" = true)
    (k0 : PySem.W.keepIn K (.ref f__law_take) = true)
    (a1 : PySem.W.nsIn K mainGlobals "_law_draws" = some (some (.ref f__law_draws)))
    (l1 : K.lookup f__law_draws = some ⟨oc1, od1, .func (PySem.W.fnOf "_law_draws" "_law_draws" (defArgs s__law_draws) (defBody s__law_draws) (defScope s__law_draws) .none kV1 dc1 pm1 an1 cd1 ct1), sl1⟩)
    (c1 : PySem.W.codeIn K cd1 "_law_draws" = true)
    (k1 : PySem.W.keepIn K (.ref f__law_draws) = true)
    (a2 : PySem.W.nsIn K mainGlobals "_check_letter" = some (some (.ref f__check_letter)))
    (l2 : K.lookup f__check_letter = some ⟨oc2, od2, .func (PySem.W.fnOf "_check_letter" "_check_letter" (defArgs s__check_letter) (defBody s__check_letter) (defScope s__check_letter) .none kV2 dc2 pm2 an2 cd2 ct2), sl2⟩)
    (c2 : PySem.W.codeIn K cd2 "_check_letter" = true)
    (k2 : PySem.W.keepIn K (.ref f__check_letter) = true)
    (a3 : PySem.W.findIn K (.ref c_Alphabet) "__init__" = some (some (.ref f_Alphabet_init)))
    (i3 : PySem.W.isFn K (.ref f_Alphabet_init) = true)
    (l3 : K.lookup f_Alphabet_init = some ⟨oc3, od3, .func (PySem.W.fnOf "__init__" "Alphabet.__init__" (defArgs s_Alphabet_init) (defBody s_Alphabet_init) (defScope s_Alphabet_init) .none kV3 dc3 pm3 an3 cd3 ct3), sl3⟩)
    (c3 : PySem.W.codeIn K cd3 "Alphabet.__init__" = true)
    (k3 : PySem.W.keepIn K (.ref f_Alphabet_init) = true)
    (a4 : PySem.W.nsIn K mainGlobals "_law_free" = some (some (.ref f__law_free)))
    (l4 : K.lookup f__law_free = some ⟨oc4, od4, .func (PySem.W.fnOf "_law_free" "_law_free" (defArgs s__law_free) (defBody s__law_free) (defScope s__law_free) .none kV4 dc4 pm4 an4 cd4 ct4), sl4⟩)
    (c4 : PySem.W.codeIn K cd4 "_law_free" = true)
    (k4 : PySem.W.keepIn K (.ref f__law_free) = true)
    (a5 : PySem.W.nsIn K mainGlobals "_law_alphabet" = some (some (.ref f__law_alphabet)))
    (l5 : K.lookup f__law_alphabet = some ⟨oc5, od5, .func (PySem.W.fnOf "_law_alphabet" "_law_alphabet" (defArgs s__law_alphabet) (defBody s__law_alphabet) (defScope s__law_alphabet) .none kV5 dc5 pm5 an5 cd5 ct5), sl5⟩)
    (c5 : PySem.W.codeIn K cd5 "_law_alphabet" = true)
    (k5 : PySem.W.keepIn K (.ref f__law_alphabet) = true)
    (a6 : PySem.W.nsIn K mainGlobals "independent" = some (some (.ref f_independent)))
    (l6 : K.lookup f_independent = some ⟨oc6, od6, .func (PySem.W.fnOf "independent" "independent" (defArgs s_independent) (defBody s_independent) (defScope s_independent) .none kV6 dc6 pm6 an6 cd6 ct6), sl6⟩)
    (c6 : PySem.W.codeIn K cd6 "independent" = true)
    (k6 : PySem.W.keepIn K (.ref f_independent) = true)
    (a7 : PySem.W.nsIn K mainGlobals "_reached" = some (some (.ref f__reached)))
    (l7 : K.lookup f__reached = some ⟨oc7, od7, .func (PySem.W.fnOf "_reached" "_reached" (defArgs s__reached) (defBody s__reached) (defScope s__reached) .none kV7 dc7 pm7 an7 cd7 ct7), sl7⟩)
    (c7 : PySem.W.codeIn K cd7 "_reached" = true)
    (k7 : PySem.W.keepIn K (.ref f__reached) = true)
    (a8 : PySem.W.nsIn K mainGlobals "components" = some (some (.ref f_components)))
    (l8 : K.lookup f_components = some ⟨oc8, od8, .func (PySem.W.fnOf "components" "components" (defArgs s_components) (defBody s_components) (defScope s_components) .none kV8 dc8 pm8 an8 cd8 ct8), sl8⟩)
    (c8 : PySem.W.codeIn K cd8 "components" = true)
    (k8 : PySem.W.keepIn K (.ref f_components) = true)
    (a9 : PySem.W.nsIn K mainGlobals "_law_outcome" = some (some (.ref f__law_outcome)))
    (l9 : K.lookup f__law_outcome = some ⟨oc9, od9, .func (PySem.W.fnOf "_law_outcome" "_law_outcome" (defArgs s__law_outcome) (defBody s__law_outcome) (defScope s__law_outcome) .none kV9 dc9 pm9 an9 cd9 ct9), sl9⟩)
    (c9 : PySem.W.codeIn K cd9 "_law_outcome" = true)
    (k9 : PySem.W.keepIn K (.ref f__law_outcome) = true)
    (a10 : PySem.W.nsIn K mainGlobals "_law_pieces" = some (some (.ref f__law_pieces)))
    (l10 : K.lookup f__law_pieces = some ⟨oc10, od10, .func (PySem.W.fnOf "_law_pieces" "_law_pieces" (defArgs s__law_pieces) (defBody s__law_pieces) (defScope s__law_pieces) .none kV10 dc10 pm10 an10 cd10 ct10), sl10⟩)
    (c10 : PySem.W.codeIn K cd10 "_law_pieces" = true)
    (k10 : PySem.W.keepIn K (.ref f__law_pieces) = true)
    (a11 : PySem.W.nsIn K mainGlobals "law" = some (some (.ref f_law)))
    (l11 : K.lookup f_law = some ⟨oc11, od11, .func (PySem.W.fnOf "law" "law" (defArgs s_law) (defBody s_law) (defScope s_law) .none kV11 dc11 pm11 an11 cd11 ct11), sl11⟩)
    (c11 : PySem.W.codeIn K cd11 "law" = true)
    (k11 : PySem.W.keepIn K (.ref f_law) = true)
    (pg_Alphabet : PySem.W.plainGet K c_Alphabet Str.empty = true)
    (hd_Alphabet : PySem.W.hasDictIn K c_Alphabet = true)
    (po_Alphabet : PySem.W.plainOver K c_Alphabet = true)
    (sa_Alphabet : PySem.W.findIn K (.ref c_Alphabet) "__setattr__" = some (some (.builtin "object.__setattr__")))
    (mk_Alphabet : PySem.W.makesIn K c_Alphabet = true)
    (kc_Alphabet : PySem.W.keepIn K (.ref c_Alphabet) = true)
    (na_Alphabet_places : PySem.W.findIn K (.ref c_Alphabet) "places" = some none)
    (na_Alphabet_letters : PySem.W.findIn K (.ref c_Alphabet) "letters" = some none)
    (aC_InvalidAlphabet : PySem.W.nsIn K mainGlobals "InvalidAlphabet" = some (some (.ref c_InvalidAlphabet)))
    (x_InvalidAlphabet : PySem.W.excIn K c_InvalidAlphabet [.type "ValueError", .type "Exception", .type "BaseException", .type "object"] "ValueError.__new__" = true)
    (k_InvalidAlphabet : PySem.W.keepIn K (.ref c_InvalidAlphabet) = true)
    (b_InvalidAlphabet : PySem.W.subIn K (.ref c_InvalidAlphabet) (.type "BaseException") = some true)
    (t_InvalidAlphabet : PySem.W.typeIn K (.ref c_InvalidAlphabet) = some (.type "type"))
    (i_InvalidAlphabet : PySem.W.isClsIn K c_InvalidAlphabet = true)
    (s_InvalidAlphabet : PySem.W.subIn K (.ref c_InvalidAlphabet) (.ref c_InvalidAlphabet) = some true)
    (aC_PlaceError : PySem.W.nsIn K mainGlobals "PlaceError" = some (some (.ref c_PlaceError)))
    (ehg_InvalidAlphabet : PySem.W.findIn K (.ref c_InvalidAlphabet) "__getattribute__" = some (some (.builtin "BaseException.__getattribute__")))
    (ehk_InvalidAlphabet : PySem.W.findIn K (.ref c_InvalidAlphabet) "__getattr__" = some none)
    (ehs_InvalidAlphabet : PySem.W.subIn K (.ref c_InvalidAlphabet) (.type "BaseException") = some true)
    (ehd_InvalidAlphabet : PySem.W.hasDictIn K c_InvalidAlphabet = true)
    (eha_InvalidAlphabet : PySem.W.findIn K (.ref c_InvalidAlphabet) "__class__" = some (some (.builtin "object.__class__")))
    (ehn_InvalidAlphabet : PySem.W.specialIn K (.builtin "object.__class__") "__get__" = some (some (.builtin "getset_descriptor.__get__")))
    (eht_InvalidAlphabet : PySem.W.takesIn K (.builtin "object.__class__") = some true)
    (ehm_InvalidAlphabet : PySem.W.mroIn K c_InvalidAlphabet (.type "object") = some true)
    (jv_InvalidAlphabet : PySem.W.subIn K (.ref c_InvalidAlphabet) (.type "ValueError") = some true)
    (jk_InvalidAlphabet_PlaceError : PySem.W.subIn K (.ref c_InvalidAlphabet) (.ref c_PlaceError) = some true)
    (jc_InvalidAlphabet_PlaceError : PySem.W.isClsIn K c_PlaceError = true)
    (jt_InvalidAlphabet_PlaceError : PySem.W.typeIn K (.ref c_PlaceError) = some (.type "type"))
    (om_Alphabet : PySem.W.mroIn K c_Alphabet (.type "object") = some true)
    (oe_Alphabet : PySem.W.findIn K (.ref c_Alphabet) "__eq__" = some (some (.builtin "object.__eq__")))
    (z_ValueError : PySem.W.nsIn K mainGlobals "ValueError" = some none)
    (z_bool : PySem.W.nsIn K mainGlobals "bool" = some none)
    (z_int : PySem.W.nsIn K mainGlobals "int" = some none)
    (z_isinstance : PySem.W.nsIn K mainGlobals "isinstance" = some none)
    (z_len : PySem.W.nsIn K mainGlobals "len" = some none)
    (z_list : PySem.W.nsIn K mainGlobals "list" = some none)
    (z_range : PySem.W.nsIn K mainGlobals "range" = some none)
    (z_set : PySem.W.nsIn K mainGlobals "set" = some none)
    (z_sorted : PySem.W.nsIn K mainGlobals "sorted" = some none)
    (z_tuple : PySem.W.nsIn K mainGlobals "tuple" = some none)
    (v_MOST_LETTERS : PySem.W.nsIn K mainGlobals "MOST_LETTERS" = some (some (.int 6 t_MOST_LETTERS)))
    (v_MOST_PLACES : PySem.W.nsIn K mainGlobals "MOST_PLACES" = some (some (.int 4 t_MOST_PLACES)))
    : ∃ fd : FuncData, (∀ (s : Shared) (v : Value), BindsTo s fd ⟨[v], []⟩ [("script", v)]) ∧ ∀ base : Heap, K.In base → base.Ns mainGlobals mg → FnOk l.prog wo K mg base CX0 5 fa fd ["script"] (spLaw K) := by
  have e := hfa.symm.trans (PySem.W.mg_of X G a11)
  cases e
  let T : Txt K mg := {
    f__law_take := f__law_take, d__law_take := PySem.W.fnOf "_law_take" "_law_take" (defArgs s__law_take) (defBody s__law_take) (defScope s__law_take) .none kV0 dc0 pm0 an0 cd0 ct0,
    F__law_take := fun_mk l0 c0 k0,
    m__law_take := PySem.W.mg_of X G a0,
    b__law_take := (fun_mk (st := s__law_take) l0 c0 k0).binds (ps := ["draws", "limit"]) fun _ _ _ _ _ _ us hl => match us, hl with | [_, _], _ => rfl,
    f__law_draws := f__law_draws, d__law_draws := PySem.W.fnOf "_law_draws" "_law_draws" (defArgs s__law_draws) (defBody s__law_draws) (defScope s__law_draws) .none kV1 dc1 pm1 an1 cd1 ct1,
    F__law_draws := fun_mk l1 c1 k1,
    m__law_draws := PySem.W.mg_of X G a1,
    b__law_draws := (fun_mk (st := s__law_draws) l1 c1 k1).binds (ps := ["script", "count"]) fun _ _ _ _ _ _ us hl => match us, hl with | [_, _], _ => rfl,
    f__check_letter := f__check_letter, d__check_letter := PySem.W.fnOf "_check_letter" "_check_letter" (defArgs s__check_letter) (defBody s__check_letter) (defScope s__check_letter) .none kV2 dc2 pm2 an2 cd2 ct2,
    F__check_letter := fun_mk l2 c2 k2,
    m__check_letter := PySem.W.mg_of X G a2,
    b__check_letter := (fun_mk (st := s__check_letter) l2 c2 k2).binds (ps := ["places", "row"]) fun _ _ _ _ _ _ us hl => match us, hl with | [_, _], _ => rfl,
    f_Alphabet_init := f_Alphabet_init, d_Alphabet_init := PySem.W.fnOf "__init__" "Alphabet.__init__" (defArgs s_Alphabet_init) (defBody s_Alphabet_init) (defScope s_Alphabet_init) .none kV3 dc3 pm3 an3 cd3 ct3,
    F_Alphabet_init := fun_mk l3 c3 k3,
    b_Alphabet_init := (fun_mk (st := s_Alphabet_init) l3 c3 k3).binds (ps := ["self", "places", "letters"]) fun _ _ _ _ _ _ us hl => match us, hl with | [_, _, _], _ => rfl,
    f__law_free := f__law_free, d__law_free := PySem.W.fnOf "_law_free" "_law_free" (defArgs s__law_free) (defBody s__law_free) (defScope s__law_free) .none kV4 dc4 pm4 an4 cd4 ct4,
    F__law_free := fun_mk l4 c4 k4,
    m__law_free := PySem.W.mg_of X G a4,
    b__law_free := (fun_mk (st := s__law_free) l4 c4 k4).binds (ps := ["letters", "first", "second"]) fun _ _ _ _ _ _ us hl => match us, hl with | [_, _, _], _ => rfl,
    f__law_alphabet := f__law_alphabet, d__law_alphabet := PySem.W.fnOf "_law_alphabet" "_law_alphabet" (defArgs s__law_alphabet) (defBody s__law_alphabet) (defScope s__law_alphabet) .none kV5 dc5 pm5 an5 cd5 ct5,
    F__law_alphabet := fun_mk l5 c5 k5,
    m__law_alphabet := PySem.W.mg_of X G a5,
    b__law_alphabet := (fun_mk (st := s__law_alphabet) l5 c5 k5).binds (ps := ["draws", "places", "most"]) fun _ _ _ _ _ _ us hl => match us, hl with | [_, _, _], _ => rfl,
    f_independent := f_independent, d_independent := PySem.W.fnOf "independent" "independent" (defArgs s_independent) (defBody s_independent) (defScope s_independent) .none kV6 dc6 pm6 an6 cd6 ct6,
    F_independent := fun_mk l6 c6 k6,
    m_independent := PySem.W.mg_of X G a6,
    b_independent := (fun_mk (st := s_independent) l6 c6 k6).binds (ps := ["alphabet", "first", "second"]) fun _ _ _ _ _ _ us hl => match us, hl with | [_, _, _], _ => rfl,
    f__reached := f__reached, d__reached := PySem.W.fnOf "_reached" "_reached" (defArgs s__reached) (defBody s__reached) (defScope s__reached) .none kV7 dc7 pm7 an7 cd7 ct7,
    F__reached := fun_mk l7 c7 k7,
    m__reached := PySem.W.mg_of X G a7,
    b__reached := (fun_mk (st := s__reached) l7 c7 k7).binds (ps := ["alphabet", "letters"]) fun _ _ _ _ _ _ us hl => match us, hl with | [_, _], _ => rfl,
    f_components := f_components, d_components := PySem.W.fnOf "components" "components" (defArgs s_components) (defBody s_components) (defScope s_components) .none kV8 dc8 pm8 an8 cd8 ct8,
    F_components := fun_mk l8 c8 k8,
    m_components := PySem.W.mg_of X G a8,
    b_components := (fun_mk (st := s_components) l8 c8 k8).binds (ps := ["alphabet", "letters"]) fun _ _ _ _ _ _ us hl => match us, hl with | [_, _], _ => rfl,
    f__law_outcome := f__law_outcome, d__law_outcome := PySem.W.fnOf "_law_outcome" "_law_outcome" (defArgs s__law_outcome) (defBody s__law_outcome) (defScope s__law_outcome) .none kV9 dc9 pm9 an9 cd9 ct9,
    F__law_outcome := fun_mk l9 c9 k9,
    m__law_outcome := PySem.W.mg_of X G a9,
    b__law_outcome := (fun_mk (st := s__law_outcome) l9 c9 k9).binds (ps := ["count", "letters"]) fun _ _ _ _ _ _ us hl => match us, hl with | [_, _], _ => rfl,
    f__law_pieces := f__law_pieces, d__law_pieces := PySem.W.fnOf "_law_pieces" "_law_pieces" (defArgs s__law_pieces) (defBody s__law_pieces) (defScope s__law_pieces) .none kV10 dc10 pm10 an10 cd10 ct10,
    F__law_pieces := fun_mk l10 c10 k10,
    m__law_pieces := PySem.W.mg_of X G a10,
    b__law_pieces := (fun_mk (st := s__law_pieces) l10 c10 k10).binds (ps := ["letters", "chosen"]) fun _ _ _ _ _ _ us hl => match us, hl with | [_, _], _ => rfl,
    f_law := fa, d_law := PySem.W.fnOf "law" "law" (defArgs s_law) (defBody s_law) (defScope s_law) .none kV11 dc11 pm11 an11 cd11 ct11,
    F_law := fun_mk l11 c11 k11,
    m_law := PySem.W.mg_of X G a11,
    b_law := (fun_mk (st := s_law) l11 c11 k11).binds (ps := ["script"]) fun _ _ _ _ _ _ us hl => match us, hl with | [_], _ => rfl,
    c_Alphabet := c_Alphabet, mc_Alphabet := PySem.W.mg_of X G aC_Alphabet, mk_Alphabet := mk_Alphabet, in_Alphabet := a3, if_Alphabet := i3, kc_Alphabet := kc_Alphabet, cl_Alphabet := ⟨pg_Alphabet, hd_Alphabet, po_Alphabet, sa_Alphabet⟩,
    na_Alphabet_places := na_Alphabet_places,
    na_Alphabet_letters := na_Alphabet_letters,
    c_PlaceError := c_PlaceError, mc_PlaceError := PySem.W.mg_of X G aC_PlaceError,
    ec_InvalidAlphabet := ⟨ehg_InvalidAlphabet, ehk_InvalidAlphabet, ehs_InvalidAlphabet, ehd_InvalidAlphabet, eha_InvalidAlphabet, ehn_InvalidAlphabet, eht_InvalidAlphabet, ehm_InvalidAlphabet⟩, iv_InvalidAlphabet := kit_ty (by decide +kernel) jv_InvalidAlphabet,
    ik_InvalidAlphabet_PlaceError := kit_ref jc_InvalidAlphabet_PlaceError jt_InvalidAlphabet_PlaceError jk_InvalidAlphabet_PlaceError,
    om_Alphabet := om_Alphabet, oe_Alphabet := oe_Alphabet,
    c_InvalidAlphabet := c_InvalidAlphabet, mc_InvalidAlphabet := PySem.W.mg_of X G aC_InvalidAlphabet, x_InvalidAlphabet := x_InvalidAlphabet, k_InvalidAlphabet := k_InvalidAlphabet, b_InvalidAlphabet := b_InvalidAlphabet, t_InvalidAlphabet := t_InvalidAlphabet, e_InvalidAlphabet := exm_self b_InvalidAlphabet i_InvalidAlphabet t_InvalidAlphabet s_InvalidAlphabet,
    z_ValueError := PySem.W.mg_none_of X G z_ValueError,
    z_bool := PySem.W.mg_none_of X G z_bool,
    z_int := PySem.W.mg_none_of X G z_int,
    z_isinstance := PySem.W.mg_none_of X G z_isinstance,
    z_len := PySem.W.mg_none_of X G z_len,
    z_list := PySem.W.mg_none_of X G z_list,
    z_range := PySem.W.mg_none_of X G z_range,
    z_set := PySem.W.mg_none_of X G z_set,
    z_sorted := PySem.W.mg_none_of X G z_sorted,
    z_tuple := PySem.W.mg_none_of X G z_tuple,
    t_MOST_LETTERS := t_MOST_LETTERS, v_MOST_LETTERS := PySem.W.mg_of X G v_MOST_LETTERS,
    t_MOST_PLACES := t_MOST_PLACES, v_MOST_PLACES := PySem.W.mg_of X G v_MOST_PLACES }
  exact ⟨_, fun s v => .of_eq rfl, fun base _ _ => ok_law T⟩
theorem walk {l : PySem.W.OpenLaw} {q : Program} {loose : List Str} {XP : (Str → Option Value) → Heap → Prop} {YP : World → Heap → Prop} {d : DefRec} {K : Params → PySem.W.Frag} (hn : l.most = some 63) (hdf : d.params.defaults = [])
    (hY : ∀ (w : World) (h : Heap), YP w h → (K w.params).In h)
    (F : ∀ (w : World) (mg : Str → Option Value) (fa : Addr) (h : Heap), (K w.params).In h → h.Ns mainGlobals mg → mg d.name = some (.ref fa) →
      ∃ fd : FuncData, (∀ (s : Shared) (u : Value), BindsTo s fd ⟨[u], []⟩ [("script", u)]) ∧ ∀ base : Heap, (K w.params).In base → base.Ns mainGlobals mg → FnOk l.prog w (K w.params) mg base CX0 5 fa fd ["script"] (spLaw (K w.params))) :
    PySem.W.WalkO q loose XP YP l.row.toRowW d [] (fun f vs => PySem.call f vs) :=
  L2.walk_of (n := 63) (k := 5) (x := "script") (CX := fun _ => CX0) (sp := fun w => spLaw (K w.params)) hn (by decide) hdf ⟨rfl, by decide, by decide⟩ hY F (fun _ _ a ns hl _ hS => ⟨a, ns, rfl, hS, hl, fun _ => rfl⟩) fun _ _ _ _ _ z => z
end My
open PySem PySem.W PyProof.Rows in
set_option maxRecDepth 100000 in
set_option maxHeartbeats 0 in
theorem PySem.Challenge.cw_placewords_k01_alphabets_holds : PySem.Challenge.rw_placewords_k01_alphabets.Holds := by
  w_on; o_law; k_head; (case hw => w_witness2)
  k_fill
  refine My.walk (l := PySem.Challenge.rw_placewords_k01_alphabets) rfl rfl (fun w h Y => PySem.W.kIn_of Y) ?F
  case F =>
    intro w mg fa h KX G hmg
    refine' My.all_mk KX G hmg ?aC_Alphabet ?a0 ?l0 ?c0 ?k0 ?a1 ?l1 ?c1 ?k1 ?a2 ?l2 ?c2 ?k2 ?a3 ?i3 ?l3 ?c3 ?k3 ?a4 ?l4 ?c4 ?k4 ?a5 ?l5 ?c5 ?k5 ?a6 ?l6 ?c6 ?k6 ?a7 ?l7 ?c7 ?k7 ?a8 ?l8 ?c8 ?k8 ?a9 ?l9 ?c9 ?k9 ?a10 ?l10 ?c10 ?k10 ?a11 ?l11 ?c11 ?k11 ?pg_Alphabet ?hd_Alphabet ?po_Alphabet ?sa_Alphabet ?mk_Alphabet ?kc_Alphabet ?na_Alphabet_places ?na_Alphabet_letters ?aC_InvalidAlphabet ?x_InvalidAlphabet ?k_InvalidAlphabet ?b_InvalidAlphabet ?t_InvalidAlphabet ?i_InvalidAlphabet ?s_InvalidAlphabet ?aC_PlaceError ?ehg_InvalidAlphabet ?ehk_InvalidAlphabet ?ehs_InvalidAlphabet ?ehd_InvalidAlphabet ?eha_InvalidAlphabet ?ehn_InvalidAlphabet ?eht_InvalidAlphabet ?ehm_InvalidAlphabet ?jv_InvalidAlphabet ?jk_InvalidAlphabet_PlaceError ?jc_InvalidAlphabet_PlaceError ?jt_InvalidAlphabet_PlaceError ?om_Alphabet ?oe_Alphabet ?z_ValueError ?z_bool ?z_int ?z_isinstance ?z_len ?z_list ?z_range ?z_set ?z_sorted ?z_tuple ?v_MOST_LETTERS ?v_MOST_PLACES
    (case aC_Alphabet => k_is)
    (case a0 => k_is)
    (case l0 => k_is)
    (case c0 => k_is)
    (case k0 => k_is)
    (case a1 => k_is)
    (case l1 => k_is)
    (case c1 => k_is)
    (case k1 => k_is)
    (case a2 => k_is)
    (case l2 => k_is)
    (case c2 => k_is)
    (case k2 => k_is)
    (case a3 => k_is)
    (case i3 => k_is)
    (case l3 => k_is)
    (case c3 => k_is)
    (case k3 => k_is)
    (case a4 => k_is)
    (case l4 => k_is)
    (case c4 => k_is)
    (case k4 => k_is)
    (case a5 => k_is)
    (case l5 => k_is)
    (case c5 => k_is)
    (case k5 => k_is)
    (case a6 => k_is)
    (case l6 => k_is)
    (case c6 => k_is)
    (case k6 => k_is)
    (case a7 => k_is)
    (case l7 => k_is)
    (case c7 => k_is)
    (case k7 => k_is)
    (case a8 => k_is)
    (case l8 => k_is)
    (case c8 => k_is)
    (case k8 => k_is)
    (case a9 => k_is)
    (case l9 => k_is)
    (case c9 => k_is)
    (case k9 => k_is)
    (case a10 => k_is)
    (case l10 => k_is)
    (case c10 => k_is)
    (case k10 => k_is)
    (case a11 => k_is)
    (case l11 => k_is)
    (case c11 => k_is)
    (case k11 => k_is)
    (case pg_Alphabet => k_is)
    (case hd_Alphabet => k_is)
    (case po_Alphabet => k_is)
    (case sa_Alphabet => k_is)
    (case mk_Alphabet => k_is)
    (case kc_Alphabet => k_is)
    (case na_Alphabet_places => k_is)
    (case na_Alphabet_letters => k_is)
    (case aC_InvalidAlphabet => k_is)
    (case x_InvalidAlphabet => k_exc)
    (case k_InvalidAlphabet => k_is)
    (case b_InvalidAlphabet => k_is)
    (case t_InvalidAlphabet => k_is)
    (case i_InvalidAlphabet => k_is)
    (case s_InvalidAlphabet => first | rfl | k_is)
    (case aC_PlaceError => k_is)
    (case ehg_InvalidAlphabet => k_is)
    (case ehk_InvalidAlphabet => k_is)
    (case ehs_InvalidAlphabet => k_is)
    (case ehd_InvalidAlphabet => k_is)
    (case eha_InvalidAlphabet => k_is)
    (case ehn_InvalidAlphabet => k_is)
    (case eht_InvalidAlphabet => k_is)
    (case ehm_InvalidAlphabet => k_is)
    (case jv_InvalidAlphabet => k_is)
    (case jk_InvalidAlphabet_PlaceError => k_is)
    (case jc_InvalidAlphabet_PlaceError => k_is)
    (case jt_InvalidAlphabet_PlaceError => k_is)
    (case om_Alphabet => k_is)
    (case oe_Alphabet => k_is)
    (case z_ValueError => k_is)
    (case z_bool => k_is)
    (case z_int => k_is)
    (case z_isinstance => k_is)
    (case z_len => k_is)
    (case z_list => k_is)
    (case z_range => k_is)
    (case z_set => k_is)
    (case z_sorted => k_is)
    (case z_tuple => k_is)
    (case v_MOST_LETTERS => k_is)
    (case v_MOST_PLACES => k_is)

