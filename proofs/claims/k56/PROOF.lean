import PyProof.Rows.All
import Wide.All
import OpenK.AllK
import Wide.FinOn
import HandS.ForMost
import HandS.ForExc
import HandS.Evl
import HandS.Zip
import HandS.TupAny
import HandS.SetFor
import HandS.Conv
import HandS.IsInst
import HandS.SortInts
import HandS.Strs
import HandS.RevRange
import PyProof.FString3
import PyProof.Rows.StrIntSpec
import HandS.Rev
import KE.GoesEnum
import PyProof.SeqIndex
import HandS.Deep
import KE.KDictDisplayH
import KE.SortData
import HandS.Style
import HandS.Walk
import KE.DataMinMax
import HandS.Star
import HandS.DictComp
import HandS.TupMul
import KE.KUnpack
import HandS.TryOnly
import HandS.Gcd
import HandS.SortKw
import HandS.DictTup
import KE.KDictList
import KE.KDictWalk
import KE.GoesZip
import KE.GoesMore
import KE.KDictKeyed
import KE.KeyNested
import HandS.WordsDict
import HandS.ExcIs
import HandS.More
import HandS.Nested
import HandS.EndTab
import KE.KNestM
import KE.KDictZip
import HandS.Iter
import HandS.Comp
import PySem.Challenge.RW_placewords_k56_whole_widths
set_option Elab.async false
set_option linter.all false
set_option maxRecDepth 100000
namespace Hq
open PySem L2
abbrev Ex := Evl.Ex
structure MP where
  p : Hp → V → Prop
  mono : ∀ {F F' : Hp} {v : V}, Ex F F' → p F v → p F' v
structure MO where
  p : Hp → HO → Prop
  mono : ∀ {F F' : Hp} {o : HO}, Ex F F' → p F o → p F' o
  nt : ∀ {F : Hp} {o : HO}, p F o → ∀ xs, o ≠ .tup xs
abbrev Ms := List (Addr × MO)
abbrev Gm := List (Option MP)
def keys (M : Ms) : List Addr := M.map (·.1)
structure Wd (F : Hp) (M : Ms) (H : Hp) : Prop where
  ex : Ex F H
  nd : (keys M).Nodup
  own : ∀ q ∈ M, F q.1 = none ∧ ∃ o, H q.1 = some o ∧ q.2.p F o
structure Gr (ks : List Addr) (F H F' H' : Hp) : Prop where
  ex : Ex F F'
  keep : ∀ a o, a ∉ ks → H a = some o → H' a = some o
  off : ∀ a, F a = none → H a ≠ none → (∀ xs, H a ≠ some (.tup xs)) → F' a = none
  stay : ∀ a, H a ≠ none → H' a ≠ none
  nott : ∀ a, H a ≠ none → (∀ xs, H a ≠ some (.tup xs)) → ∀ xs, H' a ≠ some (.tup xs)
structure Ent where
  F : Hp
  H : Hp
  ks : List Addr
structure Pt (E : Ent) (F : Hp) (M : Ms) (H : Hp) : Prop where
  gr : Gr E.ks E.F E.H F H
  wd : Wd F M H
  fr : ∀ q ∈ M, q.1 ∈ E.ks ∨ E.H q.1 = none
theorem Gr.refl {ks F H} : Gr ks F H F H := ⟨Evl.Ex.refl _, fun _ _ _ h => h, fun _ h _ _ => h, fun _ h => h, fun _ _ h => h⟩
theorem Pt.start {F M H} (w : Wd F M H) : Pt ⟨F, H, keys M⟩ F M H := ⟨Gr.refl, w, fun q hq => .inl (List.mem_map_of_mem hq)⟩
theorem Pt.enter {E F M H} (h : Pt E F M H) : Pt ⟨F, H, keys M⟩ F M H := Pt.start h.wd
theorem Pt.back {E F M H F' M' H'} (h : Pt E F M H) (g : Pt ⟨F, H, keys M⟩ F' M' H') : Pt E F' M' H' := by
  have notin : ∀ a o, a ∉ E.ks → E.H a = some o → a ∉ keys M := by
    intro a o h1 h2 h3
    obtain ⟨q, hq, rfl⟩ := List.mem_map.mp h3
    rcases h.fr q hq with h4 | h4
    · exact h1 h4
    · rw [h4] at h2; cases h2
  refine ⟨⟨h.gr.ex.trans g.gr.ex, fun a o h1 h2 => ?_, fun a h1 h2 h3 => ?_, fun a h1 => ?_, fun a h1 h2 => ?_⟩, g.wd, fun q hq => ?_⟩
  · exact g.gr.keep a o (notin a o h1 h2) (h.gr.keep a o h1 h2)
  · exact g.gr.off a (h.gr.off a h1 h2 h3) (h.gr.stay a h2) (h.gr.nott a h2 h3)
  · exact g.gr.stay a (h.gr.stay a h1)
  · exact g.gr.nott a (h.gr.stay a h1) (h.gr.nott a h1 h2)
  · rcases g.fr q hq with h1 | h1
    · obtain ⟨r, hr, e⟩ := List.mem_map.mp h1
      rw [← e]
      exact h.fr r hr
    · right
      refine Classical.byContradiction fun h2 => ?_
      exact h.gr.stay _ h2 h1
structure Le (E' E : Ent) : Prop where
  to : ∀ F M H, Pt E' F M H → Pt E F M H
  new : ∀ a, E'.H a = none → E.H a = none
theorem Pt.le {E F M H} (h : Pt E F M H) : Le ⟨F, H, keys M⟩ E := ⟨fun _ _ _ g => h.back g, fun a e => Classical.byContradiction fun n => h.gr.stay a n e⟩
theorem Le.refl {E : Ent} : Le E E := ⟨fun _ _ _ h => h, fun _ h => h⟩
theorem Le.trans {E1 E2 E3 : Ent} (a : Le E1 E2) (b : Le E2 E3) : Le E1 E3 := ⟨fun _ _ _ h => b.to _ _ _ (a.to _ _ _ h), fun x h => b.new x (a.new x h)⟩
def EnvOk (F : Hp) (σ : St) (Γ : Gm) : Prop := Paired (fun (s : Option V) (g : Option MP) => ∀ P, g = some P → ∃ v, s = some v ∧ P.p F v) σ Γ
theorem EnvOk.mono {F F' σ Γ} (e : Ex F F') (h : EnvOk F σ Γ) : EnvOk F' σ Γ :=
  Paired.mapP h fun _ _ k P hP => let ⟨v, a, b⟩ := k P hP; ⟨v, a, P.mono e b⟩
theorem paired_get {α β : Type} {R : α → β → Prop} : ∀ {xs : List α} {ys : List β} {i : Nat} {y : β}, Paired R xs ys → ys[i]? = some y → ∃ x, xs[i]? = some x ∧ R x y
  | _, _, _, _, .nil, h => by simp at h
  | _, _, 0, _, .cons a _, h => by
    have e := Option.some.inj h
    subst e
    exact ⟨_, rfl, a⟩
  | _, _, i + 1, y, .cons _ t, h => paired_get (i := i) t h
theorem paired_get' {α β : Type} {R : α → β → Prop} : ∀ {xs : List α} {ys : List β} {i : Nat} {x : α}, Paired R xs ys → xs[i]? = some x → ∃ y, ys[i]? = some y ∧ R x y
  | _, _, _, _, .nil, h => by simp at h
  | _, _, 0, _, .cons a _, h => by
    have e := Option.some.inj h
    subst e
    exact ⟨_, rfl, a⟩
  | _, _, i + 1, y, .cons _ t, h => paired_get' (i := i) t h
theorem paired_set {α β : Type} {R : α → β → Prop} {x : α} {y : β} (r : R x y) : ∀ {xs : List α} {ys : List β} (i : Nat), Paired R xs ys → Paired R (xs.set i x) (ys.set i y)
  | _, _, _, .nil => .nil
  | _, _, 0, .cons _ t => .cons r t
  | _, _, i + 1, .cons a t => .cons a (paired_set r i t)
theorem paired_len {α β : Type} {R : α → β → Prop} : ∀ {xs : List α} {ys : List β}, Paired R xs ys → xs.length = ys.length
  | _, _, .nil => rfl
  | _, _, .cons _ t => by rw [List.length_cons, List.length_cons, paired_len t]
theorem paired_app {α β : Type} {R : α → β → Prop} : ∀ {xs xs' : List α} {ys ys' : List β}, Paired R xs ys → Paired R xs' ys' → Paired R (xs ++ xs') (ys ++ ys')
  | _, _, _, _, .nil, h => h
  | _, _, _, _, .cons a t, h => .cons a (paired_app t h)
theorem EnvOk.set {F σ} {Γ : Gm} {P : MP} {v : V} (i : Nat) (h : EnvOk F σ Γ) (hv : P.p F v) : EnvOk F (σ.set i (some v)) (Γ.set i (some P)) :=
  paired_set (fun Q hQ => by cases hQ; exact ⟨v, rfl, hv⟩) i h
theorem EnvOk.forget {F σ} {Γ : Gm} (i : Nat) (h : EnvOk F σ Γ) : EnvOk F (σ.set i none) (Γ.set i none) := paired_set (fun Q hQ => by cases hQ) i h
theorem EnvOk.get {F σ} {Γ : Gm} {i : Nat} {P : MP} (h : EnvOk F σ Γ) (e : Γ[i]? = some (some P)) : ∃ v, σ[i]? = some (some v) ∧ P.p F v := by
  obtain ⟨s, hs, k⟩ := paired_get h e
  obtain ⟨v, rfl, hv⟩ := k P rfl
  exact ⟨v, hs, hv⟩
def At (E : Ent) (Γ : Gm) (M : Ms) (σ : St) (H : Hp) : Prop := ∃ F, Pt E F M H ∧ EnvOk F σ Γ
def Nx (E : Ent) (Γ : Gm) (M : Ms) (f : St → Hp → Prop) : Prop := ∀ σ H, At E Γ M σ H → f σ H
def Rt (E : Ent) (M : Ms) (P : MP) (f : VK) : Prop := ∀ v F H, Pt E F M H → P.p F v → f v H
theorem At.le {E E' Γ M σ H} (l : Le E' E) (h : At E' Γ M σ H) : At E Γ M σ H := let ⟨F, a, b⟩ := h; ⟨F, l.to _ _ _ a, b⟩
theorem Nx.le {E E' Γ M f} (l : Le E' E) (h : Nx E Γ M f) : Nx E' Γ M f := fun σ H a => h σ H (a.le l)
theorem Rt.le {E E' M P f} (l : Le E' E) (h : Rt E M P f) : Rt E' M P f := fun v F H a b => h v F H (l.to _ _ _ a) b
def Ev (te : TE) (Γ : Gm) (M : Ms) (P : MP) (M' : Ms) : Prop := ∀ E F σ H, Pt E F M H → EnvOk F σ Γ → ∀ Q : VK, (∀ v F' H', Ex F F' → Pt E F' M' H' → P.p F' v → Q v H') → te σ H Q
def EvT (t : TT) (Γ : Gm) (M : Ms) (B : Bool → Prop) (M' : Ms) : Prop := ∀ E F σ H, Pt E F M H → EnvOk F σ Γ → ∀ Q : Bool → Hp → Prop, (∀ b F' H', Ex F F' → Pt E F' M' H' → B b → Q b H') → t σ H Q
/-- arguments: their predicates -/
def Ps (F : Hp) (vs : List V) (ps : List MP) : Prop := Paired (fun (v : V) (P : MP) => P.p F v) vs ps
theorem Ps.mono {F F' vs ps} (e : Ex F F') (h : Ps F vs ps) : Ps F' vs ps := Paired.mapP h fun _ P k => P.mono e k
def EvA (ta : TA) (Γ : Gm) (M : Ms) (ps : List MP) (M' : Ms) : Prop := ∀ E F σ H, Pt E F M H → EnvOk F σ Γ → ∀ Q : List V → Hp → Prop, (∀ vs F' H', Ex F F' → Pt E F' M' H' → Ps F' vs ps → Q vs H') → ta σ H Q
def MP.le (P P' : MP) : Prop := ∀ F v, P.p F v → P'.p F v
theorem Ev.weak {te Γ M P P' M'} (h : Ev te Γ M P M') (l : P.le P') : Ev te Γ M P' M' := fun E F σ H a b Q k => h E F σ H a b Q fun v F' H' e p q => k v F' H' e p (l _ _ q)
theorem EvT.is {t Γ M M'} {b b' : Bool} (h : EvT t Γ M (· = b) M') (e : b = b') : EvT t Γ M (· = b') M' := by rw [← e]; exact h
/-! ### data -/
mutual
theorem Dp.mono {K : PySem.W.Frag} {F F' : Hp} (e : Ex F F') : ∀ {v d}, Dp K F v d → Dp K F' v d
  | _, _, .non => .non
  | _, _, .bl b => .bl b
  | _, _, .int i => .int i
  | _, _, .str x => .str x
  | _, _, .lst h a => .lst (Evl.ex_l e h) (DpAll.mono e a)
  | _, _, .tup h a => .tup (Evl.ex_t e h) (DpAll.mono e a)
theorem DpAll.mono {K : PySem.W.Frag} {F F' : Hp} (e : Ex F F') : ∀ {vs ds}, DpAll K F vs ds → DpAll K F' vs ds
  | _, _, .nil => .nil
  | _, _, .cons a t => .cons (Dp.mono e a) (DpAll.mono e t)
end
def D (K : PySem.W.Frag) (d : PyData) : MP := ⟨fun F v => Dp K F v d, fun e h => Dp.mono e h⟩
theorem dp_int {K F v i} (h : Dp K F v (.int i)) : v = .int i := by cases h; rfl
theorem dp_bl {K F v b} (h : Dp K F v (.bool b)) : v = .bl b := by cases h; rfl
theorem dp_non {K F v} (h : Dp K F v .none) : v = .non := by cases h; rfl
theorem dp_lst {K F v ds} (h : Dp K F v (.list ds)) : ∃ a xs, v = .ref a ∧ SqL K F a xs ∧ DpAll K F xs ds := by cases h with | lst a b => exact ⟨_, _, rfl, a, b⟩
theorem dp_tup {K F v ds} (h : Dp K F v (.tuple ds)) : ∃ a xs, v = .ref a ∧ SqT K F a xs ∧ DpAll K F xs ds := by cases h with | tup a b => exact ⟨_, _, rfl, a, b⟩
theorem all_ps {K F} : ∀ {vs ds}, DpAll K F vs ds → Ps F vs (ds.map (D K))
  | _, _, .nil => .nil
  | _, _, .cons a t => .cons a (all_ps t)
theorem ps_all {K F} : ∀ {ds : List PyData} {vs}, Ps F vs (ds.map (D K)) → DpAll K F vs ds
  | [], _, h => by cases h; exact .nil
  | d :: ds, _, h => by cases h with | cons a t => exact .cons a (ps_all t)
/-- a list, a tuple that stands, of predicates -/
def PLi (K : PySem.W.Frag) (ps : List MP) : MP := ⟨fun F v => ∃ a vs, v = .ref a ∧ SqL K F a vs ∧ Ps F vs ps, fun e ⟨a, vs, h, s, q⟩ => ⟨a, vs, h, Evl.ex_l e s, q.mono e⟩⟩
def PTu (K : PySem.W.Frag) (ps : List MP) : MP := ⟨fun F v => ∃ a vs, v = .ref a ∧ SqT K F a vs ∧ Ps F vs ps, fun e ⟨a, vs, h, s, q⟩ => ⟨a, vs, h, Evl.ex_t e s, q.mono e⟩⟩
theorem D_PLi {K ds} : MP.le (D K (.list ds)) (PLi K (ds.map (D K))) := fun F v h => let ⟨a, xs, e, s, q⟩ := dp_lst h; ⟨a, xs, e, s, all_ps q⟩
theorem D_PTu {K ds} : MP.le (D K (.tuple ds)) (PTu K (ds.map (D K))) := fun F v h => let ⟨a, xs, e, s, q⟩ := dp_tup h; ⟨a, xs, e, s, all_ps q⟩
theorem PLi_D {K ds} : MP.le (PLi K (ds.map (D K))) (D K (.list ds)) := fun F v ⟨a, xs, e, s, q⟩ => by subst e; exact .lst s (ps_all q)
theorem PTu_D {K ds} : MP.le (PTu K (ds.map (D K))) (D K (.tuple ds)) := fun F v ⟨a, xs, e, s, q⟩ => by subst e; exact .tup s (ps_all q)
/-- some -/
def PEx {α : Type} (P : α → MP) : MP := ⟨fun F v => ∃ x, (P x).p F v, fun e ⟨x, h⟩ => ⟨x, (P x).mono e h⟩⟩
/-- with a fact -/
def PAn (φ : Prop) (P : MP) : MP := ⟨fun F v => φ ∧ P.p F v, fun e h => ⟨h.1, P.mono e h.2⟩⟩
def Own (q : Addr) : MP := ⟨fun _ v => v = .ref q, fun _ h => h⟩
/-- an own list of items -/
def ML (ps : List MP) : MO := ⟨fun F o => ∃ vs, o = .lst vs ∧ Ps F vs ps, fun e ⟨vs, h, q⟩ => ⟨vs, h, q.mono e⟩, fun ⟨vs, h, _⟩ xs z => by rw [h] at z; cases z⟩
def MX {α : Type} (P : α → MO) : MO := ⟨fun F v => ∃ x, (P x).p F v, fun e ⟨x, h⟩ => ⟨x, (P x).mono e h⟩, fun ⟨x, h⟩ => (P x).nt h⟩
def MA (φ : Prop) (P : MO) : MO := ⟨fun F v => φ ∧ P.p F v, fun e h => ⟨h.1, P.mono e h.2⟩, fun h => P.nt h.2⟩
end Hq
/-! HqSa: the text of a number's bits. -/
namespace Hq
open PySem PyProof.Rows
open PySem.Builtin PySem.Builtin.Float
/-- the digits of n in twos -/
def binL (n : Nat) : List Nat := (Nat.toDigits 2 n).map fun c => c.toNat
def binS (n : Nat) : Str := ⟨(binL n).toArray⟩
/-- the letter b -/
def spB : Str := ⟨#[98]⟩
def fsB : FormatSpec := { fill := 32, align := 62, type := some 98 }
theorem parseB (name : String) : parseFormatSpec spB.cps.toList name 62 = .ok fsB := by kernel_rfl
theorem fldB_eq (ds : List Nat) (h : ds ≠ []) : intField' fsB false [] ds [] 4 = ⟨ds.toArray⟩ := by
  have e : ds.isEmpty = false := by cases ds with | nil => exact absurd rfl h | cons => rfl
  have l : 1 ≤ ds.length := List.length_pos_iff.mpr h
  unfold intField'
  have p : ((-1 : Int) - ((([] : List Nat).length : Int) + ([] : List Nat).length + ([] : List Nat).length) - ((List.replicate (0 - ds.length) 48 ++ ds).length : Int)).toNat = 0 := by simp
  simp [fsB, e]
set_option maxHeartbeats 2000000 in
theorem gives_fmtB (n : Nat) (t u : Tok) : Gives («int.__format__» ⟨[.int (n : Int) t, .str spB u], []⟩) (.str (binS n)) := by
  have hn0 : binL n ≠ [] := by
    have := tDigits_len_ge 2 n
    intro e
    have : (binL n).length = 0 := by rw [e]; rfl
    unfold binL at this
    rw [List.length_map] at this
    omega
  refine fun prog w A R s h => ?_
  unfold «int.__format__»
  simp only [selfAndOne, noKeywords, Int.intOfSelf, asInt?, asStr?, List.isEmpty_nil, if_true, pure_bind, bind_pure, bind_assoc, show (spB.length == 0) = false from rfl, Bool.false_eq_true, if_false,
    show (Value.str spB u == Value.none) = false from rfl]
  refine wpAny_bind (wpAny_typeNameOf (T := "str") (typeIs_str _ _ _) (by decide) fun _ => ?_)
  rw [if_neg (by decide)]
  refine wpAny_bind (wpAny_typeNameOfCut_int ?_)
  rw [parseB]
  show wpAny _ _ (if _ then _ else _) _ _ _
  rw [if_pos (by decide)]
  have e98 : ∀ d : Nat, fsB.type.getD d = 98 := fun _ => rfl
  rw [e98]
  show wpAny _ _ (retStr (intField' fsB (decide ((n : Int) < 0)) [] (binL n) [] 4)) _ _ _
  rw [show decide ((n : Int) < 0) = false from by simp, fldB_eq _ hn0]
  exact Gives.tree (.str (binS n)) prog w A R s h
end Hq
set_option maxHeartbeats 1000000
/-! HqSb: enumerate(reversed(text)). -/
namespace Hq
open PySem PySem.Spec PyProof.Rows L2 RT
/-- reversed(text), the next place i -/
def IsRs (h : Heap) (a : Addr) (x : Str) (t : Tok) (i : Int) : Prop := ∃ o, h.get? a = some o ∧ o.cls = .type "reversed" ∧ o.data = .fields #[.str x t, rawInt i]
theorem IsRs.at {h h' : Heap} {a : Addr} {x : Str} {t : Tok} {i : Int} (k : IsRs h a x t i) (e : ∀ o, h.get? a = some o → h'.get? a = some o) : IsRs h' a x t i := let ⟨o, ho, r⟩ := k; ⟨o, e _ ho, r⟩
theorem norev_str : typeLookup (.type "str") "__reversed__" = pure none := by rw [typeLookup_type, builtinLookup_eq_fast]; kernel_rfl
theorem get_str : typeLookup (.type "str") "__getitem__" = pure (some (.builtin "str.__getitem__")) := by rw [typeLookup_type, builtinLookup_eq_fast]; kernel_rfl
section
variable {prog : Program} {w : World} {A : Around} {E : Value → Shared → Prop} {s : Shared} {x : Str} {t : Tok} {it e : Addr}
theorem IsRs.ty {i : Int} (k : IsRs s.heap it x t i) : s.TypeIs (.ref it) "reversed" := let ⟨o, ho, hc, _⟩ := k; ⟨o, ho, hc⟩
theorem code_rs {B : Value → Shared → Prop} (hx : ¬ (x.length : Int) ≥ 2 ^ 63) (h : B (.ref s.heap.objs.size) { s with heap := s.heap.push { cls := .type "reversed", data := .fields #[.str x t, rawInt ((x.length : Int) - 1)] }, toks := s.toks + 1 + 1 }) :
    codeAny (model prog w) A (.call (.builtin "reversed.__new__") ⟨[.type "reversed", .str x t], []⟩) (wants B E) s := by
  have hT : s.TypeIs (.str x t) "str" := typeIs_str s x t
  refine codeAny_of_tree (show wpAny _ A.in1 (do checkBuiltinCall "reversed.__new__" ⟨[.type "reversed", .str x t], []⟩; again (.builtin "reversed.__new__" ⟨[.type "reversed", .str x t], []⟩)) _ _ s from ?_)
  refine wpAny_bind (wpAny_of_eq (F.newCall_reversed_1 _) (wpAny_pure ⟨plainId_quiet F.plain_reversed_new _, codeAny_builtin F.entry_reversed_new ?_⟩))
  rw [Around.under_plainId F.plain_reversed_new _]
  unfold Builtin.«reversed.__new__»
  refine wpAny_bind (wpAny_of_eq (newClass_reversed _) ?_)
  try dsimp only
  refine wpAny_bind (wpAny_of_eq (a := ()) (by first | rfl | kernel_rfl) ?_)
  try dsimp only
  refine wpAny_bind (wpAny_of_eq (a := ()) (by first | rfl | kernel_rfl) ?_)
  try dsimp only
  refine wpAny_bind (wpAny_specialOf hT norev_str ?_)
  try dsimp only
  refine wpAny_bind ?_
  wp_delta
  refine wpAny_bind (wpAny_isInstance (T := "str") (U := "dict") (b := false) hT (by rw [isSubtype_type]; kernel_rfl) ?_)
  try dsimp only
  try rw [if_neg Bool.false_ne_true]
  try dsimp only
  refine wpAny_bind (wpAny_specialOf hT get_str ?_)
  try dsimp only
  try rw [if_pos (by decide +kernel)]
  refine wpAny_pure ?_
  try dsimp only
  try rw [if_neg (by decide)]
  try dsimp only
  refine wpAny_bind (PyProof.Rows.len_str hx ?_)
  refine wpAny_bind (wpAny_of_eq (a := some ((x.length : Nat) : Int)) rfl ?_)
  try dsimp only
  refine wpAny_bind (show wpAny _ _ (newObj (.type "reversed") (.fields #[.str x t, rawInt ((x.length : Int) - 1)])) _ _ _ from ?_)
  exact wpAny_newObj_type (wpAny_pure h)
theorem call_rs {Q : Value → Shared → Prop} (hx : ¬ (x.length : Int) ≥ 2 ^ 63) (h : Q (.ref s.heap.objs.size) { s with heap := s.heap.push { cls := .type "reversed", data := .fields #[.str x t, rawInt ((x.length : Int) - 1)] }, toks := s.toks + 1 + 1 }) :
    wpAny (model prog w) A (call (.type "reversed") [.str x t]) Q E s :=
  callType_codes (Q₁ := fun o s1 => s1.TypeIs o "reversed" ∧ Q o s1) called_rt (F.typeCall_reversed_1 _) F.entry_object_init (code_rs (A := A.in1) hx ⟨⟨_, Heap.get?_push_size _ rfl, rfl⟩, h⟩)
    fun o s1 k => ⟨k.1, F.args_object_init_2 o _, object_init_meets called_rt.init.lookup called_rt.made (by decide) prog w A.in1 _ s1 ⟨k.1, rfl, k.2⟩⟩
theorem nextOf_rs_item {i c : Nat} {Q : Value → Shared → Prop} (hit : IsRs s.heap it x t (i : Int)) (hc : x.cps[i]? = some c) (hsz : (x.length : Int) < 2 ^ 62)
    (hQ : ∀ h', IsRs h' it x t ((i : Int) - 1) → Heap.SameBut it s.heap h' → Q (.str ⟨#[c]⟩ (s.toks + 1)) { s with heap := h', toks := s.toks + 1 + 1 }) : wpAny (model prog w) A (Builtin.SmallTypes.nextOf (.ref it)) Q E s := by
  obtain ⟨o, ho, hcl, hd⟩ := id hit
  have hi : i < x.length := (Array.getElem?_eq_some_iff.mp hc).1
  have hT : s.TypeIs (.str x t) "str" := typeIs_str s x t
  unfold Builtin.SmallTypes.nextOf
  refine wpAny_bind (wpAny_callSpecial?_slot (name := Str.ofString "__next__") hit.ty slot_rt_next (wpAny_call_entry slot_rt_next hit.ty entry_rt_next ?_ (args_rt_next _)))
  unfold Builtin.«reversed.__next__»
  refine wpAny_bind (wpAny_of_eq (a := (Value.ref it, [])) rfl ?_)
  try dsimp only
  refine wpAny_bind (wpAny_field ho hd (x := .str x t) rfl ?_)
  try dsimp only
  refine wpAny_bind (wpAny_field ho hd (x := rawInt (i : Int)) rfl (show wpAny _ _ (if (i : Int) < 0 then _ else _) _ _ s from ?_))
  rw [if_neg (by omega)]
  try dsimp only
  refine wpAny_bind (wpAny_specialOf hT get_str ?_)
  try dsimp only
  try rw [if_neg (by decide)]
  try dsimp only
  refine wpAny_bind (wpAny_mkInt ?_)
  refine wpAny_bind (wpAny_attempt (PyProof.Rows.getItem_str (s := { s with toks := s.toks + 1 }) (c := c) (by simp; omega) (by rw [seqIndex_of (k := i) (by omega) (by omega)]; exact hc) ?_))
  try dsimp only
  refine wpAny_bind (wpAny_field (s := { s with toks := s.toks + 1 + 1 }) ho hd (x := rawInt (i : Int)) rfl ?_)
  try dsimp only
  refine wpAny_bind (wpAny_setField (s := { s with toks := s.toks + 1 + 1 }) ho hd (by simp) (wpAny_pure ⟨_, rfl, wpAny_pure (hQ _ ?_ (Heap.SameBut.update ..))⟩))
  exact ⟨_, Heap.get?_update_self _ ho (Obj.isFreed_of_fields (Obj.data_mapFields hd _)), (Obj.cls_mapFields ..).trans hcl, by rw [Obj.data_mapFields hd]; simp⟩
theorem nextOf_rs_end {Q : Value → Shared → Prop} (hh : A.handled = none) (hit : IsRs s.heap it x t (-1))
    (hE : ∀ h' e, Heap.ExtBut it s.heap h' → (∃ o, h'.get? e = some o ∧ o.cls = .type "StopIteration") → E (.ref e) { s with heap := h' }) : wpAny (model prog w) A (Builtin.SmallTypes.nextOf (.ref it)) Q E s := by
  obtain ⟨o, ho, hcl, hd⟩ := id hit
  unfold Builtin.SmallTypes.nextOf
  refine wpAny_bind (wpAny_callSpecial?_slot (name := Str.ofString "__next__") hit.ty slot_rt_next (wpAny_call_entry slot_rt_next hit.ty entry_rt_next ?_ (args_rt_next _)))
  unfold Builtin.«reversed.__next__»
  refine wpAny_bind (wpAny_of_eq (a := (Value.ref it, [])) rfl ?_)
  try dsimp only
  refine wpAny_bind (wpAny_field ho hd (x := .str x t) rfl ?_)
  try dsimp only
  refine wpAny_bind (wpAny_field ho hd (x := rawInt (-1)) rfl (show wpAny _ _ (if (-1 : Int) < 0 then _ else _) _ _ s from ?_))
  rw [if_pos (by decide)]
  try dsimp only
  refine wpAny_bind (wpAny_rule (wpAny_bind ?_))
  wp_delta
  refine wpAny_bind (wpAny_setField ho hd (by simp) ?_)
  have ho2 := Heap.get?_update_self (Obj.mapFields (·.setIfInBounds 1 (rawInt (-1)))) ho (Obj.isFreed_of_fields (Obj.data_mapFields hd _))
  refine wpAny_setField (s := { s with heap := s.heap.update it (Obj.mapFields (·.setIfInBounds 1 (rawInt (-1)))) }) ho2 (Obj.data_mapFields hd _) (by simp) ?_
  try dsimp only
  first
  | show wpAny _ _ (newExc (.type "StopIteration") [] >>= _) _ _ _
  | (refine wpAny_bind ?_; show wpAny _ _ (newExc (.type "StopIteration") [] >>= _) _ _ _)
  | (refine wpAny_bind ?_; wp_delta; show wpAny _ _ (newExc (.type "StopIteration") [] >>= _) _ _ _)
  refine wpAny_bind ?_
  simp only [newExc, newTuple]
  refine wpAny_bind (wpAny_newObj_type ?_ (by size_fits))
  refine wpAny_bind (m := firstArgMember _ _) (wpAny_of_eq (a := Value.none) (by first | rfl | (simp only [firstArgMember]; rfl)) (wpAny_newObj_type ?_ (by size_fits)))
  simp only [raiseNew]
  refine wpAny_bind (wpAny_handled ?_)
  first | rw [show A.in1.handled = none from hh] | rw [hh]
  refine wpAny_bind (wpAny_pure (wpAny_throw (hE _ _ (((?_ : Heap.ExtBut it s.heap _).push _).push _) ⟨_, Heap.get?_push_size _ rfl, rfl⟩)))
  exact fun b ob hb e => (Heap.get?_update_other _ _ (Ne.symm hb)).trans ((Heap.get?_update_other _ _ (Ne.symm hb)).trans e)
theorem draws_rs (hh : A.handled = none) (it : Addr) (x : Str) (t : Tok) (hsz : (x.length : Int) < 2 ^ 62) :
    Draws prog w A it [it] x.cps.size (fun i v => ∃ c u, x.cps[x.cps.size - 1 - i]? = some c ∧ v = .str ⟨#[c]⟩ u) (fun i h => i ≤ x.cps.size ∧ IsRs h it x t ((x.cps.size : Int) - 1 - (i : Nat))) where
  live := fun i h st => let ⟨o, ho, _⟩ := st.2; ⟨o, ho⟩
  frame := fun i h h' st k => ⟨st.1, st.2.at fun o e => k it (by simp) o e⟩
  item := fun i s Q E hi st hQ => by
    have e1 : (x.cps.size : Int) - 1 - ((i : Nat) : Int) = ((x.cps.size - 1 - i : Nat) : Int) := by omega
    have hc : x.cps[x.cps.size - 1 - i]? = some x.cps[x.cps.size - 1 - i] := Array.getElem?_eq_getElem (by omega)
    refine nextOf_rs_item (e1 ▸ st.2) hc hsz fun h' k sb => hQ _ _ _ ⟨_, _, hc, rfl⟩ ⟨hi, ?_⟩ sb
    have e2 : ((x.cps.size - 1 - i : Nat) : Int) - 1 = (x.cps.size : Int) - 1 - ((i + 1 : Nat) : Int) := by omega
    exact e2 ▸ k
  done := fun s Q E st hE => by
    have e1 : (x.cps.size : Int) - 1 - ((x.cps.size : Nat) : Int) = -1 := by omega
    exact nextOf_rs_end hh (e1 ▸ st.2) hE
theorem iter_rs {i : Int} {Q : Value → Shared → Prop} (hit : IsRs s.heap it x t i) (h : Q (.ref it) s) : wpAny (model prog w) A (pyIter (.ref it)) Q E s :=
  wpAny_pyIter_slot hit.ty slot_rt_iter (wpAny_call_entry slot_rt_iter hit.ty entry_rt_iter (show wpAny _ _ (ret (.ref it)) _ _ s from wpAny_pure ⟨_, rfl, "reversed", _, hit.ty, slot_rt_next.lookup, h⟩) (args_rt_iter _))
theorem meets_enumR (it : Addr) (x : Str) (t : Tok) (i : Int) :
    Meets (Builtin.«enumerate.__new__» ⟨[.type "enumerate", .ref it], []⟩) (fun _ R s => IsRs s.heap it x t i ∧
      R (.ok (.ret (.ref s.heap.objs.size))) { s with heap := s.heap.push { cls := .type "enumerate", data := .fields #[.none, .bool false, .ref it, rawInt 0, .none, .none] } }) :=
  .of_wp fun prog w A R s h => by
    obtain ⟨hp, g, d, tk, os⟩ := s
    obtain ⟨h1, h⟩ := h
    have hsub := sub_enumerate
    have q1 : ∀ {A' : Around} {E : Value → Shared → Prop} {Q : Value → Shared → Prop}, Q (.ref it) ⟨hp, g, d, tk, os⟩ → wpAny (model prog w) A' (pyIter (.ref it)) Q E ⟨hp, g, d, tk, os⟩ := fun q => iter_rs (s := ⟨hp, g, d, tk, os⟩) h1 q
    wp_walk using q1
    refine wpAny_stack_any fun st => wpAny_pure ?_
    split
    · rename_i c _ _ _ _ _
      cases (c == Value.type "enumerate") <;> (wp_walk using q1; exact ⟨_, rfl, h⟩)
    · wp_walk using q1
      exact ⟨_, rfl, h⟩
theorem call_enumR {i : Int} {Q : Value → Shared → Prop} (hit : IsRs s.heap it x t i)
    (h : ∀ h', IsEnum h' s.heap.objs.size it 0 .none → (∀ b o, s.heap.get? b = some o → h'.get? b = some o) → Q (.ref s.heap.objs.size) { s with heap := h' }) : wpAny (model prog w) A (call (.type "enumerate") [.ref it]) Q E s := by
  refine callType_new F.called_enumerate (by decide) (F.typeCall_enumerate_1 _) (F.newCall_enumerate_1 _) (fun obj => F.args_object_init_2 obj _) F.entry_enumerate_new (meets_enumR it x t i) ⟨hit, ?_⟩
  have he : IsEnum (s.heap.push { cls := .type "enumerate", data := .fields #[.none, .bool false, .ref it, rawInt 0, .none, .none] }) s.heap.objs.size it 0 .none := Heap.get?_push_size s.heap rfl
  exact ⟨⟨_, he, rfl⟩, h _ he fun b o k => Heap.get?_push_of_some _ k⟩
end
end Hq
namespace Hq
open PySem L2
/-! ### steps of a point -/
theorem keys_set {M : Ms} {j : Nat} {q : Addr} {O O' : MO} : M[j]? = some (q, O) → keys (M.set j (q, O')) = keys M := by
  induction M generalizing j with
  | nil => intro h; simp at h
  | cons m M ih =>
    intro h
    cases j with
    | zero =>
      have e : m = (q, O) := Option.some.inj h
      subst e
      rfl
    | succ j =>
      have h' : M[j]? = some (q, O) := h
      show m.1 :: keys (M.set j (q, O')) = m.1 :: keys M
      rw [ih h']
theorem mem_set_ne {M : Ms} {j : Nat} {q : Addr} {O O' : MO} (nd : (keys M).Nodup) : M[j]? = some (q, O) → ∀ r ∈ M.set j (q, O'), r = (q, O') ∨ (r ∈ M ∧ r.1 ≠ q) := by
  induction M generalizing j with
  | nil => intro h; simp at h
  | cons m M ih =>
    intro h r hr
    have nd' := List.nodup_cons.mp (show (m.1 :: keys M).Nodup from nd)
    cases j with
    | zero =>
      have e : m = (q, O) := Option.some.inj h
      subst e
      have hr' : r ∈ (q, O') :: M := hr
      rcases List.mem_cons.mp hr' with e | hm
      · exact .inl e
      · exact .inr ⟨List.mem_cons_of_mem _ hm, fun e => nd'.1 (by rw [← e]; exact List.mem_map_of_mem (f := (·.1)) hm)⟩
    | succ j =>
      have h' : M[j]? = some (q, O) := h
      have hr' : r ∈ m :: M.set j (q, O') := hr
      have hq : q ∈ keys M := List.mem_map_of_mem (f := (·.1)) (List.mem_of_getElem? h')
      rcases List.mem_cons.mp hr' with e | hm
      · subst e
        exact .inr ⟨List.mem_cons_self, fun e => nd'.1 (by rw [e]; exact hq)⟩
      · rcases ih nd'.2 h' r hm with e | ⟨e, e2⟩
        · exact .inl e
        · exact .inr ⟨List.mem_cons_of_mem _ e, e2⟩
section
variable {K : PySem.W.Frag} {E E' : Ent} {F F' H H' : Hp} {M M' M1 M2 M3 : Ms} {Γ Γ' : Gm} {P P' P1 P2 : MP} {O O' : MO} {q : Addr} {σ : St} {o o' : HO} {j : Nat}
theorem Pt.at (h : Pt E F M H) (e : M[j]? = some (q, O)) : F q = none ∧ ∃ o, H q = some o ∧ O.p F o := h.wd.own _ (List.mem_of_getElem? e)
theorem Pt.ex (h : Pt E F M H) : Ex F H := h.wd.ex
theorem Pt.fresh (h : Pt E F M H) (hp : H q = none) : E.H q = none := Classical.byContradiction fun n => h.gr.stay _ n hp
theorem Pt.new (h : Pt E F M H) (hp : H q = none) (ho : O.p F o) : Pt E F ((q, O) :: M) (upd H q o) := by
  have ne : ∀ {a u}, H a = some u → a ≠ q := fun e => ne_of_none e hp
  refine ⟨⟨h.gr.ex, fun a u h1 h2 => ?_, h.gr.off, fun a h1 => ?_, fun a h1 h2 => ?_⟩, ⟨h.wd.ex.trans (Evl.Ex.new hp), ?_, fun r hr => ?_⟩, fun r hr => ?_⟩
  · have := h.gr.keep a u h1 h2
    rw [upd_ne (ne this)]; exact this
  · by_cases e : a = q
    · subst e; rw [upd_same]; exact fun z => by cases z
    · rw [upd_ne e]; exact h.gr.stay a h1
  · rw [upd_ne (fun e => h.gr.stay a h1 (by rw [e]; exact hp))]; exact h.gr.nott a h1 h2
  · refine List.nodup_cons.mpr ⟨fun hm => ?_, h.wd.nd⟩
    obtain ⟨r, hr, e⟩ := List.mem_map.mp hm
    obtain ⟨_, u, hu, _⟩ := h.wd.own r hr
    exact ne hu e
  · rcases List.mem_cons.mp hr with e | hm
    · subst e; exact ⟨Evl.fresh_back h.wd.ex hp, o, upd_same, ho⟩
    · obtain ⟨a, u, hu, b⟩ := h.wd.own r hm
      exact ⟨a, u, by rw [upd_ne (ne hu)]; exact hu, b⟩
  · rcases List.mem_cons.mp hr with e | hm
    · subst e; exact .inr (h.fresh hp)
    · exact h.fr r hm
theorem Pt.laid (h : Pt E F M H) (hp : H q = none) : Pt E (upd F q o) M (upd H q o) := by
  have ne : ∀ {a u}, H a = some u → a ≠ q := fun e => ne_of_none e hp
  have fq : F q = none := Evl.fresh_back h.wd.ex hp
  refine ⟨⟨h.gr.ex.trans (Evl.Ex.new fq), fun a u h1 h2 => ?_, fun a h1 h2 h3 => ?_, fun a h1 => ?_, fun a h1 h2 => ?_⟩, ⟨fun a u e => ?_, h.wd.nd, fun r hr => ?_⟩, h.fr⟩
  · have := h.gr.keep a u h1 h2
    rw [upd_ne (ne this)]; exact this
  · have n : a ≠ q := fun e => h2 (by rw [e]; exact h.fresh hp)
    rw [upd_ne n]; exact h.gr.off a h1 h2 h3
  · by_cases e : a = q
    · subst e; rw [upd_same]; exact fun z => by cases z
    · rw [upd_ne e]; exact h.gr.stay a h1
  · rw [upd_ne (fun e => h.gr.stay a h1 (by rw [e]; exact hp))]; exact h.gr.nott a h1 h2
  · by_cases e2 : a = q
    · subst e2; rw [upd_same] at e ⊢; exact e
    · rw [upd_ne e2] at e ⊢; exact h.wd.ex a u e
  · obtain ⟨a, u, hu, b⟩ := h.wd.own r hr
    have n : r.1 ≠ q := ne hu
    exact ⟨by rw [upd_ne n]; exact a, u, by rw [upd_ne n]; exact hu, r.2.mono (Evl.Ex.new fq) b⟩
theorem Pt.freeze (h : Pt E F M H) (e : M[j]? = some (q, O)) (hq : E.H q = none) (ho : H q = some o) : Pt E (upd F q o) (M.eraseIdx j) H := by
  obtain ⟨fq, _⟩ := h.at e
  have nd : ∀ r ∈ M.eraseIdx j, r.1 ≠ q := by
    have key : ∀ {M : Ms} {j : Nat}, (keys M).Nodup → M[j]? = some (q, O) → ∀ r ∈ M.eraseIdx j, r.1 ≠ q := by
      intro M
      induction M with
      | nil => intro j _ h; simp at h
      | cons m M ih =>
        intro j nd e r hr
        have nd' := List.nodup_cons.mp (show (m.1 :: keys M).Nodup from nd)
        cases j with
        | zero =>
          have e1 : m = (q, O) := Option.some.inj e
          subst e1
          have hr : r ∈ M := hr
          exact fun z => nd'.1 (by rw [← z]; exact List.mem_map_of_mem (f := (·.1)) hr)
        | succ j =>
          have e1 : M[j]? = some (q, O) := e
          have hr : r ∈ m :: M.eraseIdx j := hr
          have hq : q ∈ keys M := List.mem_map_of_mem (f := (·.1)) (List.mem_of_getElem? e1)
          rcases List.mem_cons.mp hr with z | z
          · subst z; exact fun z => nd'.1 (by rw [z]; exact hq)
          · exact ih nd'.2 e1 r z
    exact key h.wd.nd e
  refine ⟨⟨h.gr.ex.trans (Evl.Ex.new fq), h.gr.keep, fun a h1 h2 h3 => ?_, h.gr.stay, h.gr.nott⟩, ⟨fun a u z => ?_, ?_, fun r hr => ?_⟩, fun r hr => h.fr r (List.mem_of_mem_eraseIdx hr)⟩
  · have n : a ≠ q := fun z => h2 (by rw [z]; exact hq)
    rw [upd_ne n]; exact h.gr.off a h1 h2 h3
  · by_cases e2 : a = q
    · subst e2; rw [upd_same] at z; rw [ho]; exact z
    · rw [upd_ne e2] at z; exact h.wd.ex a u z
  · exact h.wd.nd.sublist ((List.eraseIdx_sublist _ _).map _)
  · obtain ⟨a, u, hu, b⟩ := h.wd.own r (List.mem_of_mem_eraseIdx hr)
    exact ⟨by rw [upd_ne (nd r hr)]; exact a, u, hu, r.2.mono (Evl.Ex.new fq) b⟩
theorem Pt.mut (h : Pt E F M H) (e : M[j]? = some (q, O)) (ho : O'.p F o') : Pt E F (M.set j (q, O')) (upd H q o') := by
  have hm := List.mem_of_getElem? e
  obtain ⟨fq, u0, hu0, _⟩ := h.at e
  refine ⟨⟨h.gr.ex, fun a u h1 h2 => ?_, h.gr.off, fun a h1 => ?_, fun a h1 h2 => ?_⟩, ⟨fun a u z => ?_, by rw [keys_set e]; exact h.wd.nd, fun r hr => ?_⟩, fun r hr => ?_⟩
  · have n : a ≠ q := fun z => by
      subst z
      rcases h.fr _ hm with f | f
      · exact h1 f
      · rw [show E.H a = none from f] at h2; cases h2
    rw [upd_ne n]; exact h.gr.keep a u h1 h2
  · by_cases z : a = q
    · subst z; rw [upd_same]; exact fun z => by cases z
    · rw [upd_ne z]; exact h.gr.stay a h1
  · by_cases z : a = q
    · subst z; rw [upd_same]; exact fun xs e => O'.nt ho xs (Option.some.inj e)
    · rw [upd_ne z]; exact h.gr.nott a h1 h2
  · rw [upd_ne (ne_of_none z fq)]; exact h.wd.ex a u z
  · rcases mem_set_ne h.wd.nd e r hr with z | ⟨z, n⟩
    · subst z; exact ⟨fq, o', upd_same, ho⟩
    · obtain ⟨a, u, hu, b⟩ := h.wd.own r z
      exact ⟨a, u, by rw [upd_ne n]; exact hu, b⟩
  · rcases mem_set_ne h.wd.nd e r hr with z | ⟨z, n⟩
    · subst z; exact (show q ∈ E.ks ∨ E.H q = none from h.fr (q, O) hm)
    · exact h.fr r z
theorem Pt.drop (h : Pt E F M H) (s : List.Sublist M' M) : Pt E F M' H :=
  ⟨h.gr, ⟨h.wd.ex, h.wd.nd.sublist (s.map _), fun r hr => h.wd.own r (s.subset hr)⟩, fun r hr => h.fr r (s.subset hr)⟩
theorem Pt.to (h : Pt E F M H) (l : ∀ F o, O.p F o → O'.p F o) (e : M[j]? = some (q, O)) : Pt E F (M.set j (q, O')) H := by
  obtain ⟨fq, u0, hu0, hO⟩ := h.at e
  have := h.mut (o' := u0) (O' := O') e (l _ _ hO)
  have e2 : upd H q u0 = H := by
    funext a
    by_cases z : a = q
    · subst z; rw [upd_same, hu0]
    · rw [upd_ne z]
  rw [e2] at this
  exact this
/-! ### changes of what is known -/
theorem Nx.imp {f} (h : Nx E Γ' M' f) (i : ∀ σ H, At E Γ M σ H → At E Γ' M' σ H) : Nx E Γ M f := fun σ H a => h σ H (i σ H a)
theorem EnvOk.upd {i : Nat} (h : EnvOk F σ Γ) (e : Γ[i]? = some (some P)) (l : ∀ v, P.p F v → P'.p F v) : EnvOk F σ (Γ.set i (some P')) := by
  have key : ∀ {σ : St} {Γ : Gm} {i : Nat}, EnvOk F σ Γ → Γ[i]? = some (some P) → EnvOk F σ (Γ.set i (some P')) := by
    intro σ Γ
    induction Γ generalizing σ with
    | nil => intro i _ h; simp at h
    | cons g Γ ih =>
      intro i h e
      cases h with
      | cons a t =>
        cases i with
        | zero =>
          have e : g = some P := Option.some.inj e
          refine .cons (fun Q hQ => ?_) t
          cases hQ
          obtain ⟨v, hv, k⟩ := a P e
          exact ⟨v, hv, l v k⟩
        | succ i => exact .cons a (ih t e)
  exact key h e
theorem nx_le {f} {i : Nat} (e : Γ[i]? = some (some P)) (l : P.le P') (h : Nx E (Γ.set i (some P')) M f) : Nx E Γ M f :=
  h.imp fun _ _ ⟨F, a, b⟩ => ⟨F, a, b.upd e (l F)⟩
theorem nx_ex {α : Type} {f} {i : Nat} {R : α → MP} (e : Γ[i]? = some (some (PEx R))) (h : ∀ x, Nx E (Γ.set i (some (R x))) M f) : Nx E Γ M f := by
  rintro σ H ⟨F, a, b⟩
  obtain ⟨v, hv, x, k⟩ := b.get e
  refine h x σ H ⟨F, a, ?_⟩
  have : EnvOk F (σ.set i (some v)) (Γ.set i (some (R x))) := b.set i k
  have e2 : σ.set i (some v) = σ := by
    have hi := (List.getElem?_eq_some_iff.mp hv)
    obtain ⟨hi, hv⟩ := hi
    rw [← hv, List.set_getElem_self]
  rw [e2] at this
  exact this
theorem nx_an {φ : Prop} {f} {i : Nat} {R : MP} (e : Γ[i]? = some (some (PAn φ R))) (h : φ → Nx E (Γ.set i (some R)) M f) : Nx E Γ M f := by
  rintro σ H ⟨F, a, b⟩
  obtain ⟨v, hv, k1, k2⟩ := b.get e
  refine h k1 σ H ⟨F, a, b.upd e fun v q => q.2⟩
/-- an own list is given away: it stands from now on -/
theorem nx_freeze {f} {i : Nat} {ps : List MP} (j : Nat) (e : M[j]? = some (q, ML ps)) (hq : E.H q = none) (hg : Γ[i]? = some (some (Own q))) (h : Nx E (Γ.set i (some (PLi K ps))) (M.eraseIdx j) f) : Nx E Γ M f := by
  rintro σ H ⟨F, a, b⟩
  obtain ⟨fq, o, ho, vs, rfl, hp⟩ := a.at e
  have ex : Ex F (upd F q (.lst vs)) := Evl.Ex.new fq
  refine h σ H ⟨_, a.freeze e hq ho, (b.mono ex).upd hg fun v hv => ⟨q, vs, hv, .inl (.inl upd_same), hp.mono ex⟩⟩
theorem nx_drop {f} (s : List.Sublist M' M) (h : Nx E Γ M' f) : Nx E Γ M f := h.imp fun σ H ⟨F, a, b⟩ => ⟨F, a.drop s, b⟩
/-! ### expressions -/
variable {te ta tb tc tl : TE} {t u : TT} {r : R2}
theorem ev_var {i : Nat} (e : Γ[i]? = some (some P)) : Ev (tVar i) Γ M P M := fun E F σ H a b Q k => by
  obtain ⟨v, hv, hp⟩ := b.get e
  exact ⟨v, hv, k v F H (Evl.Ex.refl _) a hp⟩
theorem ev_cv {v : V} (h : ∀ F, P.p F v) : Ev (tC v) Γ M P M := fun E F σ H a b Q k => k v F H (Evl.Ex.refl _) a (h F)
theorem ev_int {i : Int} : Ev (tC (.int i)) Γ M (D K (.int i)) M := ev_cv fun _ => .int i
theorem ev_bl {b : Bool} : Ev (tC (.bl b)) Γ M (D K (.bool b)) M := ev_cv fun _ => .bl b
def Cont (E : Ent) (F : Hp) (M : Ms) (P : MP) (Q : VK) : Prop := ∀ v F' H', Ex F F' → Pt E F' M H' → P.p F' v → Q v H'
def RV (r : R2) (P1 P2 : MP) (M : Ms) (P : MP) (M' : Ms) : Prop := ∀ E F H x y, Pt E F M H → P1.p F x → P2.p F y → ∀ Q : VK, Cont E F M' P Q → r x y H Q
theorem ev_op (ha : Ev ta Γ M P1 M1) (hb : Ev tb Γ M1 P2 M2) (hr : RV r P1 P2 M2 P M3) : Ev (tOp r ta tb) Γ M P M3 := fun E F σ H a b Q k =>
  ha E F σ H a b _ fun x F1 H1 e1 a1 p1 => hb E F1 σ H1 a1 (b.mono e1) _ fun y F2 H2 e2 a2 p2 =>
    hr E F2 H2 x y a2 (P1.mono e2 p1) p2 Q fun v F3 H3 e3 a3 p3 => k v F3 H3 ((e1.trans e2).trans e3) a3 p3
theorem RV.ex2 {α : Type} {R : α → MP} (h : ∀ x, RV r P1 (R x) M P M') : RV r P1 (PEx R) M P M' := fun E F H x y a p1 ⟨z, p2⟩ Q k => h z E F H x y a p1 p2 Q k
theorem RV.an2 {φ : Prop} {R : MP} (h : φ → RV r P1 R M P M') : RV r P1 (PAn φ R) M P M' := fun E F H x y a p1 p2 Q k => h p2.1 E F H x y a p1 p2.2 Q k
theorem RV.weak (h : RV r P1 P2 M P M') (l : P.le P') : RV r P1 P2 M P' M' := fun E F H x y a p1 p2 Q k => h E F H x y a p1 p2 Q fun v F' H' e g p => k v F' H' e g (l _ _ p)
theorem PEx.in {α : Type} {R : α → MP} (x : α) : (R x).le (PEx R) := fun _ _ h => ⟨x, h⟩
theorem PAn.in {φ : Prop} {R : MP} (h : φ) : R.le (PAn φ R) := fun _ _ k => ⟨h, k⟩
theorem MP.le_trans {A B C : MP} (h : A.le B) (k : B.le C) : A.le C := fun F v q => k F v (h F v q)
theorem rv_val {z : V} (hz : ∀ F, P.p F z) (h : ∀ F H x y, P1.p F x → P2.p F y → Ex F H → ∀ Q : VK, Q z H → r x y H Q) : RV r P1 P2 M P M := fun E F H x y a p1 p2 Q k =>
  h F H x y p1 p2 a.ex Q (k z F H (Evl.Ex.refl _) a (hz F))
theorem rv_i0 {g : Int → Int → Int} {i j : Int} : RV (rI0 fun i j => .int (g i j)) (D K (.int i)) (D K (.int j)) M (D K (.int (g i j))) M := rv_val (z := .int (g i j)) (fun _ => .int _) fun F H x y p1 p2 _ Q q => by
  cases dp_int p1; cases dp_int p2
  exact ⟨i, j, rfl, rfl, q⟩
theorem rv_b0 {g : Int → Int → Bool} {i j : Int} : RV (rI0 fun i j => .bl (g i j)) (D K (.int i)) (D K (.int j)) M (D K (.bool (g i j))) M := rv_val (z := .bl (g i j)) (fun _ => .bl _) fun F H x y p1 p2 _ Q q => by
  cases dp_int p1; cases dp_int p2
  exact ⟨i, j, rfl, rfl, q⟩
theorem rv_ic {C : Int → Int → Prop} {g : Int → Int → Int} {i j : Int} (hc : C i j) : RV (rI C fun i j => .int (g i j)) (D K (.int i)) (D K (.int j)) M (D K (.int (g i j))) M := rv_val (z := .int (g i j)) (fun _ => .int _) fun F H x y p1 p2 _ Q q => by
  cases dp_int p1; cases dp_int p2
  exact ⟨i, j, rfl, rfl, hc, q⟩
theorem rv_eqD {d e : PyData} (hd : SeqAt.shaped d = true) (he : SeqAt.shaped e = true) : RV (rEqD K) (D K d) (D K e) M (D K (.bool (PyData.eqv d e))) M := rv_val (z := .bl _) (fun _ => .bl _) fun F H x y p1 p2 ex Q q =>
  ⟨d, e, Dp.mono ex p1, Dp.mono ex p2, hd, he, q⟩
theorem rv_neD {d e : PyData} (hd : SeqAt.shaped d = true) (he : SeqAt.shaped e = true) : RV (rNeD K) (D K d) (D K e) M (D K (.bool (!PyData.eqv d e))) M := rv_val (z := .bl _) (fun _ => .bl _) fun F H x y p1 p2 ex Q q =>
  ⟨d, e, Dp.mono ex p1, Dp.mono ex p2, hd, he, q⟩
theorem atI_of {xs : List V} {i : Int} {v : V} (h0 : 0 ≤ i) (h : xs[i.toNat]? = some v) : atI xs i = some v := by
  have hl := (List.getElem?_eq_some_iff.mp h).1
  obtain ⟨n, rfl⟩ := Int.eq_ofNat_of_zero_le h0
  unfold atI
  rw [Evl.ixN_nat (by simpa using hl)]
  simpa using h
theorem rv_ixL {ps : List MP} {i : Int} (h0 : 0 ≤ i) (h : ps[i.toNat]? = some P) : RV (rIx K) (PLi K ps) (D K (.int i)) M P M := fun E F H x y a p1 p2 Q k => by
  cases dp_int p2
  obtain ⟨b, vs, rfl, s, q⟩ := p1
  obtain ⟨v, hv, hp⟩ := paired_get q h
  exact .inl ⟨b, vs, i, v, rfl, rfl, Evl.ex_l a.ex s, atI_of h0 hv, k v F H (Evl.Ex.refl _) a hp⟩
theorem rv_ixT {ps : List MP} {i : Int} (h0 : 0 ≤ i) (h : ps[i.toNat]? = some P) : RV (rIx K) (PTu K ps) (D K (.int i)) M P M := fun E F H x y a p1 p2 Q k => by
  cases dp_int p2
  obtain ⟨b, vs, rfl, s, q⟩ := p1
  obtain ⟨v, hv, hp⟩ := paired_get q h
  exact .inr (.inl ⟨b, vs, i, v, rfl, rfl, Evl.ex_t a.ex s, atI_of h0 hv, k v F H (Evl.Ex.refl _) a hp⟩)
theorem rv_ixDL {ds : List PyData} {i : Int} {d : PyData} (h0 : 0 ≤ i) (h : ds[i.toNat]? = some d) : RV (rIx K) (D K (.list ds)) (D K (.int i)) M (D K d) M := fun E F H x y a p1 p2 Q k =>
  rv_ixL (K := K) (ps := ds.map (D K)) h0 (by rw [List.getElem?_map, h]; rfl) E F H x y a (D_PLi _ _ p1) p2 Q k
theorem rv_ixDT {ds : List PyData} {i : Int} {d : PyData} (h0 : 0 ≤ i) (h : ds[i.toNat]? = some d) : RV (rIx K) (D K (.tuple ds)) (D K (.int i)) M (D K d) M := fun E F H x y a p1 p2 Q k =>
  rv_ixT (K := K) (ps := ds.map (D K)) h0 (by rw [List.getElem?_map, h]; rfl) E F H x y a (D_PTu _ _ p1) p2 Q k
theorem rv_ixO {ps : List MP} {i : Int} {j : Nat} (e : M[j]? = some (q, ML ps)) (h0 : 0 ≤ i) (h : ps[i.toNat]? = some P) : RV (rIx K) (Own q) (D K (.int i)) M P M := fun E F H x y a p1 p2 Q k => by
  cases dp_int p2
  have p1 : x = .ref q := p1
  subst p1
  obtain ⟨fq, o, ho, vs, rfl, s⟩ := a.at e
  obtain ⟨v, hv, hp⟩ := paired_get s h
  exact .inl ⟨q, vs, i, v, rfl, rfl, SqL.of ho, atI_of h0 hv, k v F H (Evl.Ex.refl _) a hp⟩
theorem flat_ints : ∀ {F : Hp} {xs : List V} {ns : List Int}, DpAll K F xs (ns.map PyData.int) → xs = ns.map V.int
  | _, _, [], h => by cases h; rfl
  | _, _, n :: ns, h => by cases h with | cons a t => rw [List.map_cons, ← flat_ints t, dp_int a]
theorem flat_all (ns : List Int) : (ns.map V.int).all flatV = true := by
  rw [List.all_eq_true]
  intro x hx
  obtain ⟨n, _, rfl⟩ := List.mem_map.mp hx
  rfl
theorem inV_ints (i : Int) (ns : List Int) : inV (.int i) (ns.map V.int) = decide (i ∈ ns) := by
  induction ns with
  | nil => rfl
  | cons n ns ih =>
    show (eqV (.int n) (.int i) || inV (.int i) (ns.map V.int)) = _
    rw [ih]
    show (decide (n = i) || decide (i ∈ ns)) = _
    by_cases h : i = n
    · subst h; simp
    · have h2 : ¬ n = i := fun e => h e.symm
      simp [h, h2]
theorem rv_inT {i : Int} {ns : List Int} {neg : Bool} : RV (rIn K neg) (D K (.int i)) (D K (.tuple (ns.map .int))) M (D K (.bool (if neg then !decide (i ∈ ns) else decide (i ∈ ns)))) M := rv_val (z := .bl _) (fun _ => .bl _) fun F H x y p1 p2 ex Q k => by
  cases dp_int p1
  obtain ⟨b, vs, rfl, s, q⟩ := dp_tup p2
  cases flat_ints q
  refine ⟨b, _, rfl, .inr (Evl.ex_t ex s), rfl, flat_all ns, ?_⟩
  rw [inV_ints]
  exact k
/-! ### arguments, calls -/
theorem ea_nil : EvA tNil Γ M [] M := fun E F σ H a b Q k => k [] F H (Evl.Ex.refl _) a .nil
theorem ea_cons {tr : TA} {ps : List MP} (h : Ev te Γ M P M1) (hr : EvA tr Γ M1 ps M2) : EvA (tCons te tr) Γ M (P :: ps) M2 := fun E F σ H a b Q k =>
  h E F σ H a b _ fun x F1 H1 e1 a1 p1 => hr E F1 σ H1 a1 (b.mono e1) _ fun vs F2 H2 e2 a2 p2 => k (x :: vs) F2 H2 (e1.trans e2) a2 (.cons (P.mono e2 p1) p2)
def RC (rc : List V → Hp → VK → Prop) (ps : List MP) (M : Ms) (P : MP) (M' : Ms) : Prop := ∀ E F H vs, Pt E F M H → Ps F vs ps → ∀ Q : VK, Cont E F M' P Q → rc vs H Q
theorem ev_cb {rc : List V → Hp → VK → Prop} {tr : TA} {ps : List MP} (h : EvA tr Γ M ps M1) (hr : RC rc ps M1 P M2) : Ev (tCB rc tr) Γ M P M2 := fun E F σ H a b Q k =>
  h E F σ H a b _ fun vs F1 H1 e1 a1 p1 => hr E F1 H1 vs a1 p1 Q fun v F2 H2 e2 a2 p2 => k v F2 H2 (e1.trans e2) a2 p2
theorem ev_call {sp : Sp} {dvs : List V} {X : XK} {tr : TA} {ps : List MP} (h : EvA tr Γ M ps M1) (hr : RC (fun vs H Q => sp (vs ++ dvs) H Q X) ps M1 P M2) : Ev (tCall sp dvs X tr) Γ M P M2 := fun E F σ H a b Q k =>
  h E F σ H a b _ fun vs F1 H1 e1 a1 p1 => hr E F1 H1 vs a1 p1 Q fun v F2 H2 e2 a2 p2 => k v F2 H2 (e1.trans e2) a2 p2
theorem RC.weak {rc : List V → Hp → VK → Prop} {ps : List MP} (h : RC rc ps M P M') (l : P.le P') : RC rc ps M P' M' := fun E F H vs a p Q k => h E F H vs a p Q fun v F' H' e g p => k v F' H' e g (l _ _ p)
theorem rc_len {ps : List MP} : RC (fun xs H Q => ∃ p ys, xs = [.ref p] ∧ (SqL K H p ys ∨ SqT K H p ys) ∧ Q (.int ys.length) H) [PLi K ps] M (D K (.int ps.length)) M := fun E F H vs a p Q k => by
  cases p with
  | cons p t =>
    cases t
    obtain ⟨b, ys, rfl, s, q⟩ := p
    refine ⟨b, ys, rfl, .inl (Evl.ex_l a.ex s), k _ F H (Evl.Ex.refl _) a ?_⟩
    rw [← paired_len q]
    exact .int _
theorem rc_lenT {ps : List MP} : RC (fun xs H Q => ∃ p ys, xs = [.ref p] ∧ (SqL K H p ys ∨ SqT K H p ys) ∧ Q (.int ys.length) H) [PTu K ps] M (D K (.int ps.length)) M := fun E F H vs a p Q k => by
  cases p with
  | cons p t =>
    cases t
    obtain ⟨b, ys, rfl, s, q⟩ := p
    refine ⟨b, ys, rfl, .inr (Evl.ex_t a.ex s), k _ F H (Evl.Ex.refl _) a ?_⟩
    rw [← paired_len q]
    exact .int _
theorem rc_lenO {ps : List MP} {j : Nat} (e : M[j]? = some (q, ML ps)) : RC (fun xs H Q => ∃ p ys, xs = [.ref p] ∧ (SqL K H p ys ∨ SqT K H p ys) ∧ Q (.int ys.length) H) [Own q] M (D K (.int ps.length)) M := fun E F H vs a p Q k => by
  cases p with
  | cons p t =>
    cases t
    have p : _ = V.ref q := p
    subst p
    obtain ⟨fq, o, ho, vs, rfl, s⟩ := a.at e
    refine ⟨q, vs, rfl, .inl (SqL.of ho), k _ F H (Evl.Ex.refl _) a ?_⟩
    rw [← paired_len s]
    exact .int _
theorem rc_lenD {ds : List PyData} : RC (fun xs H Q => ∃ p ys, xs = [.ref p] ∧ (SqL K H p ys ∨ SqT K H p ys) ∧ Q (.int ys.length) H) [D K (.list ds)] M (D K (.int ds.length)) M := fun E F H vs a p Q k => by
  cases p with
  | cons p t =>
    cases t
    have := rc_len (K := K) (ps := ds.map (D K)) E F H [_] a (.cons (D_PLi _ _ p) .nil) Q (M := M)
    rw [List.length_map] at this
    exact this k
theorem rc_lenDT {ds : List PyData} : RC (fun xs H Q => ∃ p ys, xs = [.ref p] ∧ (SqL K H p ys ∨ SqT K H p ys) ∧ Q (.int ys.length) H) [D K (.tuple ds)] M (D K (.int ds.length)) M := fun E F H vs a p Q k => by
  cases p with
  | cons p t =>
    cases t
    have := rc_lenT (K := K) (ps := ds.map (D K)) E F H [_] a (.cons (D_PTu _ _ p) .nil) Q (M := M)
    rw [List.length_map] at this
    exact this k
end
end Hq
namespace Hq
open PySem L2
section
variable {K : PySem.W.Frag} {E E' : Ent} {F F' H H' : Hp} {M M' M1 M2 M3 : Ms} {Γ Γ' : Gm} {P P' P1 P2 : MP} {O O' : MO} {q : Addr} {σ : St} {o o' : HO} {j : Nat}
variable {te ta tb tc tl : TE} {t u : TT} {r : R2} {D1 : Ends} {tu tw : TS}
/-! ### new objects -/
def ContN (E : Ent) (F : Hp) (O : MO) (M : Ms) (Q : VK) : Prop := ∀ q F' H', E.H q = none → Ex F F' → Pt E F' ((q, O) :: M) H' → Q (.ref q) H'
def EvN (te : TE) (Γ : Gm) (M : Ms) (O : MO) (M' : Ms) : Prop := ∀ E F σ H, Pt E F M H → EnvOk F σ Γ → ∀ Q : VK, ContN E F O M' Q → te σ H Q
def RCN (rc : List V → Hp → VK → Prop) (ps : List MP) (M : Ms) (O : MO) (M' : Ms) : Prop := ∀ E F H vs, Pt E F M H → Ps F vs ps → ∀ Q : VK, ContN E F O M' Q → rc vs H Q
/-- an object that stands -/
def Fr (O : MO) : MP := ⟨fun F v => ∃ q o, v = .ref q ∧ F q = some o ∧ O.p F o, fun e ⟨q, o, a, b, c⟩ => ⟨q, o, a, e _ _ b, O.mono e c⟩⟩
theorem fr_L {ps : List MP} : (Fr (ML ps)).le (PLi K ps) := fun F v ⟨q, o, a, b, vs, e, h⟩ => by subst e; exact ⟨q, vs, a, SqL.of b, h⟩
theorem fr_X {α : Type} {R : α → MO} : (Fr (MX R)).le (PEx fun x => Fr (R x)) := fun F v ⟨q, o, a, b, x, h⟩ => ⟨x, q, o, a, b, h⟩
theorem fr_A {φ : Prop} {R : MO} : (Fr (MA φ R)).le (PAn φ (Fr R)) := fun F v ⟨q, o, a, b, x, h⟩ => ⟨x, q, o, a, b, h⟩
theorem PEx.le {α : Type} {R R' : α → MP} (h : ∀ x, (R x).le (R' x)) : (PEx R).le (PEx R') := fun F v ⟨x, k⟩ => ⟨x, h x F v k⟩
theorem PAn.le {φ : Prop} {R R' : MP} (h : φ → R.le R') : (PAn φ R).le (PAn φ R') := fun F v k => ⟨k.1, h k.1 F v k.2⟩
theorem ev_fr (h : EvN te Γ M O M') : Ev te Γ M (Fr O) M' := fun E F σ H a b Q k => h E F σ H a b Q fun q F' H' f e g => by
  obtain ⟨fq, o, ho, hO⟩ := g.at (j := 0) rfl
  have ex : Ex F' (upd F' q o) := Evl.Ex.new fq
  exact k _ _ _ (e.trans ex) (g.freeze (j := 0) rfl f ho) ⟨q, o, rfl, upd_same, O.mono ex hO⟩
theorem ev_newL {ps : List MP} (h : EvN te Γ M (ML ps) M') : Ev te Γ M (PLi K ps) M' := (ev_fr h).weak fr_L
theorem EvN.weak (h : EvN te Γ M O M') (l : ∀ F o, O.p F o → O'.p F o) : EvN te Γ M O' M' := fun E F σ H a b Q k => h E F σ H a b Q fun q F' H' f e g => k q F' H' f e (by
  have := g.to (j := 0) (O' := O') l rfl
  exact this)
theorem EvN.is {O2 : MO} (h : EvN te Γ M O M') (e : O = O2) : EvN te Γ M O2 M' := e ▸ h
theorem Ev.is (h : Ev te Γ M P M') (e : P = P') : Ev te Γ M P' M' := e ▸ h
theorem sz_of {n : Nat} (h : n ≤ 100000) : n ≤ sizeLine := Nat.le_trans h (by decide)
theorem sz_lt {n : Nat} (h : n < 100000) : n < sizeLine := Nat.lt_of_lt_of_le h (by decide)
theorem evn_lst {tr : TA} {ps : List MP} (h : EvA tr Γ M ps M1) (hl : ps.length ≤ 100000) : EvN (tLst tr) Γ M (ML ps) M1 := fun E F σ H a b Q k =>
  h E F σ H a b _ fun vs F1 H1 e1 a1 p1 => ⟨sz_of (by rw [paired_len p1]; exact hl), fun p hp => k p F1 _ (a1.fresh hp) e1 (a1.new hp ⟨vs, rfl, p1⟩)⟩
theorem ev_tup {tr : TA} {ps : List MP} (h : EvA tr Γ M ps M1) (hl : ps.length ≤ 100000) : Ev (tTup tr) Γ M (PTu K ps) M1 := fun E F σ H a b Q k =>
  h E F σ H a b _ fun vs F1 H1 e1 a1 p1 => ⟨sz_of (by rw [paired_len p1]; exact hl), fun p hp => k _ _ _ (e1.trans (Evl.Ex.new (Evl.fresh_back a1.ex hp))) (a1.laid hp)
    ⟨p, vs, rfl, SqT.of upd_same, p1.mono (Evl.Ex.new (Evl.fresh_back a1.ex hp))⟩⟩
theorem evn_cb {rc : List V → Hp → VK → Prop} {tr : TA} {ps : List MP} (h : EvA tr Γ M ps M1) (hr : RCN rc ps M1 O M2) : EvN (tCB rc tr) Γ M O M2 := fun E F σ H a b Q k =>
  h E F σ H a b _ fun vs F1 H1 e1 a1 p1 => hr E F1 H1 vs a1 p1 Q fun q F2 H2 f e2 a2 => k q F2 H2 f (e1.trans e2) a2
theorem ps1 {F : Hp} {vs : List V} {P : MP} (h : Ps F vs [P]) : ∃ v, vs = [v] ∧ P.p F v := by cases h with | cons a t => cases t; exact ⟨_, rfl, a⟩
theorem ps2 {F : Hp} {vs : List V} {P P' : MP} (h : Ps F vs [P, P']) : ∃ v w, vs = [v, w] ∧ P.p F v ∧ P'.p F w := by cases h with | cons a t => obtain ⟨w, rfl, b⟩ := ps1 t; exact ⟨_, w, rfl, a, b⟩
/-- list(x) -/
abbrev rList (K : PySem.W.Frag) : List V → Hp → VK → Prop := fun xs H Q => ∃ p ys, xs = [.ref p] ∧ (SqL K H p ys ∨ SqT K H p ys) ∧ ∀ l, H l = none → Q (.ref l) (upd H l (.lst ys))
theorem rcn_listL {ps : List MP} : RCN (rList K) [PLi K ps] M (ML ps) M := fun E F H vs a h Q k => by
  obtain ⟨v, rfl, b, ws, rfl, s, p⟩ := ps1 h
  exact ⟨b, ws, rfl, .inl (Evl.ex_l a.ex s), fun l hl => k l F _ (a.fresh hl) (Evl.Ex.refl _) (a.new hl ⟨ws, rfl, p⟩)⟩
/-- tuple(x) -/
abbrev rTuple (K : PySem.W.Frag) : List V → Hp → VK → Prop := fun xs H Q => ∃ p ys, xs = [.ref p] ∧ ((SqL K H p ys ∧ ∀ l, H l = none → Q (.ref l) (upd H l (.tup ys))) ∨ (SqT K H p ys ∧ Q (.ref p) H))
theorem rc_tupleL {ps : List MP} : RC (rTuple K) [PLi K ps] M (PTu K ps) M := fun E F H vs a h Q k => by
  obtain ⟨v, rfl, b, ws, rfl, s, p⟩ := ps1 h
  refine ⟨b, ws, rfl, .inl ⟨Evl.ex_l a.ex s, fun l hl => ?_⟩⟩
  have ex : Ex F (upd F l (.tup ws)) := Evl.Ex.new (Evl.fresh_back a.ex hl)
  exact k _ _ _ ex (a.laid hl) ⟨l, ws, rfl, SqT.of upd_same, p.mono ex⟩
theorem rc_tupleT {ps : List MP} : RC (rTuple K) [PTu K ps] M (PTu K ps) M := fun E F H vs a h Q k => by
  obtain ⟨v, rfl, b, ws, rfl, s, p⟩ := ps1 h
  exact ⟨b, ws, rfl, .inr ⟨Evl.ex_t a.ex s, k _ F H (Evl.Ex.refl _) a ⟨b, ws, rfl, s, p⟩⟩⟩
abbrev rInt : List V → Hp → VK → Prop := fun xs H Q => (∃ i, xs = [.int i] ∧ Q (.int i) H) ∨ ∃ k, xs = [.bl k] ∧ Q (.int (if k then 1 else 0)) H
theorem rc_int {i : Int} : RC rInt [D K (.int i)] M (D K (.int i)) M := fun E F H vs a h Q k => by
  obtain ⟨v, rfl, hv⟩ := ps1 h
  cases dp_int hv
  exact .inl ⟨i, rfl, k _ F H (Evl.Ex.refl _) a (.int i)⟩
theorem RC.ex1 {α : Type} {rc : List V → Hp → VK → Prop} {R : α → MP} {ps : List MP} (h : ∀ x, RC rc (R x :: ps) M P M') : RC rc (PEx R :: ps) M P M' := fun E F H vs a p Q k => by
  cases p with
  | cons b t => obtain ⟨x, b⟩ := b; exact h x E F H _ a (.cons b t) Q k
theorem RC.an1 {φ : Prop} {rc : List V → Hp → VK → Prop} {R : MP} {ps : List MP} (h : φ → RC rc (R :: ps) M P M') : RC rc (PAn φ R :: ps) M P M' := fun E F H vs a p Q k => by
  cases p with
  | cons b t => exact h b.1 E F H _ a (.cons b.2 t) Q k
theorem RC.in1 {rc : List V → Hp → VK → Prop} {R R' : MP} {ps : List MP} (l : R.le R') (h : RC rc (R' :: ps) M P M') : RC rc (R :: ps) M P M' := fun E F H vs a p Q k => by
  cases p with
  | cons b t => exact h E F H _ a (.cons (l _ _ b) t) Q k
theorem RCN.in1 {rc : List V → Hp → VK → Prop} {R R' : MP} {ps : List MP} (l : R.le R') (h : RCN rc (R' :: ps) M O M') : RCN rc (R :: ps) M O M' := fun E F H vs a p Q k => by
  cases p with
  | cons b t => exact h E F H _ a (.cons (l _ _ b) t) Q k
theorem RCN.weak {rc : List V → Hp → VK → Prop} {ps : List MP} (h : RCN rc ps M O M') (l : ∀ F o, O.p F o → O'.p F o) : RCN rc ps M O' M' := fun E F H vs a p Q k => h E F H vs a p Q fun q F' H' f e g => k q F' H' f e (g.to (j := 0) (O' := O') l rfl)
/-! ### tests -/
theorem et_val {b : Bool} (h : Ev te Γ M (D K (.bool b)) M') : EvT (tB te) Γ M (· = b) M' := fun E F σ H a c Q k => h E F σ H a c _ fun v F' H' e g p => by
  cases dp_bl p; exact ⟨b, rfl, k b F' H' e g rfl⟩
theorem et_test {b : Bool} (h : Ev te Γ M (D K (.bool b)) M') : EvT (tTest te) Γ M (· = b) M' := fun E F σ H a c Q k => h E F σ H a c _ fun v F' H' e g p => by
  cases dp_bl p; exact ⟨b, rfl, k b F' H' e g rfl⟩
theorem et_and {a b : Bool} (h1 : EvT t Γ M (· = a) M1) (h2 : a = true → EvT u Γ M1 (· = b) M1) : EvT (tAnd t u) Γ M (· = (a && b)) M1 := fun E F σ H x c Q k => h1 E F σ H x c _ fun z F1 H1 e1 g1 hz => by
  subst hz
  cases z with
  | true => exact h2 rfl E F1 σ H1 g1 (c.mono e1) _ fun z F2 H2 e2 g2 hz => k z F2 H2 (e1.trans e2) g2 hz
  | false => exact k false F1 H1 e1 g1 rfl
theorem et_or {a b : Bool} (h1 : EvT t Γ M (· = a) M1) (h2 : a = false → EvT u Γ M1 (· = b) M1) : EvT (tOr t u) Γ M (· = (a || b)) M1 := fun E F σ H x c Q k => h1 E F σ H x c _ fun z F1 H1 e1 g1 hz => by
  subst hz
  cases z with
  | true => exact k true F1 H1 e1 g1 rfl
  | false => exact h2 rfl E F1 σ H1 g1 (c.mono e1) _ fun z F2 H2 e2 g2 hz => k z F2 H2 (e1.trans e2) g2 hz
theorem et_not {a : Bool} (h : EvT t Γ M (· = a) M') : EvT (tNot t) Γ M (· = !a) M' := fun E F σ H x c Q k => h E F σ H x c _ fun z F1 H1 e1 g1 hz => k _ F1 H1 e1 g1 (by rw [hz])
theorem ev_andV {a b : Bool} (h1 : Ev ta Γ M (D K (.bool a)) M1) (h2 : a = true → Ev tb Γ M1 (D K (.bool b)) M1) : Ev (tAndV ta tb) Γ M (D K (.bool (a && b))) M1 := fun E F σ H x c Q k => h1 E F σ H x c _ fun z F1 H1 e1 g1 hz => by
  cases dp_bl hz
  refine ⟨a, rfl, ?_⟩
  cases a with
  | true => exact h2 rfl E F1 σ H1 g1 (c.mono e1) _ fun z F2 H2 e2 g2 hz => k z F2 H2 (e1.trans e2) g2 hz
  | false => exact k _ F1 H1 e1 g1 (.bl false)
theorem ev_notV {a : Bool} (h1 : Ev ta Γ M (D K (.bool a)) M1) : Ev (tNotV ta) Γ M (D K (.bool !a)) M1 := fun E F σ H x c Q k => h1 E F σ H x c _ fun z F1 H1 e1 g1 hz => by
  cases dp_bl hz
  exact ⟨a, rfl, k _ F1 H1 e1 g1 (.bl _)⟩
theorem ev_chain {r' : R2} {a b : Bool} {P3 : MP} (ha : Ev ta Γ M P1 M) (hb : Ev tb Γ M P2 M) (hr : RV r P1 P2 M (D K (.bool a)) M) (hc : a = true → Ev tc Γ M P3 M) (hr' : RV r' P2 P3 M (D K (.bool b)) M) : Ev (tChain r r' ta tb tc) Γ M (D K (.bool (a && b))) M := fun E F σ H x c Q k =>
  ha E F σ H x c _ fun v F1 H1 e1 g1 p1 => hb E F1 σ H1 g1 (c.mono e1) _ fun w F2 H2 e2 g2 p2 => hr E F2 H2 v w g2 (P1.mono e2 p1) p2 _ fun z F3 H3 e3 g3 p3 => by
    cases dp_bl p3
    refine ⟨a, rfl, ?_⟩
    cases a with
    | true => exact hc rfl E F3 σ H3 g3 (c.mono ((e1.trans e2).trans e3)) _ fun y F4 H4 e4 g4 p4 => hr' E F4 H4 w y g4 (P2.mono (e3.trans e4) p2) p4 Q fun y F5 H5 e5 g5 p5 => k y F5 H5 ((((e1.trans e2).trans e3).trans e4).trans e5) g5 p5
    | false => exact k _ F3 H3 ((e1.trans e2).trans e3) g3 (.bl false)
/-! ### statements -/
theorem go_asg {i : Nat} (h : Ev te Γ M P M1) (k : Nx E (Γ.set i (some P)) M1 D1.nx) : Nx E Γ M (tAsg te (gName i) D1) := fun σ H ⟨F, a, b⟩ =>
  h E F σ H a b _ fun v F' H' e g p => k _ _ ⟨F', g, (b.mono e).set i p⟩
theorem go_asgN {i : Nat} (h : EvN te Γ M O M1) (k : ∀ q, E.H q = none → Nx E (Γ.set i (some (Own q))) ((q, O) :: M1) D1.nx) : Nx E Γ M (tAsg te (gName i) D1) := fun σ H ⟨F, a, b⟩ =>
  h E F σ H a b _ fun q F' H' f e g => k q f _ _ ⟨F', g, (b.mono e).set i (P := Own q) rfl⟩
theorem go_drop (h : Ev te Γ M P M1) (k : Nx E Γ M1 D1.nx) : Nx E Γ M (tDrop te D1) := fun σ H ⟨F, a, b⟩ => h E F σ H a b _ fun v F' H' e g p => k _ _ ⟨F', g, b.mono e⟩
theorem go_if {B : Bool → Prop} (h : EvT t Γ M B M1) (h1 : B true → Nx E Γ M1 (tu D1)) (h2 : B false → Nx E Γ M1 (tw D1)) : Nx E Γ M (tIfS t tu tw D1) := fun σ H ⟨F, a, b⟩ => h E F σ H a b _ fun z F' H' e g hz => by
  cases z with
  | true => exact h1 hz σ H' ⟨F', g, b.mono e⟩
  | false => exact h2 hz σ H' ⟨F', g, b.mono e⟩
theorem go_ret {E0 : Ent} (l : Le E E0) (h : Ev te Γ M P M1) (k : Rt E0 M1 P D1.rt) : Nx E Γ M (tRet te D1) := fun σ H ⟨F, a, b⟩ => h E F σ H a b _ fun v F' H' e g p => k v F' H' (l.to _ _ _ g) p
theorem go_next (k : Nx E Γ M D1.nx) : Nx E Γ M (tNext D1) := k
theorem Rt.drop {f : VK} (s : List.Sublist M M') (h : Rt E M P f) : Rt E M' P f := fun v F H a p => h v F H (a.drop s) p
theorem Rt.weak {f : VK} (l : P.le P') (h : Rt E M P' f) : Rt E M P f := fun v F H a p => h v F H a (l _ _ p)
/-- xs.append(e) -/
theorem go_app {ps : List MP} (ho : Ev ta Γ M (Own q) M) (h : Ev te Γ M P M1) (e0 : M[j]? = some (q, ML ps)) (e : M1[j]? = some (q, ML ps)) (hz : ps.length < 100000) (k : Nx E Γ (M1.set j (q, ML (ps ++ [P]))) D1.nx) :
    Nx E Γ M (tDrop (tBM K "list" rAppend ta (tCons te tNil)) D1) := fun σ H ⟨F, a, b⟩ => ho E F σ H a b _ fun v F1 H1 e1 g1 p1 => by
  have p1 : v = .ref q := p1
  subst p1
  obtain ⟨_, o, ho1, ws0, rfl, _⟩ := g1.at e0
  refine ⟨.inl ⟨rfl, ws0, SqL.of ho1⟩, ?_⟩
  refine h E F1 σ H1 g1 (b.mono e1) _ fun w F2 H2 e2 g2 p2 => ?_
  obtain ⟨_, o, ho2, ws, rfl, s⟩ := g2.at e
  refine ⟨q, ws, w, rfl, rfl, ho2, sz_lt (by rw [paired_len s]; exact hz), ?_⟩
  exact k _ _ ⟨F2, g2.mut e ⟨_, rfl, paired_app s (.cons p2 .nil)⟩, b.mono (e1.trans e2)⟩
/-- xs[i] = e -/
theorem go_setL {ps : List MP} {i : Int} (h : Ev te Γ M P M1) (ho : Ev ta Γ M1 (Own q) M1) (hi : Ev tb Γ M1 (D K (.int i)) M2) (e : M2[j]? = some (q, ML ps)) (h0 : 0 ≤ i) (h1 : i.toNat < ps.length) (k : Nx E Γ (M2.set j (q, ML (ps.set i.toNat P))) D1.nx) :
    Nx E Γ M (tAsg te (gSub ta tb rSetL) D1) := fun σ H ⟨F, a, b⟩ => h E F σ H a b _ fun w F0 H0 e0 g0 p0 => ho E F0 σ H0 g0 (b.mono e0) _ fun v F1 H1 e1 g1 p1 => by
  have p1 : v = .ref q := p1
  subst p1
  refine hi E F1 σ H1 g1 (b.mono (e0.trans e1)) _ fun x F2 H2 e2 g2 p2 => ?_
  cases dp_int p2
  obtain ⟨_, o, ho2, ws, rfl, s⟩ := g2.at e
  obtain ⟨n, rfl⟩ := Int.eq_ofNat_of_zero_le h0
  have hn : n < ws.length := by rw [paired_len s]; exact h1
  refine ⟨q, ws, n, n, rfl, rfl, ho2, Evl.ixN_nat hn, ?_⟩
  exact k _ _ ⟨F2, g2.mut e ⟨_, rfl, paired_set (R := fun (v : V) (P : MP) => P.p F2 v) (P.mono (e1.trans e2) p0) n s⟩, b.mono ((e0.trans e1).trans e2)⟩
/-- xs.reverse() -/
theorem go_rev {ps : List MP} (ho : Ev ta Γ M (Own q) M) (e : M[j]? = some (q, ML ps)) (k : Nx E Γ (M.set j (q, ML ps.reverse)) D1.nx) : Nx E Γ M (tDrop (tBM0 K "list" rReverse ta) D1) := fun σ H ⟨F, a, b⟩ => ho E F σ H a b _ fun v F1 H1 e1 g1 p1 => by
  have p1 : v = .ref q := p1
  subst p1
  obtain ⟨_, o, ho1, ws, rfl, s⟩ := g1.at e
  refine ⟨.inl ⟨rfl, ws, SqL.of ho1⟩, q, ws, rfl, rfl, ho1, ?_⟩
  have srev : ∀ {ws : List V} {ps : List MP}, Ps F1 ws ps → Ps F1 ws.reverse ps.reverse := by
    intro ws ps s
    induction s with
    | nil => exact .nil
    | cons a t ih => rw [List.reverse_cons, List.reverse_cons]; exact paired_app ih (.cons a .nil)
  exact k _ _ ⟨F1, g1.mut e ⟨_, rfl, srev s⟩, b.mono e1⟩
/-- name += e -/
theorem go_aug {i : Nat} {f : Int → Int → Int} {x y : Int} (hx : Γ[i]? = some (some (D K (.int x)))) (h : Ev te Γ M (D K (.int y)) M1) (k : Nx E (Γ.set i (some (D K (.int (f x y))))) M1 D1.nx) : Nx E Γ M (tAug i te (ipI f) D1) := fun σ H ⟨F, a, b⟩ => by
  obtain ⟨v, hv, p⟩ := b.get hx
  cases dp_int p
  refine ⟨_, hv, h E F σ H a b _ fun w F1 H1 e1 g1 p1 => ?_⟩
  cases dp_int p1
  exact ⟨x, y, rfl, rfl, k _ _ ⟨F1, g1, (b.mono e1).set i (P := D K (.int (f x y))) (.int _)⟩⟩
/-! ### loops -/
def JA (E : Ent) (J : Gm → Ms → Prop) (σ : St) (H : Hp) : Prop := ∃ Γ M, J Γ M ∧ At E Γ M σ H
theorem JA.of {J : Gm → Ms → Prop} (h : J Γ M) : Nx E Γ M (JA E J) := fun σ H a => ⟨Γ, M, h, a⟩
theorem go_forL {ps : List MP} {i : Nat} (h : Ev tl Γ M (PLi K ps) M1) (J : Nat → Gm → Ms → Prop) (h0 : J 0 Γ M1)
    (hs : ∀ E', Le E' E → ∀ n P, ps[n]? = some P → ∀ Γ' M', J n Γ' M' → Nx E' (Γ'.set i (some P)) M' (tu { D1 with nx := JA E' (J (n + 1)), ct := JA E' (J (n + 1)), bk := D1.nx }))
    (hd : ∀ Γ' M', J ps.length Γ' M' → Nx E Γ' M' D1.nx) : Nx E Γ M (tFor (iList K tl) (gName i) tu D1) := fun σ H ⟨F, a, b⟩ => h E F σ H a b _ fun v F1 H1 e1 g1 ⟨p, vs, hp, s, q⟩ => by
  refine ⟨p, hp, ⟨vs, Evl.ex_l g1.ex s⟩, for_list (xs := vs) (fun n σ H => JA ⟨F1, H1, keys M1⟩ (J n) σ H) ⟨Γ, M1, h0, F1, g1.enter, b.mono e1⟩ (fun n σ2 H2 _ ⟨Γ', M', _, F2, g2, _⟩ => Evl.ex_l (g2.gr.ex.trans g2.ex) s)
    (fun n x σ2 H2 hx ⟨Γ', M', hJ, F2, g2, b2⟩ => ?_) (fun σ2 H2 hJ => ?_)⟩
  · obtain ⟨P, hP, hx2⟩ := paired_get' q hx
    exact hs ⟨F1, H1, keys M1⟩ g1.le n P hP Γ' M' hJ _ _ ⟨F2, g2, b2.set i (P.mono g2.gr.ex hx2)⟩
  · rw [paired_len q] at hJ
    obtain ⟨Γ', M', hJ, at2⟩ := hJ
    exact hd Γ' M' hJ _ _ (at2.le g1.le)
theorem go_forT {ps : List MP} {i : Nat} (h : Ev tl Γ M (PTu K ps) M1) (J : Nat → Gm → Ms → Prop) (h0 : J 0 Γ M1)
    (hs : ∀ E', Le E' E → ∀ n P, ps[n]? = some P → ∀ Γ' M', J n Γ' M' → Nx E' (Γ'.set i (some P)) M' (tu { D1 with nx := JA E' (J (n + 1)), ct := JA E' (J (n + 1)), bk := D1.nx }))
    (hd : ∀ Γ' M', J ps.length Γ' M' → Nx E Γ' M' D1.nx) : Nx E Γ M (tFor (iTup K tl) (gName i) tu D1) := fun σ H ⟨F, a, b⟩ => h E F σ H a b _ fun v F1 H1 e1 g1 ⟨p, vs, hp, s, q⟩ => by
  refine ⟨p, hp, ⟨vs, Evl.ex_t g1.ex s⟩, for_tup (xs := vs) (fun n σ H => JA ⟨F1, H1, keys M1⟩ (J n) σ H) ⟨Γ, M1, h0, F1, g1.enter, b.mono e1⟩ (fun n σ2 H2 _ ⟨Γ', M', _, F2, g2, _⟩ => Evl.ex_t (g2.gr.ex.trans g2.ex) s)
    (fun n x σ2 H2 hx ⟨Γ', M', hJ, F2, g2, b2⟩ => ?_) (fun σ2 H2 hJ => ?_)⟩
  · obtain ⟨P, hP, hx2⟩ := paired_get' q hx
    exact hs ⟨F1, H1, keys M1⟩ g1.le n P hP Γ' M' hJ _ _ ⟨F2, g2, b2.set i (P.mono g2.gr.ex hx2)⟩
  · rw [paired_len q] at hJ
    obtain ⟨Γ', M', hJ, at2⟩ := hJ
    exact hd Γ' M' hJ _ _ (at2.le g1.le)
theorem go_forR {tr : TA} {z : Int} {i : Nat} (h : EvA tr Γ M [D K (.int z)] M1) (hz : z ≤ 1000000) (hz2 : -1000000 ≤ z) (J : Nat → Gm → Ms → Prop) (h0 : J 0 Γ M1)
    (hs : ∀ n : Nat, (n : Int) < z → ∀ Γ' M', J n Γ' M' → Nx E (Γ'.set i (some (D K (.int n)))) M' (tu { D1 with nx := JA E (J (n + 1)), ct := JA E (J (n + 1)), bk := D1.nx }))
    (hd : ∀ Γ' M', J z.toNat Γ' M' → Nx E Γ' M' D1.nx) : Nx E Γ M (tFor (iRng1 tr) (gName i) tu D1) := fun σ H ⟨F, a, b⟩ => h E F σ H a b _ fun vs F1 H1 e1 g1 p => by
  obtain ⟨v, rfl, hv⟩ := ps1 p
  cases dp_int hv
  refine ⟨z, rfl, by omega, by omega, for_range (lo := 0) (n := z.toNat) (fun n σ H => JA E (J n) σ H) ⟨Γ, M1, h0, F1, g1, b.mono e1⟩ (fun n σ2 H2 hn ⟨Γ', M', hJ, F2, g2, b2⟩ => ?_) (fun σ2 H2 ⟨Γ', M', hJ, at2⟩ => hd Γ' M' hJ _ _ at2)⟩
  refine hs n (by omega) Γ' M' hJ _ _ ⟨F2, g2, b2.set i ?_⟩
  have e0 : (0 : Int) + (n : Int) = (n : Int) := Int.zero_add _
  rw [e0]
  exact .int _
theorem go_forR2 {tr : TA} {lo z : Int} {i : Nat} (h : EvA tr Γ M [D K (.int lo), D K (.int z)] M1) (hz : z ≤ 1000000 ∧ -1000000 ≤ z ∧ lo ≤ 1000000 ∧ -1000000 ≤ lo) (J : Nat → Gm → Ms → Prop) (h0 : J 0 Γ M1)
    (hs : ∀ n : Nat, lo + (n : Int) < z → ∀ Γ' M', J n Γ' M' → Nx E (Γ'.set i (some (D K (.int (lo + n))))) M' (tu { D1 with nx := JA E (J (n + 1)), ct := JA E (J (n + 1)), bk := D1.nx }))
    (hd : ∀ Γ' M', J (z - lo).toNat Γ' M' → Nx E Γ' M' D1.nx) : Nx E Γ M (tFor (iRng2 tr) (gName i) tu D1) := fun σ H ⟨F, a, b⟩ => h E F σ H a b _ fun vs F1 H1 e1 g1 p => by
  obtain ⟨v, w, rfl, hv, hw⟩ := ps2 p
  cases dp_int hv; cases dp_int hw
  refine ⟨lo, z, rfl, ⟨by omega, by omega, by omega, by omega⟩, for_range (lo := lo) (n := (z - lo).toNat) (fun n σ H => JA E (J n) σ H) ⟨Γ, M1, h0, F1, g1, b.mono e1⟩ (fun n σ2 H2 hn ⟨Γ', M', hJ, F2, g2, b2⟩ => ?_) (fun σ2 H2 ⟨Γ', M', hJ, at2⟩ => hd Γ' M' hJ _ _ at2)⟩
  exact hs n (by omega) Γ' M' hJ _ _ ⟨F2, g2, b2.set i (P := D K (.int (lo + n))) (.int _)⟩
theorem go_while (J : Nat → Gm → Ms → Prop) (m0 : Nat) (h0 : J m0 Γ M)
    (hs : ∀ m Γ' M', J m Γ' M' → ∃ B M1, EvT t Γ' M' B M1 ∧ (B true → Nx E Γ' M1 (tu { D1 with nx := JA E (fun Γ M => ∃ m', m' < m ∧ J m' Γ M), ct := JA E (fun Γ M => ∃ m', m' < m ∧ J m' Γ M), bk := D1.nx })) ∧ (B false → Nx E Γ' M1 D1.nx)) : Nx E Γ M (tWhile t tu D1) := fun σ H a =>
  ⟨fun m σ H => JA E (J m) σ H, ⟨m0, Γ, M, h0, a⟩, fun m σ2 H2 ⟨Γ', M', hJ, F2, g2, b2⟩ => by
    obtain ⟨B, M1, hb, h1, h2⟩ := hs m Γ' M' hJ
    refine hb E F2 σ2 H2 g2 b2 _ fun z F3 H3 e3 g3 hz => ?_
    cases z with
    | true => exact ⟨JA E (fun Γ M => ∃ m', m' < m ∧ J m' Γ M), fun σ4 H4 ⟨Γ4, M4, ⟨m', hm, hJ4⟩, a4⟩ => ⟨m', hm, Γ4, M4, hJ4, a4⟩, h1 hz σ2 H3 ⟨F3, g3, b2.mono e3⟩⟩
    | false => exact h2 hz σ2 H3 ⟨F3, g3, b2.mono e3⟩⟩
/-! ### comprehensions -/
theorem wipe_one {σ : St} {i : Nat} {x : V} : wipe ((wipe σ [i]).set i (some x)) [i] = wipe σ [i] := by
  show ((σ.set i none).set i (some x)).set i none = σ.set i none
  rw [List.set_set, List.set_set]
theorem env_wipe {i : Nat} (h : EnvOk F σ Γ) : EnvOk F (wipe σ [i]) (Γ.set i none) := h.forget i
/-- one turn of a comprehension -/
theorem lc_turn {Γ2 : Gm} {σ2 : St} {D2 : Addr} {ps : List MP} {b : Bool} {F1 H1 : Hp} (g1 : Pt E F1 ((D2, ML ps) :: M) H1) (bo : EnvOk F1 σ2 Γ2) (ht : EvT t Γ2 M (· = b) M) (he : b = true → Ev te Γ2 M P M) (hz : ps.length < 100000) (Nxt : Hp → Prop)
    (hN : ∀ F2 H2, Ex F1 F2 → Pt E F2 ((D2, ML (if b = true then ps ++ [P] else ps)) :: M) H2 → Nxt H2) : t σ2 H1 fun c H3 => if c = true then te σ2 H3 fun y H4 => ∃ acc, H4 D2 = some (.lst acc) ∧ acc.length < sizeLine ∧ Nxt (upd H4 D2 (.lst (acc ++ [y]))) else Nxt H3 := by
  have gM : Pt ⟨F1, H1, keys M⟩ F1 M H1 := Pt.start (g1.drop (List.sublist_cons_self _ _)).wd
  have nk : D2 ∉ keys M := (List.nodup_cons.mp (show (D2 :: keys M).Nodup from g1.wd.nd)).1
  obtain ⟨fD, o, hD, ws, rfl, s⟩ := g1.at (j := 0) rfl
  -- a point of M alone, the list beside it
  have up : ∀ {F' H'}, Pt ⟨F1, H1, keys M⟩ F' M H' → Pt E F' ((D2, ML ps) :: M) H' := fun {F' H'} g => by
    have hh : F' D2 = none := g.gr.off D2 fD (show H1 D2 ≠ none by rw [hD]; exact fun z => by cases z) (fun xs z => by have z : H1 D2 = some (HO.tup xs) := z; rw [hD] at z; cases z)
    have hd : H' D2 = some (.lst ws) := g.gr.keep D2 _ nk hD
    have big : Pt ⟨F1, H1, keys ((D2, ML ps) :: M)⟩ F' ((D2, ML ps) :: M) H' := by
      refine ⟨⟨g.gr.ex, fun a u h1 h2 => g.gr.keep a u (fun z => h1 (List.mem_cons_of_mem _ z)) h2, g.gr.off, g.gr.stay, g.gr.nott⟩, ⟨g.wd.ex, List.nodup_cons.mpr ⟨nk, g.wd.nd⟩, fun r hr => ?_⟩, fun r hr => ?_⟩
      · rcases List.mem_cons.mp hr with e | hm
        · subst e; exact ⟨hh, _, hd, ws, rfl, s.mono g.gr.ex⟩
        · exact g.wd.own r hm
      · rcases List.mem_cons.mp hr with e | hm
        · subst e; exact .inl List.mem_cons_self
        · rcases g.fr r hm with z | z
          · exact .inl (List.mem_cons_of_mem _ z)
          · exact .inr z
    exact g1.back big
  refine ht _ F1 σ2 H1 gM bo _ fun c F3 H3 e3 g3 hc => ?_
  subst hc
  cases c with
  | true =>
    refine he rfl _ F3 σ2 H3 g3 (bo.mono e3) _ fun y F4 H4 e4 g4 p4 => ?_
    have g5 := up g4
    obtain ⟨_, o5, h5, ws5, rfl, s5⟩ := g5.at (j := 0) rfl
    refine ⟨ws5, h5, sz_lt (by rw [paired_len s5]; exact hz), ?_⟩
    exact hN F4 _ (e3.trans e4) (g5.mut (j := 0) (O' := ML (ps ++ [P])) rfl ⟨_, rfl, paired_app s5 (.cons p4 .nil)⟩)
  | false => exact hN F3 _ e3 (up g3)
theorem take_filter {α : Type} (xs : List α) (f : α → Bool) (n : Nat) (x : α) (h : xs[n]? = some x) : (xs.take (n + 1)).filter f = (xs.take n).filter f ++ (if f x = true then [x] else []) := by
  rw [List.take_add_one, h, List.filter_append]
  congr 1
  cases hf : f x <;> simp [hf]
theorem evn_lcL {α : Type} {xs : List α} {R G : α → MP} {i : Nat} (f : α → Bool) (h : Ev tl Γ M (PLi K (xs.map R)) M1) (hz : xs.length ≤ 50000)
    (ht : ∀ x ∈ xs, EvT t ((Γ.set i none).set i (some (R x))) M1 (· = f x) M1) (he : ∀ x ∈ xs, f x = true → Ev te ((Γ.set i none).set i (some (R x))) M1 (G x) M1) :
    EvN (tLc (iList K tl) (gName i) t te [i]) Γ M (ML ((xs.filter f).map G)) M1 := fun E F σ H a b Q k => h E F σ H a b _ fun v F1 H1 e1 g1 ⟨p, vs, hp, s, q⟩ => by
  refine ⟨p, hp, ⟨vs, Evl.ex_l g1.ex s⟩, fun D2 hD => ?_⟩
  have gn : Pt ⟨F1, H1, keys M1⟩ F1 ((D2, ML []) :: M1) (upd H1 D2 (.lst [])) := g1.enter.new hD ⟨[], rfl, .nil⟩
  refine lc_list (xs := vs) (fun n H' => ∃ F', Pt ⟨F1, H1, keys M1⟩ F' ((D2, ML (((xs.take n).filter f).map G)) :: M1) H') ⟨F1, gn⟩ (fun n H2 _ ⟨F2, g2⟩ => Evl.ex_l (g2.gr.ex.trans g2.ex) s) (fun n x H2 hx ⟨F2, g2⟩ => ⟨wipe_one, ?_⟩) (fun H2 ⟨F2, g2⟩ => ?_)
  · obtain ⟨P, hP, hx2⟩ := paired_get' q hx
    rw [List.getElem?_map] at hP
    cases hy : xs[n]? with
    | none => rw [hy] at hP; cases hP
    | some y =>
      rw [hy] at hP
      have hP : R y = P := Option.some.inj hP
      subst hP
      have hm := List.mem_of_getElem? hy
      refine lc_turn g2 ((env_wipe (b.mono (e1.trans g2.gr.ex))).set i ((R y).mono g2.gr.ex hx2)) (ht y hm) (he y hm) ?_ _ fun F3 H3 e3 g3 => ⟨F3, ?_⟩
      · rw [List.length_map]
        exact Nat.lt_of_le_of_lt (Nat.le_trans (List.length_filter_le _ _) (by rw [List.length_take]; omega)) (by omega : xs.length < 100000)
      · rw [take_filter xs f n y hy, List.map_append]
        cases hf : f y
        · rw [hf] at g3; simpa using g3
        · rw [hf] at g3; simpa using g3
  · rw [paired_len q, List.length_map, List.take_length] at g2
    exact k D2 F2 H2 (g1.fresh hD) (e1.trans g2.gr.ex) (g1.back g2)
theorem evn_lcT {α : Type} {xs : List α} {R G : α → MP} {i : Nat} (f : α → Bool) (h : Ev tl Γ M (PTu K (xs.map R)) M1) (hz : xs.length ≤ 50000)
    (ht : ∀ x ∈ xs, EvT t ((Γ.set i none).set i (some (R x))) M1 (· = f x) M1) (he : ∀ x ∈ xs, f x = true → Ev te ((Γ.set i none).set i (some (R x))) M1 (G x) M1) :
    EvN (tLc (iTup K tl) (gName i) t te [i]) Γ M (ML ((xs.filter f).map G)) M1 := fun E F σ H a b Q k => h E F σ H a b _ fun v F1 H1 e1 g1 ⟨p, vs, hp, s, q⟩ => by
  refine ⟨p, hp, ⟨vs, Evl.ex_t g1.ex s⟩, fun D2 hD => ?_⟩
  have gn : Pt ⟨F1, H1, keys M1⟩ F1 ((D2, ML []) :: M1) (upd H1 D2 (.lst [])) := g1.enter.new hD ⟨[], rfl, .nil⟩
  refine lc_tup (xs := vs) (fun n H' => ∃ F', Pt ⟨F1, H1, keys M1⟩ F' ((D2, ML (((xs.take n).filter f).map G)) :: M1) H') ⟨F1, gn⟩ (fun n H2 _ ⟨F2, g2⟩ => Evl.ex_t (g2.gr.ex.trans g2.ex) s) (fun n x H2 hx ⟨F2, g2⟩ => ⟨wipe_one, ?_⟩) (fun H2 ⟨F2, g2⟩ => ?_)
  · obtain ⟨P, hP, hx2⟩ := paired_get' q hx
    rw [List.getElem?_map] at hP
    cases hy : xs[n]? with
    | none => rw [hy] at hP; cases hP
    | some y =>
      rw [hy] at hP
      have hP : R y = P := Option.some.inj hP
      subst hP
      have hm := List.mem_of_getElem? hy
      refine lc_turn g2 ((env_wipe (b.mono (e1.trans g2.gr.ex))).set i ((R y).mono g2.gr.ex hx2)) (ht y hm) (he y hm) ?_ _ fun F3 H3 e3 g3 => ⟨F3, ?_⟩
      · rw [List.length_map]
        exact Nat.lt_of_le_of_lt (Nat.le_trans (List.length_filter_le _ _) (by rw [List.length_take]; omega)) (by omega : xs.length < 100000)
      · rw [take_filter xs f n y hy, List.map_append]
        cases hf : f y
        · rw [hf] at g3; simpa using g3
        · rw [hf] at g3; simpa using g3
  · rw [paired_len q, List.length_map, List.take_length] at g2
    exact k D2 F2 H2 (g1.fresh hD) (e1.trans g2.gr.ex) (g1.back g2)
theorem evn_lcR {tr : TA} {z : Int} {i : Nat} {G : Nat → MP} (f : Nat → Bool) (h : EvA tr Γ M [D K (.int z)] M1) (hz : z ≤ 50000 ∧ -50000 ≤ z)
    (ht : ∀ x : Nat, (x : Int) < z → EvT t ((Γ.set i none).set i (some (D K (.int x)))) M1 (· = f x) M1) (he : ∀ x : Nat, (x : Int) < z → f x = true → Ev te ((Γ.set i none).set i (some (D K (.int x)))) M1 (G x) M1) :
    EvN (tLc (iRng1 tr) (gName i) t te [i]) Γ M (ML (((List.range z.toNat).filter f).map G)) M1 := fun E F σ H a b Q k => h E F σ H a b _ fun vs F1 H1 e1 g1 p => by
  obtain ⟨v, rfl, hv⟩ := ps1 p
  cases dp_int hv
  refine ⟨z, rfl, by omega, by omega, fun D2 hD => ?_⟩
  have gn : Pt ⟨F1, H1, keys M1⟩ F1 ((D2, ML []) :: M1) (upd H1 D2 (.lst [])) := g1.enter.new hD ⟨[], rfl, .nil⟩
  refine lc_range (lo := 0) (n := z.toNat) (fun n H' => ∃ F', Pt ⟨F1, H1, keys M1⟩ F' ((D2, ML (((List.range n).filter f).map G)) :: M1) H') ⟨F1, gn⟩ (fun n H2 hn ⟨F2, g2⟩ => ⟨wipe_one, ?_⟩) (fun H2 ⟨F2, g2⟩ => ?_)
  · have e0 : (0 : Int) + (n : Int) = (n : Int) := Int.zero_add _
    rw [e0]
    have hn2 : (n : Int) < z := by omega
    refine lc_turn g2 ((env_wipe (b.mono (e1.trans g2.gr.ex))).set i (P := D K (.int n)) (.int _)) (ht n hn2) (he n hn2) ?_ _ fun F3 H3 e3 g3 => ⟨F3, ?_⟩
    · rw [List.length_map]
      exact Nat.lt_of_le_of_lt (List.length_filter_le _ _) (by rw [List.length_range]; omega)
    · rw [List.range_succ, List.filter_append, List.map_append]
      cases hf : f n
      · rw [hf] at g3; simpa [hf] using g3
      · rw [hf] at g3; simpa [hf] using g3
  · exact k D2 F2 H2 (g1.fresh hD) (e1.trans g2.gr.ex) (g1.back g2)
theorem et_yes : EvT tYes Γ M (· = true) M := fun E F σ H a b Q k => k true F H (Evl.Ex.refl _) a rfl
end
end Hq
/-! set(x) of a list of ints, told with the order of its table -/
namespace Hq
open PySem PySem.Spec PyProof.Rows L2
/-- the set as it is made -/
abbrev bareSet (w : World) : Obj := { cls := .type "set", dict := none, data := .set #[] 0 (.fresh 0 0 (!w.params.followText "set-order")) }
section
variable {P : Program} {w : World} {A : Around} {E : Value → Shared → Prop} {s : Shared}
set_option maxHeartbeats 3200000 in
theorem setL_call {l : Addr} {its : Array Value} (ns : List Int) {Q : Value → Shared → Prop} (calm : A.handled = none) (hl : s.heap.IsList l its) (hn : IntsAre its.toList ns) (few : ns.length + 1 < scanBound)
    (fin : ∀ (g : Heap) (tk c : Nat), SetR w g s.heap.objs.size (fun j => decide (j ∈ ns)) c → c ≤ ns.length → (∀ b o, s.heap.get? b = some o → g.get? b = some o) → Q (.ref s.heap.objs.size) { s with heap := g, toks := tk }) :
    wpAny (model P w) A (call (.type "set") [.ref l]) Q E s := by
  have same : its.size = ns.length := by simpa using IntsAre.length hn
  obtain ⟨c0, r0, walk0⟩ := F.called_set.mro
  have fact1 := F.called_set.made; have fact2 := F.called_set.sub
  apply wpAny_call; apply codeAny_of_tree
  show wpAny _ _ (callAny (.type "set") ⟨_, _⟩) _ _ _
  apply wpAny_pure; refine ⟨Code.quiet_builtin _ (by decide +kernel), ?_⟩; apply codeAny_builtin F.entry_type_call
  rw [show _ = _ from Around.under_plain (weight_type_call_type "set" [Value.ref l] []) rfl]
  have fact3 := F.called_set.notType; have fact4 := F.called_set.canCreate
  have fact5 := F.typeCall_set_1 (Value.ref l)
  repeat any_goals (first | assumption | wp_step)
  apply codeAny_mono (code_set_led1 (P := P) (w := w) (s := s) (.ref l) (E := E) (Q₁ := fun v z => v = .ref s.heap.objs.size ∧ z = { s with heap := s.heap.push (bareSet w) }) ⟨rfl, rfl⟩)
  intro res z hz
  match res, hz with
  | .error _, hz => exact hz
  | .ok fl, hz => ?_
  cases fl with
  | ret v =>
    obtain ⟨rfl, rfl⟩ := hz
    have at0 : (s.heap.push (bareSet w)).get? s.heap.objs.size = some (bareSet w) := Heap.get?_push_size _ rfl
    have ty0 : Shared.TypeIs { s with heap := s.heap.push (bareSet w) } (.ref s.heap.objs.size) "set" := ⟨bareSet w, at0, rfl⟩
    have fact6 := F.called_set.init.lookup
    have fact7 := F.called_set.init.bind (Value.ref s.heap.objs.size)
    repeat any_goals (first | assumption | wp_step)
    apply codeAny_mono (codeAny_call_builtin (R := wants (fun v z => v = Value.none ∧ ∃ g tk c, z = { s with heap := g, toks := tk } ∧ SetR w g s.heap.objs.size (fun j => decide (j ∈ ns)) c ∧ c ≤ ns.length ∧
      ∀ b o, s.heap.get? b = some o → g.get? b = some o) E) F.called_set.init.plain F.entry_set_init (check_set_init_1 ty0 ?first))
    case first =>
      obtain ⟨ob, hob, hcls, cnt, hdat⟩ := hl
      obtain ⟨k1, k2, k3, k4⟩ := ob
      dsimp only at hcls hdat; subst hcls hdat
      have at1 : (s.heap.push (bareSet w)).get? l = some ⟨.type "list", k2, .seq its cnt, k4⟩ := Heap.get?_push_of_some _ hob
      have n1 := F.sub_list_set; have n2 := F.sub_list_frozenset
      have n3 : (Value.type "list" == Value.type "dict") = false := by decide
      have l1 : (s.heap.push (bareSet w)).IsList l its := ⟨_, at1, rfl, cnt, rfl⟩
      unfold Builtin.«set.__init__» Builtin.Frozenset.updateFrom noKeywords
      generalize iter_is : pyIter = walkers
      wp_walk
      subst iter_is
      apply wpAny_pyIter_list l1
      apply wpAny_bind; apply wpAny_runValue
      have lt0 : l < s.heap.objs.size := Heap.lt_size hob
      have sz1 : (s.heap.push (bareSet w)).objs.size = s.heap.objs.size + 1 := Heap.size_push ..
      have off1 : l ≠ (s.heap.push (bareSet w)).objs.size := by rw [sz1]; exact Nat.ne_of_lt (Nat.lt_succ_of_lt lt0)
      have off2 : s.heap.objs.size ∉ [(s.heap.push (bareSet w)).objs.size, l] := by
        rw [sz1]; intro m
        rcases List.mem_cons.mp m with e | m
        · exact Nat.ne_of_lt (Nat.lt_succ_self _) e
        · exact Nat.ne_of_gt lt0 (List.mem_singleton.mp m)
      have vals : ∀ (i : Nat) (v : Value), its[i]? = some v → ∃ k t, ns[i]? = some k ∧ v = .int k t := by
        intro i v hv
        obtain ⟨h1, h2⟩ := Array.getElem?_eq_some_iff.mp hv
        have h3 : i < ns.length := same ▸ h1
        obtain ⟨t, e⟩ := IntsAre.int_at hn i v (by simpa using hv)
        refine ⟨ns[i], t, List.getElem?_eq_getElem h3, e.trans ?_⟩
        rw [List.getD_eq_getElem?_getD, List.getElem?_eq_getElem h3]; rfl
      apply set_update_ints ((Walks.list (show A.in1.in1.in1.handled = none by simp [calm]) _ l off1 its).toS) s.heap.objs.size off2 ns same few vals (its.size - 0) 0 _ (by omega) (Nat.zero_le _)
        ⟨⟨_, Heap.get?_push_size _ rfl, rfl, rfl⟩, l1.push _⟩
      · exact ⟨0, Nat.le_refl 0, setR_new_at (Heap.get?_push_of_some _ at0)⟩
      · rintro ⟨g, g2, g3, g4, g5⟩ c moved hc hS
        obtain rfl : g2 = s.gens := moved.gens
        obtain rfl : g3 = s.drawn := moved.drawn
        obtain rfl : g5 = s.os := moved.os
        show wpAny _ _ (pure _) _ _ _
        apply wpAny_pure
        show wpAny _ _ (ret Value.none) _ _ _
        refine wpAny_pure ⟨rfl, g, g4, c, rfl, hS, same ▸ hc, fun b o e => ?_⟩
        have lt1 : b < s.heap.objs.size := Heap.lt_size e
        refine moved.heap b o (fun m => ?_) (Heap.get?_push_of_some _ (Heap.get?_push_of_some _ e))
        rcases List.mem_cons.mp m with e | m
        · exact Nat.ne_of_lt lt1 e
        · rw [sz1] at m; exact Nat.ne_of_lt (Nat.lt_succ_of_lt lt1) (List.mem_singleton.mp m)
    · intro res z hz
      match res, hz with
      | .error _, hz => exact hz
      | .ok fl, hz => ?_
      cases fl with
      | ret v =>
        obtain ⟨rfl, g, tk, c, rfl, hS, hc, stood⟩ := hz
        repeat any_goals (first | assumption | wp_step)
        exact fin g tk c hS hc stood
      | _ => exact hz.elim
  | _ => exact hz.elim
end
end Hq
namespace Hq
open PySem L2
/-! ### promises -/
def Prom (ps : List MP) (M : Ms) (P : MP) (M' : Ms) (vs : List V) (H : Hp) (Q : VK) : Prop := ∃ F, Wd F M H ∧ Ps F vs ps ∧ Rt ⟨F, H, keys M⟩ M' P Q
section
variable {K : PySem.W.Frag} {E E' : Ent} {F F' H H' : Hp} {M M' Mc Mc' M1 M2 M3 : Ms} {Γ Γ' : Gm} {P P' P1 P2 : MP} {O O' : MO} {q : Addr} {σ : St} {o o' : HO} {j : Nat}
variable {te ta tb tc tl : TE} {t u : TT} {r : R2} {D1 : Ends} {tu tw : TS} {ps : List MP} {sp : Sp} {X : XK} {tr : TA} {C : Addr} {fps : List (Str × MP)}
theorem Pt.frame {ks : List Addr} (h : Pt E F M H) (g : Pt ⟨F, H, ks⟩ F' Mc H') (hk : ∀ a ∈ ks, a ∈ keys M) (hM : keys M' = keys M) (hr : ∀ r ∈ M', (r.1 ∉ ks ∧ r ∈ M) ∨ r ∈ Mc) : Pt E F' M' H' := by
  refine h.back ⟨⟨g.gr.ex, fun a u h1 h2 => g.gr.keep a u (fun z => h1 (hk a z)) h2, g.gr.off, g.gr.stay, g.gr.nott⟩, ⟨g.wd.ex, by rw [hM]; exact h.wd.nd, fun r hm => ?_⟩, fun r hm => .inl ?_⟩
  · rcases hr r hm with ⟨n, hm2⟩ | hm2
    · obtain ⟨a, u, hu, b⟩ := h.wd.own r hm2
      exact ⟨g.gr.off _ a (show H r.1 ≠ none by rw [hu]; exact fun z => by cases z) (fun xs z => r.2.nt b xs (by have z : H r.1 = some (HO.tup xs) := z; rw [hu] at z; exact Option.some.inj z)), u, g.gr.keep _ _ n hu, r.2.mono g.gr.ex b⟩
    · exact g.wd.own r hm2
  · show r.1 ∈ keys M
    rw [← hM]
    exact List.mem_map_of_mem (f := (·.1)) hm
theorem set_same {α : Type} {l : List α} {j : Nat} {x : α} (e : l[j]? = some x) : l.set j x = l := by
  obtain ⟨h, e⟩ := List.getElem?_eq_some_iff.mp e
  rw [← e, List.set_getElem_self]
theorem rc_prom0 {dvs : List V} (hs : ∀ vs H Q, Prom ps [] P [] vs H Q → sp (vs ++ dvs) H Q X) : RC (fun vs H Q => sp (vs ++ dvs) H Q X) ps M P M := fun E F H vs a p Q k =>
  hs vs H Q ⟨F, ⟨a.ex, List.nodup_nil, fun r hr => by cases hr⟩, p, fun v F' H' g hp => k v F' H' g.gr.ex (a.frame g (fun _ z => by cases z) rfl fun r hr => .inl ⟨by simp [keys], hr⟩) hp⟩
theorem rc_prom1 {dvs : List V} (e : M[j]? = some (q, O)) (hs : ∀ vs H Q, Prom ps [(q, O)] P [(q, O')] vs H Q → sp (vs ++ dvs) H Q X) : RC (fun vs H Q => sp (vs ++ dvs) H Q X) ps M P (M.set j (q, O')) := fun E F H vs a p Q k => by
  have hm := List.mem_of_getElem? e
  refine hs vs H Q ⟨F, ⟨a.ex, by simp [keys], fun r hr => ?_⟩, p, fun v F' H' g hp => k v F' H' g.gr.ex (a.frame g (fun z hz => ?_) (keys_set e) fun r hr => ?_) hp⟩
  · rw [List.mem_singleton.mp hr]; exact a.wd.own _ hm
  · rw [List.mem_singleton.mp hz]; exact List.mem_map_of_mem (f := (·.1)) hm
  · rcases mem_set_ne a.wd.nd e r hr with z | ⟨z, n⟩
    · rw [z]; exact .inr List.mem_cons_self
    · exact .inl ⟨fun w => n (List.mem_singleton.mp w), z⟩
theorem rc_prom1s {dvs : List V} (e : M[j]? = some (q, O)) (hs : ∀ vs H Q, Prom ps [(q, O)] P [(q, O)] vs H Q → sp (vs ++ dvs) H Q X) : RC (fun vs H Q => sp (vs ++ dvs) H Q X) ps M P M := by
  have := rc_prom1 (O' := O) e hs
  rw [set_same e] at this
  exact this
/-- calls -/
theorem ev_call0 (h : EvA tr Γ M ps M1) (hs : ∀ vs H Q, Prom ps [] P [] vs H Q → sp (vs ++ []) H Q X) : Ev (tCall sp [] X tr) Γ M P M1 := ev_call h (rc_prom0 hs)
theorem ev_call1 (h : EvA tr Γ M ps M1) (e : M1[j]? = some (q, O)) (hs : ∀ vs H Q, Prom ps [(q, O)] P [(q, O)] vs H Q → sp (vs ++ []) H Q X) : Ev (tCall sp [] X tr) Γ M P M1 := ev_call h (rc_prom1s e hs)
/-- the beginning of a def -/
theorem go_start {N : List Str} {vs : List V} {f : St → Hp → Prop} (w : Wd F M H) (p : Ps F vs ps) (hΓ : Γ = ps.map some ++ List.replicate (N.length - ps.length) none) (h : Nx ⟨F, H, keys M⟩ Γ M f) : f (L2.start N vs) H := by
  refine h _ _ ⟨F, Pt.start w, ?_⟩
  subst hΓ
  unfold L2.start
  rw [paired_len p]
  have base : ∀ {vs : List V} {ps : List MP}, Ps F vs ps → EnvOk F (vs.map some) (ps.map some) := by
    intro vs ps p
    induction p with
    | nil => exact .nil
    | cons a t ih => exact .cons (fun Q hQ => by cases hQ; exact ⟨_, rfl, a⟩) ih
  refine paired_app (base p) ?_
  · generalize N.length - ps.length = n
    induction n with
    | zero => exact .nil
    | succ n ih => exact .cons (fun Q hQ => by cases hQ) ih
theorem nx_exM {α : Type} {R : α → MO} {f} (e : M[j]? = some (q, MX R)) (h : ∀ x, Nx E Γ (M.set j (q, R x)) f) : Nx E Γ M f := by
  rintro σ H ⟨F, a, b⟩
  obtain ⟨fq, u, hu, x, hx⟩ := a.at e
  refine h x σ H ⟨F, ?_, b⟩
  have g := a.mut (o' := u) (O' := R x) e hx
  have e2 : upd H q u = H := by
    funext z
    by_cases y : z = q
    · subst y; rw [upd_same, hu]
    · rw [upd_ne y]
  rw [e2] at g
  exact g
theorem nx_anM {φ : Prop} {R : MO} {f} (e : M[j]? = some (q, MA φ R)) (h : φ → Nx E Γ (M.set j (q, R)) f) : Nx E Γ M f := by
  rintro σ H ⟨F, a, b⟩
  obtain ⟨fq, u, hu, hx⟩ := a.at e
  exact h hx.1 σ H ⟨F, a.to (O := MA φ R) (O' := R) (fun _ _ z => z.2) e, b⟩
theorem Rt.to {f : VK} (h : Rt E M' P f) (e : M[j]? = some (q, O)) (l : ∀ F o, O.p F o → O'.p F o) (hM : M' = M.set j (q, O')) : Rt E M P f := fun v F H a p => h v F H (by rw [hM]; exact a.to l e) p
/-- xs.pop() -/
theorem ev_pop (ho : Ev ta Γ M (Own q) M) (e : M[j]? = some (q, ML ps)) (hp : ps[ps.length - 1]? = some P) : Ev (tBM0 K "list" rPop ta) Γ M P (M.set j (q, ML ps.dropLast)) := fun E F σ H a b Q k => ho E F σ H a b _ fun v F1 H1 e1 g1 p1 => by
  have p1 : v = .ref q := p1
  subst p1
  obtain ⟨_, o, ho1, ws, rfl, s⟩ := g1.at e
  obtain ⟨x, hx, px⟩ := paired_get s hp
  refine ⟨.inl ⟨rfl, ws, SqL.of ho1⟩, q, ws, x, rfl, rfl, ho1, by rw [paired_len s]; exact hx, ?_⟩
  have sd : ∀ {ws : List V} {ps : List MP}, Ps F1 ws ps → Ps F1 ws.dropLast ps.dropLast := by
    intro ws ps s
    induction s with
    | nil => exact .nil
    | cons a t ih =>
      cases t with
      | nil => exact .nil
      | cons a2 t2 => exact .cons a ih
  exact k x F1 _ e1 (g1.mut e ⟨_, rfl, sd s⟩) px
/-! ### instances -/
def PIns (C : Addr) (fps : List (Str × MP)) : MP := ⟨fun F v => ∃ a dx fs, v = .ref a ∧ F a = some (.ins C dx fs) ∧ ∀ f ∈ fps, ∃ x, fs.lookup f.1 = some x ∧ f.2.p F x,
  fun e ⟨a, dx, fs, h1, h2, h3⟩ => ⟨a, dx, fs, h1, e _ _ h2, fun f hf => let ⟨x, y, z⟩ := h3 f hf; ⟨x, y, f.2.mono e z⟩⟩⟩
def MIns (C : Addr) (n : Nat) (fps : List (Str × MP)) : MO := ⟨fun F o => ∃ dx fs, o = .ins C dx fs ∧ fs.length ≤ n ∧ ∀ f ∈ fps, ∃ x, fs.lookup f.1 = some x ∧ f.2.p F x,
  fun e ⟨dx, fs, h1, h2, h3⟩ => ⟨dx, fs, h1, h2, fun f hf => let ⟨x, y, z⟩ := h3 f hf; ⟨x, y, f.2.mono e z⟩⟩, fun ⟨dx, fs, h, _⟩ xs z => by rw [h] at z; cases z⟩
theorem fr_Ins {n : Nat} : (Fr (MIns C n fps)).le (PIns C fps) := fun F v ⟨q, o, a, b, dx, fs, e, h⟩ => by subst e; exact ⟨q, dx, fs, a, b, h.2⟩
theorem ev_fld {f : Str} (h : Ev ta Γ M (PIns C fps) M1) (hf : (f, P) ∈ fps) (hc : Cls K C) (hn : NoAttr K C f) : Ev (tFld K ta f) Γ M P M1 := fun E F σ H a b Q k => h E F σ H a b _ fun v F1 H1 e1 g1 ⟨p, dx, fs, h1, h2, h3⟩ => by
  obtain ⟨x, hx, px⟩ := h3 _ hf
  exact ⟨p, C, dx, fs, x, h1, g1.ex _ _ h2, hc, hn, hx, k x F1 H1 e1 g1 px⟩
theorem putF_le (f : Str) (v : V) : ∀ fs : List (Str × V), (putF f v fs).length ≤ fs.length + 1
  | [] => Nat.le_refl _
  | (g, x) :: r => by
    unfold putF
    split
    · exact Nat.le_succ _
    · exact Nat.succ_le_succ (putF_le f v r)
theorem go_fld {f : Str} {n : Nat} (hv : Ev tb Γ M P M1) (ho : Ev ta Γ M1 (Own q) M1) (e : M1[j]? = some (q, MIns C n fps)) (hz : n < 999) (hf : ∀ g ∈ fps, g.1 ≠ f) (hc : Cls K C) (hn : NoAttr K C f) (k : Nx E Γ (M1.set j (q, MIns C (n + 1) ((f, P) :: fps))) D1.nx) :
    Nx E Γ M (sFld K ta tb f D1) := fun σ H ⟨F, a, b⟩ => hv E F σ H a b _ fun y F1 H1 e1 g1 p1 => ho E F1 σ H1 g1 (b.mono e1) _ fun v F2 H2 e2 g2 p2 => by
  have p2 : v = .ref q := p2
  subst p2
  obtain ⟨_, o, ho1, dx, fs, rfl, hl, h3⟩ := g2.at e
  refine ⟨q, C, dx, fs, rfl, ho1, hc, hn, by omega, ?_⟩
  refine k _ _ ⟨F2, g2.mut e ⟨dx, _, rfl, Nat.le_trans (putF_le f y fs) (by omega), fun g hg => ?_⟩, b.mono (e1.trans e2)⟩
  rcases List.mem_cons.mp hg with z | z
  · subst z
    exact ⟨y, by rw [lookup_putF, if_pos rfl], P.mono e2 p1⟩
  · obtain ⟨x, hx, px⟩ := h3 g z
    exact ⟨x, by rw [lookup_putF, if_neg (hf g z)]; exact hx, px⟩
theorem Pt.junk (h : Pt E F M H) (hp : H q = none) : Pt E F M (upd H q o) := by
  have ne : ∀ {a u}, H a = some u → a ≠ q := fun e => ne_of_none e hp
  refine ⟨⟨h.gr.ex, fun a u h1 h2 => ?_, h.gr.off, fun a h1 => ?_, fun a h1 h2 => ?_⟩, ⟨h.wd.ex.trans (Evl.Ex.new hp), h.wd.nd, fun r hr => ?_⟩, h.fr⟩
  · have := h.gr.keep a u h1 h2
    rw [upd_ne (ne this)]; exact this
  · by_cases e : a = q
    · subst e; rw [upd_same]; exact fun z => by cases z
    · rw [upd_ne e]; exact h.gr.stay a h1
  · rw [upd_ne (fun e => h.gr.stay a h1 (by rw [e]; exact hp))]; exact h.gr.nott a h1 h2
  · obtain ⟨a, u, hu, b⟩ := h.wd.own r hr
    exact ⟨a, u, by rw [upd_ne (ne hu)]; exact hu, b⟩
theorem evn_make (h : EvA tr Γ M ps M1) (hs : ∀ x vs H Q, Prom (Own x :: ps) [(x, MIns C 0 [])] (D K .none) [(x, O)] vs H Q → sp (vs ++ []) H Q X) : EvN (tMake C sp [] X tr) Γ M O M1 := fun E F σ H a b Q k =>
  h E F σ H a b _ fun vs F1 H1 e1 g1 p1 => fun x dx hx hdx hne => by
    have hx2 : upd H1 dx (.own x) x = none := by rw [upd_ne hne.symm]; exact hx
    have g2 : Pt E F1 ((x, MIns C 0 []) :: M1) (upd (upd H1 dx (.own x)) x (.ins C dx [])) := (g1.junk hdx).new hx2 ⟨dx, [], rfl, Nat.le_refl _, fun f hf => by cases hf⟩
    refine hs x (.ref x :: vs) _ _ ⟨F1, ⟨g2.ex, by simp [keys], fun r hr => ?_⟩, .cons rfl p1, fun v F' H' g hv => ⟨dp_non hv, ?_⟩⟩
    · rw [List.mem_singleton.mp hr]; exact g2.wd.own _ List.mem_cons_self
    · refine k x F' H' (g1.fresh hx) (e1.trans g.gr.ex) (g2.frame g (fun z hz => ?_) rfl fun r hr => ?_)
      · rw [List.mem_singleton.mp hz]; exact List.mem_cons_self
      · rcases List.mem_cons.mp hr with z | z
        · rw [z]; exact .inr List.mem_cons_self
        · exact .inl ⟨fun w => (List.nodup_cons.mp (show (x :: keys M1).Nodup from g2.wd.nd)).1 (by rw [show x = r.1 from (List.mem_singleton.mp w).symm]; exact List.mem_map_of_mem (f := (·.1)) z), List.mem_cons_of_mem _ z⟩
/-! ### isinstance of data -/
def PV (v : V) : MP := ⟨fun _ x => x = v, fun _ h => h⟩
theorem ev_pv {v : V} : Ev (tC v) Γ M (PV v) M := ev_cv fun _ => rfl
def tyName : PyData → String
  | .none => "NoneType" | .bool _ => "bool" | .int _ => "int" | .str _ => "str" | .list _ => "list" | .tuple _ => "tuple" | .dict _ => "dict"
theorem sql_ty {a : Addr} {xs : List V} (h : SqL K H a xs) : TyX K H (.ref a) (.type "list") := by
  rcases h with (h | ⟨o, h⟩) | ⟨o, its, n, h1, h2, _⟩
  · exact .base (.lst h)
  · exact .base (.frz h)
  · exact .kList h1 h2
theorem sqt_ty {a : Addr} {xs : List V} (h : SqT K H a xs) : TyX K H (.ref a) (.type "tuple") := by
  rcases h with (h | ⟨o, h⟩) | ⟨o, its, n, h1, h2, _⟩
  · exact .base (.tup h)
  · exact .fTuple h
  · exact .kTuple h1 h2
theorem dp_ty {v : V} {d : PyData} (h : Dp K H v d) : TyX K H v (.type (tyName d)) := by
  cases h with
  | non => exact .base .non
  | bl b => exact .base (.bl b)
  | int i => exact .base (.int i)
  | str x => exact .base (.str x)
  | lst s _ => exact sql_ty s
  | tup s _ => exact sqt_ty s
theorem rc_isi {d : PyData} {T : String} {b : Bool} (hb : kitB (tyName d) T = some b) : RC (rIsi K) [D K d, PV (.ty T)] M (D K (.bool b)) M := fun E F H vs a h Q k => by
  obtain ⟨v, w, rfl, hv, hw⟩ := ps2 h
  have hw : w = .ty T := hw
  subst hw
  exact ⟨v, .ty T, .type (tyName d), .type T, b, rfl, .ty T, dp_ty (Dp.mono a.ex hv), kit_ty hb, k _ F H (Evl.Ex.refl _) a (.bl b)⟩
/-! ### sorted -/
theorem ints_map {ns : List Int} {vs : List V} (h : Ps F vs (ns.map fun n => D K (.int n))) : vs = ns.map V.int := by
  have := ps_all (K := K) (ds := ns.map PyData.int) (by rw [List.map_map]; exact h)
  exact flat_ints this
theorem map_ints (ns : List Int) : Ps F (ns.map V.int) (ns.map fun n => D K (.int n)) := by
  induction ns with
  | nil => exact .nil
  | cons n ns ih => exact .cons (.int n) ih
abbrev MInts (K : PySem.W.Frag) (ns : List Int) : MO := ML (ns.map fun n => D K (.int n))
theorem rcn_sortedI {ns : List Int} : RCN (rSortedI K) [PLi K (ns.map fun n => D K (.int n))] M (MX fun ns' : List Int => MA (ns'.Perm ns ∧ ns'.Pairwise (· ≤ ·)) (MInts K ns')) M := fun E F H vs a h Q k => by
  obtain ⟨v, rfl, b, ws, rfl, s, p⟩ := ps1 h
  cases ints_map p
  exact ⟨b, ns, rfl, Evl.ex_l a.ex s, fun ns' l h1 h2 hl => k l F _ (a.fresh hl) (Evl.Ex.refl _) (a.new hl ⟨ns', ⟨h1, h2⟩, _, rfl, map_ints ns'⟩)⟩
/-- set(x): a list or tuple of ints -/
def rSetI (K : PySem.W.Frag) (w : World) : List V → Hp → VK → Prop := fun xs H Q => ∃ (a : Addr) (ns : List Int), xs = [V.ref a] ∧ (SqL K H a (ns.map V.int) ∨ SqT K H a (ns.map V.int)) ∧ ns.length < 63 ∧
  ∀ p c, H p = none → c ≤ ns.length → Q (.ref p) (upd H p (SetO w p (fun j => decide (j ∈ ns)) c))
theorem vals_ints {ns : List Int} {us : List Value} (r : Vals (ns.map V.int) us) : PyProof.Rows.IntsAre us ns := by
  induction ns generalizing us with
  | nil => cases r; exact .nil
  | cons n ns ih =>
    cases r with
    | cons a t =>
      obtain ⟨tk, rfl⟩ := a
      exact .cons n tk (ih t)
theorem cr_setI {X : Cx} (hc : X.calm = true) : CallR X (.type "set") (rSetI X.K X.w) := by
  intro pins s σ H xs us Q I r h
  obtain ⟨a, ns, rfl, hs, few, q⟩ := h
  have few2 : ns.length + 1 < scanBound := Nat.lt_trans (by omega : ns.length + 1 < 64) (by decide)
  rw [Vals.ref1 r]
  have fin : ∀ (g : Heap) (tk c : Nat), SetR X.w g s.heap.objs.size (fun j => decide (j ∈ ns)) c → c ≤ ns.length → (∀ b o, s.heap.get? b = some o → g.get? b = some o) → EP X pins σ Q (.ref s.heap.objs.size) { s with heap := g, toks := tk } := by
    intro g tk c hS hc k
    exact ⟨.ref _, upd H s.heap.objs.size (SetO X.w s.heap.objs.size (fun j => decide (j ∈ ns)) c), I.laid (t' := tk) k (Nat.le_refl _) (setO_new hS), rfl, q _ c (I.hok.fresh (Nat.le_refl _)) hc⟩
  rcases hs with hs | hs
  · obtain ⟨its, rv, hl, _⟩ := I.list hs
    exact setL_call ns (I.ok.hd hc) hl.isList (by simpa using vals_ints rv) few2 fin
  · obtain ⟨its, rv, hl, _⟩ := I.tuple hs
    exact call_set_tupI ns (I.ok.hd hc) hl (by simpa using vals_ints rv) few2 fin
theorem evn_sortedSet {w : World} {ns : List Int} (h : Ev te Γ M P M1) (hP : ∀ E F H v, Pt E F M1 H → P.p F v → ∃ a, v = .ref a ∧ (SqL K H a (ns.map V.int) ∨ SqT K H a (ns.map V.int))) (hn : ns.length < 63) :
    EvN (tCB (rSortedSet w) (tCons (tCB (rSetI K w) (tCons te tNil)) tNil)) Γ M (MX fun ns' : List Int => MA (ns'.Pairwise (· < ·) ∧ ∀ k, k ∈ ns' ↔ k ∈ ns) (MInts K ns')) M1 := fun E F σ H a b Q k => h E F σ H a b _ fun v F1 H1 e1 g1 p1 => by
  obtain ⟨x, rfl, hs⟩ := hP _ _ _ _ g1 p1
  refine ⟨x, ns, rfl, hs, hn, fun p c hp hc => ⟨p, _, c, rfl, upd_same, by omega, fun ns' l h1 h2 h3 hl => ?_⟩⟩
  have g2 : Pt E F1 M1 (upd H1 p (SetO w p (fun j => decide (j ∈ ns)) c)) := g1.junk hp
  exact k l F1 _ (g2.fresh hl) e1 (g2.new hl ⟨ns', ⟨h1, fun k => by rw [h2]; exact decide_eq_true_iff⟩, _, rfl, map_ints ns'⟩)
theorem own_ints {ns : List Int} (h : M1[j]? = some (q, MInts K ns)) : ∀ E F H v, Pt E F M1 H → (Own q).p F v → ∃ a, v = .ref a ∧ (SqL K H a (ns.map V.int) ∨ SqT K H a (ns.map V.int)) := fun E F H v g p => by
  obtain ⟨_, o, ho, vs, rfl, s⟩ := g.at h
  cases ints_map s
  exact ⟨q, p, .inl (SqL.of ho)⟩
/-! ### the draws -/
def MDr (K : PySem.W.Frag) : MO := MX fun ns : List Int => MA (ns.length ≤ 1000) (MInts K ns)
abbrev PIn (K : PySem.W.Frag) (lo hi : Int) : MP := PEx fun x : Int => PAn (lo ≤ x ∧ x < hi) (D K (.int x))
end
end Hq
namespace Hq
open PySem L2
section
variable {K : PySem.W.Frag} {E E' : Ent} {F F' H H' : Hp} {M M' Mc Mc' M1 M2 M3 : Ms} {Γ Γ' : Gm} {P P' P1 P2 : MP} {O O' : MO} {q : Addr} {σ : St} {o o' : HO} {j : Nat}
variable {te ta tb tc tl : TE} {t u : TT} {r : R2} {D1 : Ends} {tu tw : TS} {ps : List MP} {sp : Sp} {X : XK} {tr : TA} {C : Addr} {fps : List (Str × MP)}
theorem Prom.len {vs : List V} {Q : VK} (h : Prom ps M P M' vs H Q) : vs.length = ps.length := by obtain ⟨F, _, p, _⟩ := h; exact paired_len p
theorem rv_eqI {i k : Int} : RV rEq (D K (.int i)) (D K (.int k)) M (D K (.bool (decide (i = k)))) M := rv_val (z := .bl _) (fun _ => .bl _) fun F H x y p1 p2 _ Q q => by
  cases dp_int p1; cases dp_int p2
  refine ⟨rfl, ?_⟩
  have e : decide (V.int i = V.int k) = decide (i = k) := by simp
  rw [e]; exact q
theorem rv_neI {i k : Int} : RV rNe (D K (.int i)) (D K (.int k)) M (D K (.bool (!decide (i = k)))) M := rv_val (z := .bl _) (fun _ => .bl _) fun F H x y p1 p2 _ Q q => by
  cases dp_int p1; cases dp_int p2
  refine ⟨rfl, ?_⟩
  have e : decide (V.int i = V.int k) = decide (i = k) := by simp
  rw [e]; exact q
theorem ev_neg {i : Int} (h : Ev ta Γ M (D K (.int i)) M1) : Ev (tUn (rU fun i => .int (-i)) ta) Γ M (D K (.int (-i))) M1 := fun E F σ H a b Q k => h E F σ H a b _ fun v F1 H1 e1 g1 p1 => by
  cases dp_int p1
  exact ⟨i, rfl, k _ F1 H1 e1 g1 (.int _)⟩
theorem call0 (h : EvA tr Γ M ps M1) (hs : ∀ vs H Q, Prom ps [] P [] vs H Q → sp vs H Q X) : Ev (tCall sp [] X tr) Γ M P M1 := ev_call0 h fun vs H Q z => by rw [List.append_nil]; exact hs vs H Q z
theorem call1 (h : EvA tr Γ M ps M1) (e : M1[j]? = some (q, O)) (hs : ∀ vs H Q, Prom ps [(q, O)] P [(q, O)] vs H Q → sp vs H Q X) : Ev (tCall sp [] X tr) Γ M P M1 := ev_call1 h e fun vs H Q z => by rw [List.append_nil]; exact hs vs H Q z
theorem make0 (h : EvA tr Γ M ps M1) (hs : ∀ x vs H Q, Prom (Own x :: ps) [(x, MIns C 0 [])] (D K .none) [(x, O)] vs H Q → sp vs H Q X) : EvN (tMake C sp [] X tr) Γ M O M1 := evn_make h fun x vs H Q z => by rw [List.append_nil]; exact hs x vs H Q z
theorem EvA.in1 {R R' : MP} (l : R.le R') (h : EvA tr Γ M (R :: ps) M1) : EvA tr Γ M (R' :: ps) M1 := fun E F σ H a b Q k => h E F σ H a b Q fun vs F' H' e g p => k vs F' H' e g (by
  cases p with
  | cons z t => exact .cons (l _ _ z) t)
theorem evn_lcRX {i : Nat} {φ : Int → Prop} (h : Ev te Γ M (PEx fun z : Int => PAn (φ z) (D K (.int z))) M1) (k : ∀ z, φ z → EvN (tLc (iRng1 (tCons (tC (.int z)) tNil)) (gName i) t tb [i]) Γ M1 O M1) : EvN (tLc (iRng1 (tCons te tNil)) (gName i) t tb [i]) Γ M O M1 := fun E F σ H a b Q kk => h E F σ H a b _ fun v F1 H1 e1 g1 ⟨z, hz, p1⟩ => by
  cases dp_int p1
  exact k z hz E F1 σ H1 g1 (b.mono e1) Q fun q F' H' f e g => kk q F' H' f (e1.trans e) g
/-- a list of items each of which is some x with φ x -/
theorem ps_name {α : Type} {φ : α → Prop} {R : α → MP} : ∀ {n : Nat} {vs : List V}, Ps F vs (List.replicate n (PEx fun x => PAn (φ x) (R x))) → ∃ xs : List α, xs.length = n ∧ (∀ x ∈ xs, φ x) ∧ Ps F vs (xs.map R)
  | 0, _, h => by cases h; exact ⟨[], rfl, fun _ h => (by cases h), .nil⟩
  | n + 1, _, h => by
    cases h with
    | cons a t =>
      obtain ⟨x, hx, p⟩ := a
      obtain ⟨xs, h1, h2, h3⟩ := ps_name t
      exact ⟨x :: xs, by rw [List.length_cons, h1], fun y hy => by
        rcases List.mem_cons.mp hy with e | e
        · rw [e]; exact hx
        · exact h2 y e, .cons p h3⟩
/-- the same as an own list -/
theorem ml_name {α : Type} {φ : α → Prop} {R : α → MP} {n : Nat} : ∀ F o, (ML (List.replicate n (PEx fun x => PAn (φ x) (R x)))).p F o → (MX fun xs : List α => MA (xs.length = n ∧ ∀ x ∈ xs, φ x) (ML (xs.map R))).p F o := fun F o ⟨vs, e, p⟩ => by
  obtain ⟨xs, h1, h2, h3⟩ := ps_name p
  exact ⟨xs, ⟨h1, h2⟩, vs, e, h3⟩
theorem map_const {α β : Type} (l : List α) (b : β) : l.map (fun _ => b) = List.replicate l.length b := by
  induction l with
  | nil => rfl
  | cons a l ih => rw [List.map_cons, ih]; rfl
theorem filter_true {α : Type} (l : List α) : l.filter (fun _ => true) = l := by simp
end
end Hq
namespace Hq
open PySem L2
section
variable {K : PySem.W.Frag} {E E' : Ent} {F F' H H' : Hp} {M M' Mc Mc' M1 M2 M3 : Ms} {Γ Γ' : Gm} {P P' P1 P2 : MP} {O O' : MO} {q : Addr} {σ : St} {o o' : HO} {j : Nat}
variable {te ta tb tc tl : TE} {t u : TT} {r : R2} {D1 : Ends} {tu tw : TS} {ps : List MP} {sp : Sp} {X : XK} {tr : TA} {C : Addr} {fps : List (Str × MP)}
variable {tz : TS}
theorem q_asg {i : Nat} (h : Ev te Γ M P M1) (k : Nx E (Γ.set i (some P)) M1 (tz D1)) : Nx E Γ M (tSeq (tAsg te (gName i)) tz D1) :=
  go_asg (D1 := { D1 with nx := tz D1 }) h k
theorem q_asgN {i : Nat} (h : EvN te Γ M O M1) (k : ∀ q, E.H q = none → Nx E (Γ.set i (some (Own q))) ((q, O) :: M1) (tz D1)) : Nx E Γ M (tSeq (tAsg te (gName i)) tz D1) :=
  go_asgN (D1 := { D1 with nx := tz D1 }) h k
theorem q_if {B : Bool → Prop} (h : EvT t Γ M B M1) (h1 : B true → Nx E Γ M1 (tu { D1 with nx := tz D1 })) (h2 : B false → Nx E Γ M1 (tw { D1 with nx := tz D1 })) : Nx E Γ M (tSeq (tIfS t tu tw) tz D1) :=
  go_if (D1 := { D1 with nx := tz D1 }) h h1 h2
theorem q_app {ps : List MP} (ho : Ev ta Γ M (Own q) M) (h : Ev te Γ M P M1) (e0 : M[j]? = some (q, ML ps)) (e : M1[j]? = some (q, ML ps)) (hz : ps.length < 100000) (k : Nx E Γ (M1.set j (q, ML (ps ++ [P]))) (tz D1)) :
    Nx E Γ M (tSeq (tDrop (tBM K "list" rAppend ta (tCons te tNil))) tz D1) :=
  go_app (D1 := { D1 with nx := tz D1 }) ho h e0 e hz k
theorem q_setL {ps : List MP} {i : Int} (h : Ev te Γ M P M1) (ho : Ev ta Γ M1 (Own q) M1) (hi : Ev tb Γ M1 (D K (.int i)) M2) (e : M2[j]? = some (q, ML ps)) (h0 : 0 ≤ i) (h1 : i.toNat < ps.length) (k : Nx E Γ (M2.set j (q, ML (ps.set i.toNat P))) (tz D1)) :
    Nx E Γ M (tSeq (tAsg te (gSub ta tb rSetL)) tz D1) :=
  go_setL (D1 := { D1 with nx := tz D1 }) h ho hi e h0 h1 k
theorem q_rev {ps : List MP} (ho : Ev ta Γ M (Own q) M) (e : M[j]? = some (q, ML ps)) (k : Nx E Γ (M.set j (q, ML ps.reverse)) (tz D1)) : Nx E Γ M (tSeq (tDrop (tBM0 K "list" rReverse ta)) tz D1) :=
  go_rev (D1 := { D1 with nx := tz D1 }) ho e k
theorem q_forL {ps : List MP} {i : Nat} (h : Ev tl Γ M (PLi K ps) M1) (J : Nat → Gm → Ms → Prop) (h0 : J 0 Γ M1)
    (hs : ∀ E', Le E' E → ∀ n P, ps[n]? = some P → ∀ Γ' M', J n Γ' M' → Nx E' (Γ'.set i (some P)) M' (tu { D1 with nx := JA E' (J (n + 1)), ct := JA E' (J (n + 1)), bk := tz D1 }))
    (hd : ∀ Γ' M', J ps.length Γ' M' → Nx E Γ' M' (tz D1)) : Nx E Γ M (tSeq (tFor (iList K tl) (gName i) tu) tz D1) :=
  go_forL (D1 := { D1 with nx := tz D1 }) h J h0 hs hd
theorem q_forT {ps : List MP} {i : Nat} (h : Ev tl Γ M (PTu K ps) M1) (J : Nat → Gm → Ms → Prop) (h0 : J 0 Γ M1)
    (hs : ∀ E', Le E' E → ∀ n P, ps[n]? = some P → ∀ Γ' M', J n Γ' M' → Nx E' (Γ'.set i (some P)) M' (tu { D1 with nx := JA E' (J (n + 1)), ct := JA E' (J (n + 1)), bk := tz D1 }))
    (hd : ∀ Γ' M', J ps.length Γ' M' → Nx E Γ' M' (tz D1)) : Nx E Γ M (tSeq (tFor (iTup K tl) (gName i) tu) tz D1) :=
  go_forT (D1 := { D1 with nx := tz D1 }) h J h0 hs hd
theorem q_forR {tr : TA} {z : Int} {i : Nat} (h : EvA tr Γ M [D K (.int z)] M1) (hz : z ≤ 1000000) (hz2 : -1000000 ≤ z) (J : Nat → Gm → Ms → Prop) (h0 : J 0 Γ M1)
    (hs : ∀ n : Nat, (n : Int) < z → ∀ Γ' M', J n Γ' M' → Nx E (Γ'.set i (some (D K (.int n)))) M' (tu { D1 with nx := JA E (J (n + 1)), ct := JA E (J (n + 1)), bk := tz D1 }))
    (hd : ∀ Γ' M', J z.toNat Γ' M' → Nx E Γ' M' (tz D1)) : Nx E Γ M (tSeq (tFor (iRng1 tr) (gName i) tu) tz D1) :=
  go_forR (D1 := { D1 with nx := tz D1 }) h hz hz2 J h0 hs hd
theorem q_while (J : Nat → Gm → Ms → Prop) (m0 : Nat) (h0 : J m0 Γ M)
    (hs : ∀ m Γ' M', J m Γ' M' → ∃ B M1, EvT t Γ' M' B M1 ∧ (B true → Nx E Γ' M1 (tu { D1 with nx := JA E (fun Γ M => ∃ m', m' < m ∧ J m' Γ M), ct := JA E (fun Γ M => ∃ m', m' < m ∧ J m' Γ M), bk := tz D1 })) ∧ (B false → Nx E Γ' M1 (tz D1))) : Nx E Γ M (tSeq (tWhile t tu) tz D1) :=
  go_while (D1 := { D1 with nx := tz D1 }) J m0 h0 hs
/-- hands back an object of the caller's own -/
def RtN (E : Ent) (M : Ms) (O : MO) (f : VK) : Prop := ∀ q F H, E.H q = none → Pt E F ((q, O) :: M) H → f (.ref q) H
def PromN (ps : List MP) (M : Ms) (O : MO) (M' : Ms) (vs : List V) (H : Hp) (Q : VK) : Prop := ∃ F, Wd F M H ∧ Ps F vs ps ∧ RtN ⟨F, H, keys M⟩ M' O Q
theorem PromN.len {vs : List V} {Q : VK} (h : PromN ps M O M' vs H Q) : vs.length = ps.length := by obtain ⟨F, _, p, _⟩ := h; exact paired_len p
theorem Pt.frameN {ks : List Addr} (h : Pt E F M H) (hq : H q = none) (g : Pt ⟨F, H, ks⟩ F' ((q, O) :: Mc) H') (hk : ∀ a ∈ ks, a ∈ keys M) (hM : keys M' = keys M) (hr : ∀ r ∈ M', (r.1 ∉ ks ∧ r ∈ M) ∨ r ∈ Mc) : Pt E F' ((q, O) :: M') H' := by
  have nq : q ∉ keys M := fun z => by
    obtain ⟨r, hr, e⟩ := List.mem_map.mp z
    obtain ⟨_, u, hu, _⟩ := h.wd.own r hr
    rw [e, hq] at hu; cases hu
  refine h.back ⟨⟨g.gr.ex, fun a u h1 h2 => g.gr.keep a u (fun z => h1 (hk a z)) h2, g.gr.off, g.gr.stay, g.gr.nott⟩, ⟨g.wd.ex, List.nodup_cons.mpr ⟨by rw [show List.map _ M' = keys M from hM]; exact nq, by rw [show List.map _ M' = keys M from hM]; exact h.wd.nd⟩, fun r hm => ?_⟩, fun r hm => ?_⟩
  · rcases List.mem_cons.mp hm with z | hm
    · rw [z]; exact g.wd.own _ List.mem_cons_self
    · rcases hr r hm with ⟨n, hm2⟩ | hm2
      · obtain ⟨a, u, hu, b⟩ := h.wd.own r hm2
        exact ⟨g.gr.off _ a (show H r.1 ≠ none by rw [hu]; exact fun z => by cases z) (fun xs z => r.2.nt b xs (by have z : H r.1 = some (HO.tup xs) := z; rw [hu] at z; exact Option.some.inj z)), u, g.gr.keep _ _ n hu, r.2.mono g.gr.ex b⟩
      · exact g.wd.own r (List.mem_cons_of_mem _ hm2)
  · rcases List.mem_cons.mp hm with z | hm
    · rw [z]; exact .inr hq
    · refine .inl ?_
      show r.1 ∈ keys M
      rw [← hM]
      exact List.mem_map_of_mem (f := (·.1)) hm
theorem calln0 (h : EvA tr Γ M ps M1) (hs : ∀ vs H Q, PromN ps [] O [] vs H Q → sp vs H Q X) : EvN (tCall sp [] X tr) Γ M O M1 := fun E F σ H a b Q k =>
  h E F σ H a b _ fun vs F1 H1 e1 a1 p1 => by
    show sp (vs ++ []) H1 Q X
    rw [List.append_nil]
    exact hs vs H1 Q ⟨F1, ⟨a1.ex, List.nodup_nil, fun r hr => by cases hr⟩, p1, fun q F' H' hq g => k q F' H' (a1.fresh hq) (e1.trans g.gr.ex) (a1.frameN hq g (fun _ z => by cases z) rfl fun r hr => .inl ⟨by simp [keys], hr⟩)⟩
theorem go_retO {E0 : Ent} (l : Le E E0) (h : Ev te Γ M (Own q) M1) (hq : E0.H q = none) (hM : M1 = (q, O) :: M2) (k : RtN E0 M2 O D1.rt) : Nx E Γ M (tRet te D1) := fun σ H ⟨F, a, b⟩ => h E F σ H a b _ fun v F' H' e g p => by
  have p : v = .ref q := p
  subst p
  subst hM
  exact k q F' H' hq (l.to _ _ _ g)
theorem go_retN {E0 : Ent} (l : Le E E0) (h : EvN te Γ M O M1) (k : RtN E0 M1 O D1.rt) : Nx E Γ M (tRet te D1) := fun σ H ⟨F, a, b⟩ => by
  refine h ⟨F, H, keys M⟩ F σ H a.enter b _ fun q F' H' f e g => ?_
  have gE := (a.le.trans l).to _ _ _ g
  exact k q F' H' ((l.to _ _ _ a).fresh f) gE
theorem RtN.to {f : VK} (h : RtN E M O' f) (l : ∀ F o, O.p F o → O'.p F o) : RtN E M O f := fun q F H hq a => h q F H hq (a.to (j := 0) (O' := O') l rfl)
theorem RtN.drop {f : VK} (h : RtN E M O f) (s : List.Sublist M M') : RtN E M' O f := fun q F H hq a => h q F H hq (a.drop (s.cons₂ _))
theorem go_cut (J : Gm → Ms → Prop) (h1 : Nx E Γ M (tu { D1 with nx := JA E J })) (h2 : ∀ Γ' M', J Γ' M' → Nx E Γ' M' (tw D1)) : Nx E Γ M (Evl.tCut tu tw D1) := fun σ H a =>
  ⟨JA E J, h1 σ H a, fun σ' H' ⟨Γ', M', hJ, a'⟩ => h2 Γ' M' hJ σ' H' a'⟩
end
end Hq
namespace Hq
open PySem L2
def dT (l : List Int) : PyData := .tuple (l.map .int)
def dL (l : List Int) : PyData := .list (l.map .int)
def dTT (ls : List (List Int)) : PyData := .tuple (ls.map dT)
def dLT (ls : List (List Int)) : PyData := .list (ls.map dT)
section
variable {K : PySem.W.Frag} {E E' : Ent} {F F' H H' : Hp} {M M' Mc Mc' M1 M2 M3 : Ms} {Γ Γ' : Gm} {P P' P1 P2 : MP} {O O' : MO} {q : Addr} {σ : St} {o o' : HO} {j : Nat}
variable {te ta tb tc tl : TE} {t u : TT} {r : R2} {D1 : Ends} {tu tw tz : TS} {ps : List MP} {sp : Sp} {X : XK} {tr : TA} {C : Addr} {fps : List (Str × MP)}
theorem le_dT {l : List Int} : (D K (dT l)).le (PTu K (l.map fun n => D K (.int n))) := fun F v h => by
  have := D_PTu (K := K) (ds := l.map PyData.int) F v h
  rw [List.map_map] at this
  exact this
theorem dT_le {l : List Int} : (PTu K (l.map fun n => D K (.int n))).le (D K (dT l)) := fun F v h => PTu_D (K := K) (ds := l.map PyData.int) F v (by rw [List.map_map]; exact h)
theorem le_dL {l : List Int} : (D K (dL l)).le (PLi K (l.map fun n => D K (.int n))) := fun F v h => by
  have := D_PLi (K := K) (ds := l.map PyData.int) F v h
  rw [List.map_map] at this
  exact this
theorem dL_le {l : List Int} : (PLi K (l.map fun n => D K (.int n))).le (D K (dL l)) := fun F v h => PLi_D (K := K) (ds := l.map PyData.int) F v (by rw [List.map_map]; exact h)
theorem le_Lm {α : Type} {f : α → PyData} {l : List α} : (D K (.list (l.map f))).le (PLi K (l.map fun n => D K (f n))) := fun F v h => by
  have := D_PLi (K := K) (ds := l.map f) F v h
  rw [List.map_map] at this
  exact this
theorem Lm_le {α : Type} {f : α → PyData} {l : List α} : (PLi K (l.map fun n => D K (f n))).le (D K (.list (l.map f))) := fun F v h => PLi_D (K := K) (ds := l.map f) F v (by rw [List.map_map]; exact h)
theorem le_Tm {α : Type} {f : α → PyData} {l : List α} : (D K (.tuple (l.map f))).le (PTu K (l.map fun n => D K (f n))) := fun F v h => by
  have := D_PTu (K := K) (ds := l.map f) F v h
  rw [List.map_map] at this
  exact this
theorem Tm_le {α : Type} {f : α → PyData} {l : List α} : (PTu K (l.map fun n => D K (f n))).le (D K (.tuple (l.map f))) := fun F v h => PTu_D (K := K) (ds := l.map f) F v (by rw [List.map_map]; exact h)
theorem rv_addIn {a lo hi : Int} : RV (rI0 fun i j => .int (i + j)) (D K (.int a)) (PIn K lo hi) M (PIn K (a + lo) (a + hi)) M :=
  RV.ex2 fun x => RV.an2 fun hx => rv_i0.weak (MP.le_trans (PAn.in (φ := a + lo ≤ a + x ∧ a + x < a + hi) (by omega)) (PEx.in (R := fun z : Int => PAn (a + lo ≤ z ∧ z < a + hi) (D K (.int z))) (a + x)))
theorem q_forRX {i : Nat} {φ : Int → Prop} (h : Ev te Γ M (PEx fun z : Int => PAn (φ z) (D K (.int z))) M1) (k : ∀ z, φ z → ∀ tr', EvA tr' Γ M1 [D K (.int z)] M1 → Nx E Γ M1 (tSeq (tFor (iRng1 tr') (gName i) tu) tz D1)) : Nx E Γ M (tSeq (tFor (iRng1 (tCons te tNil)) (gName i) tu) tz D1) := fun σ H ⟨F, a, b⟩ => h E F σ H a b _ fun v F1 H1 e1 g1 ⟨z, hz, p1⟩ => by
  cases dp_int p1
  exact k z hz (tCons (tC (.int z)) tNil) (ea_cons ev_int ea_nil) σ H1 ⟨F1, g1, b.mono e1⟩
theorem ev_tupOf {φ : List Int → Prop} (h : EvN te Γ M (MX fun ns : List Int => MA (φ ns) (MInts K ns)) M1) : Ev (tCB (rTuple K) (tCons te tNil)) Γ M (PEx fun ns : List Int => PAn (φ ns) (D K (dT ns))) M1 :=
  ev_cb (ea_cons ((ev_fr h).weak (MP.le_trans fr_X (PEx.le fun x => MP.le_trans fr_A (PAn.le fun _ => fr_L (K := K))))) ea_nil) (RC.ex1 fun ns => RC.an1 fun hφ => rc_tupleL.weak (MP.le_trans dT_le (MP.le_trans (PAn.in hφ) (PEx.in (R := fun ns : List Int => PAn (φ ns) (D K (dT ns))) ns))))
theorem nx_lastM {α : Type} {f} {φ : α → Prop} {R : α → MP} (e : M[j]? = some (q, ML (ps ++ [PEx fun x => PAn (φ x) (R x)]))) (h : ∀ x, φ x → Nx E Γ (M.set j (q, ML (ps ++ [R x]))) f) : Nx E Γ M f := by
  rintro σ H ⟨F, a, b⟩
  obtain ⟨fq, o, ho, vs, rfl, s⟩ := a.at e
  have key : ∀ {ps : List MP} {vs : List V}, Ps F vs (ps ++ [PEx fun x => PAn (φ x) (R x)]) → ∃ x, φ x ∧ Ps F vs (ps ++ [R x]) := by
    intro ps
    induction ps with
    | nil =>
      intro vs s
      obtain ⟨v, rfl, x, hx, hp⟩ := ps1 s
      exact ⟨x, hx, .cons hp .nil⟩
    | cons p ps ih =>
      intro vs s
      cases s with
      | cons a t =>
        obtain ⟨x, hx, t2⟩ := ih t
        exact ⟨x, hx, .cons a t2⟩
  obtain ⟨x, hx, s2⟩ := key s
  refine h x hx σ H ⟨F, ?_, b⟩
  have g := a.mut (o' := .lst vs) (O' := ML (ps ++ [R x])) e ⟨vs, rfl, s2⟩
  have e2 : upd H q (.lst vs) = H := by
    funext z
    by_cases y : z = q
    · subst y; rw [upd_same, ho]
    · rw [upd_ne y]
  rw [e2] at g
  exact g
theorem q_fld {f : Str} {n : Nat} (hv : Ev tb Γ M P M1) (ho : Ev ta Γ M1 (Own q) M1) (e : M1[j]? = some (q, MIns C n fps)) (hz : n < 999) (hf : ∀ g ∈ fps, g.1 ≠ f) (hc : Cls K C) (hn : NoAttr K C f) (k : Nx E Γ (M1.set j (q, MIns C (n + 1) ((f, P) :: fps))) (tz D1)) :
    Nx E Γ M (tSeq (sFld K ta tb f) tz D1) := go_fld (D1 := { D1 with nx := tz D1 }) hv ho e hz hf hc hn k
/-! rules with the written part named -/
variable {Y : Cx}
abbrev rLn (K : PySem.W.Frag) : List V → Hp → VK → Prop := fun xs H Q => ∃ p ys, xs = [.ref p] ∧ (SqL K H p ys ∨ SqT K H p ys) ∧ Q (.int ys.length) H
theorem c_len (e : Y.K = K) : CallR Y (.builtin "len") (rLn K) := e ▸ call_len_seq
theorem c_list (e : Y.K = K) : CallR Y (.type "list") (rList K) := e ▸ call_list_of
theorem c_tuple (e : Y.K = K) : CallR Y (.type "tuple") (rTuple K) := e ▸ call_tuple_of
theorem c_ix (e : Y.K = K) : IxR Y (rIx K) := e ▸ ix_seq
theorem c_in (e : Y.K = K) : OpR Y (compareOp .In) (rIn K false) := e ▸ op_in_seq
theorem c_eq (e : Y.K = K) (hu : Y.A.units + 64 < cLine) : OpR Y (compareOp .Eq) (rEqD K) := e ▸ op_eqD hu
theorem c_ne (e : Y.K = K) (hu : Y.A.units + 64 < cLine) : OpR Y (compareOp .NotEq) (rNeD K) := e ▸ op_neD hu
theorem c_sorted (e : Y.K = K) : CallR Y (.builtin "sorted") (rSortedI K) := e ▸ cr_sortedI
theorem c_sortedSet {w : World} (e : Y.w = w) (hc : Y.calm = true) : CallR Y (.builtin "sorted") (rSortedSet w) := e ▸ cr_sortedSet hc
theorem c_set {w : World} (e : Y.K = K) (e2 : Y.w = w) (hc : Y.calm = true) : CallR Y (.type "set") (rSetI K w) := by subst e; subst e2; exact cr_setI hc
theorem c_isi (e : Y.K = K) : CallR Y (.builtin "isinstance") (rIsi K) := e ▸ call_isi
end
end Hq
namespace Hq
open PySem L2
/-- a way to write values of a type as data, faithfully -/
structure Enc {α : Type} [DecidableEq α] (f : α → PyData) (n : Nat) : Prop where
  eq : ∀ x y, PyData.eqv (f x) (f y) = decide (x = y)
  lay : ∀ x, PyData.canLay0 (f x) = true
  deep : ∀ x, PyData.depth (f x) ≤ n
theorem Enc.shaped {α : Type} [DecidableEq α] {f : α → PyData} {n : Nat} (e : Enc f n) (h : n ≤ 64) (x : α) : SeqAt.shaped (f x) = true := by
  unfold SeqAt.shaped
  rw [e.lay x, Bool.true_and]
  exact decide_eq_true (Nat.le_trans (e.deep x) h)
theorem enc_int : Enc PyData.int 1 := ⟨fun x y => by
    show (x == y) = decide (x = y)
    rw [Bool.eq_iff_iff]; simp, fun _ => rfl, fun _ => by show PyData.depth (.int _) ≤ 1; simp [PyData.depth]⟩
section
variable {α : Type} [DecidableEq α] {f : α → PyData} {n : Nat}
theorem eqvAll_map (e : Enc f n) : ∀ (xs ys : List α), PyData.eqvAll (xs.map f) (ys.map f) = decide (xs = ys)
  | [], [] => rfl
  | x :: xs, y :: ys => by
    show (PyData.eqv (f x) (f y) && PyData.eqvAll (xs.map f) (ys.map f)) = _
    rw [e.eq, eqvAll_map e xs ys]
    by_cases h1 : x = y <;> by_cases h2 : xs = ys <;> simp [h1, h2]
  | [], _ :: _ => rfl
  | _ :: _, [] => rfl
theorem depthAll_map (e : Enc f n) : ∀ (xs : List α), PyData.depthAll (xs.map f) ≤ n
  | [] => Nat.zero_le _
  | x :: xs => by
    have h1 := e.deep x
    have h2 := depthAll_map e xs
    simp only [List.map_cons, PyData.depthAll]
    omega
theorem enc_list (e : Enc f n) : Enc (fun xs : List α => PyData.list (xs.map f)) (n + 1) := ⟨fun x y => eqvAll_map e x y, fun xs => by
    simp only [PyData.canLay0]
    first | (rw [List.all_eq_true]; intro d hd; obtain ⟨x, _, rfl⟩ := List.mem_map.mp hd; exact e.lay x) | (induction xs with | nil => rfl | cons x xs ih => simp_all [PyData.canLay0, PyData.canLayAll0, e.lay]), fun xs => by
    have := depthAll_map e xs
    simp only [PyData.depth]
    omega⟩
end
theorem enc_dL : Enc dL 2 := enc_list enc_int
section
variable {K : PySem.W.Frag} {M : Ms} {α : Type} [DecidableEq α] {f : α → PyData} {n : Nat}
theorem rv_eqE (e : Enc f n) (h : n ≤ 64) {x y : α} : RV (rEqD K) (D K (f x)) (D K (f y)) M (D K (.bool (decide (x = y)))) M := by
  have := rv_eqD (K := K) (M := M) (e.shaped h x) (e.shaped h y)
  rw [e.eq] at this
  exact this
theorem rv_neE (e : Enc f n) (h : n ≤ 64) {x y : α} : RV (rNeD K) (D K (f x)) (D K (f y)) M (D K (.bool (!decide (x = y)))) M := by
  have := rv_neD (K := K) (M := M) (e.shaped h x) (e.shaped h y)
  rw [e.eq] at this
  exact this
end
/-! ### a list or a tuple -/
def iOr (wi wj : TI) : TI := fun σ H R => wi σ H R ∨ wj σ H R
theorem pi_or {X : Cx} {tg l : PySem.Expr} {wi wj : TI} (h : PI X tg l wi) (h' : PI X tg l wj) : PI X tg l (iOr wi wj) := ⟨fun pins s σ H R I q => q.elim (h.run pins s σ H R I) (h'.run pins s σ H R I)⟩
section
variable {K : PySem.W.Frag} {E : Ent} {M M1 : Ms} {Γ : Gm} {O : MO} {wi wj : TI} {g : TG} {tu tz : TS} {D1 : Ends} {t : TT} {te : TE} {vs : List Nat}
theorem for_or1 (h : Nx E Γ M (tFor wi g tu D1)) : Nx E Γ M (tFor (iOr wi wj) g tu D1) := fun σ H a => .inl (h σ H a)
theorem for_or2 (h : Nx E Γ M (tFor wj g tu D1)) : Nx E Γ M (tFor (iOr wi wj) g tu D1) := fun σ H a => .inr (h σ H a)
end
/-- the word as a tuple or as a list -/
def dW (b : Bool) (l : List Int) : PyData := if b then dT l else dL l
section
variable {K : PySem.W.Frag} {E : Ent} {M M1 : Ms} {Γ : Gm} {O : MO} {P : MP} {wi wj : TI} {g : TG} {tu tz : TS} {D1 : Ends} {t : TT} {te ta tb : TE} {vs : List Nat} {l : List Int} {b : Bool} {v i : Nat}
theorem go_forW (e : Γ[v]? = some (some (D K (dW b l)))) (J : Nat → Gm → Ms → Prop) (h0 : J 0 Γ M)
    (hs : ∀ E', Le E' E → ∀ n x, l[n]? = some x → ∀ Γ' M', J n Γ' M' → Nx E' (Γ'.set i (some (D K (.int x)))) M' (tu { D1 with nx := JA E' (J (n + 1)), ct := JA E' (J (n + 1)), bk := D1.nx }))
    (hd : ∀ Γ' M', J l.length Γ' M' → Nx E Γ' M' D1.nx) : Nx E Γ M (tFor (iOr (iTup K (tVar v)) (iList K (tVar v))) (gName i) tu D1) := by
  have hs2 : ∀ E', Le E' E → ∀ n P, (l.map fun x => D K (.int x))[n]? = some P → ∀ Γ' M', J n Γ' M' → Nx E' (Γ'.set i (some P)) M' (tu { D1 with nx := JA E' (J (n + 1)), ct := JA E' (J (n + 1)), bk := D1.nx }) := fun E' hE n P hP Γ' M' hJ => by
    rw [List.getElem?_map] at hP
    obtain ⟨x, hx, rfl⟩ := Option.map_eq_some_iff.mp hP
    exact hs E' hE n x hx Γ' M' hJ
  have hd2 : ∀ Γ' M', J (l.map fun x => D K (.int x)).length Γ' M' → Nx E Γ' M' D1.nx := by rw [List.length_map]; exact hd
  cases b with
  | true => exact for_or1 (go_forT ((ev_var (P := D K (dT l)) e).weak le_dT) J h0 hs2 hd2)
  | false => exact for_or2 (go_forL ((ev_var (P := D K (dL l)) e).weak le_dL) J h0 hs2 hd2)
theorem q_forW (e : Γ[v]? = some (some (D K (dW b l)))) (J : Nat → Gm → Ms → Prop) (h0 : J 0 Γ M)
    (hs : ∀ E', Le E' E → ∀ n x, l[n]? = some x → ∀ Γ' M', J n Γ' M' → Nx E' (Γ'.set i (some (D K (.int x)))) M' (tu { D1 with nx := JA E' (J (n + 1)), ct := JA E' (J (n + 1)), bk := tz D1 }))
    (hd : ∀ Γ' M', J l.length Γ' M' → Nx E Γ' M' (tz D1)) : Nx E Γ M (tSeq (tFor (iOr (iTup K (tVar v)) (iList K (tVar v))) (gName i) tu) tz D1) := go_forW (D1 := { D1 with nx := tz D1 }) e J h0 hs hd
/-- [x] * n -/
theorem evn_rep {z : Int} (h : EvN ta Γ M (ML [P]) M1) (hb : ∀ M, Ev tb Γ M (D K (.int z)) M) (hz : 0 ≤ z ∧ z ≤ 1000) : EvN (tOp rRep ta tb) Γ M (ML (List.replicate z.toNat P)) M1 := fun E F σ H a c Q k =>
  h E F σ H a c _ fun q F1 H1 f1 e1 g1 => hb _ E F1 σ H1 g1 (c.mono e1) _ fun y F2 H2 e2 g2 p2 => by
    cases dp_int p2
    obtain ⟨_, o, ho, ws, rfl, s⟩ := g2.at (j := 0) rfl
    obtain ⟨x, rfl, px⟩ := ps1 s
    refine ⟨q, z, [x], rfl, rfl, ho, by omega, by omega, sz_of (by simp; omega), fun p hp => ?_⟩
    have g3 := (g2.new (O := ML (List.replicate z.toNat P)) (o := .lst (List.replicate z.toNat [x]).flatten) hp ⟨_, rfl, ?_⟩).drop (List.Sublist.cons₂ _ (List.sublist_cons_self _ _))
    · exact k p F2 _ (g2.fresh hp) (e1.trans e2) g3
    · generalize z.toNat = m
      induction m with
      | zero => exact .nil
      | succ m ih => exact .cons px ih
end
/-! ### a, b = e -/
section
variable {K : PySem.W.Frag} {E : Ent} {M M1 : Ms} {Γ : Gm} {D1 : Ends} {tz : TS} {te : TE} {i j : Nat}
theorem q_unp2 {α : Type} {φ : α → Prop} {R1 R2 : α → MP} (h : Ev te Γ M (PEx fun x => PAn (φ x) (PTu K [R1 x, R2 x])) M1) (k : ∀ x, φ x → Nx E ((Γ.set i (some (R1 x))).set j (some (R2 x))) M1 (tz D1)) :
    Nx E Γ M (tSeq (tAsg te (gTup K 2 (gCons (gName i) (gCons (gName j) gNil)))) tz D1) := fun σ H ⟨F, a, b⟩ => h E F σ H a b _ fun v F1 H1 e1 g1 ⟨x, hx, p, vs, ev, s, q⟩ => by
  obtain ⟨y, z, rfl, hy, hz⟩ := ps2 q
  exact ⟨p, [y, z], ev, Evl.ex_t g1.ex s, rfl, y, [z], rfl, z, [], rfl, rfl, k x hx _ _ ⟨F1, g1, ((b.mono e1).set i hy).set j hz⟩⟩
end
section
variable {K : PySem.W.Frag} {M M1 : Ms} {Γ : Gm} {te : TE} {α : Type} {f : α → PyData} {xs : List α}
theorem ev_lenM (h : Ev te Γ M (D K (.list (xs.map f))) M1) : Ev (tCB (rLn K) (tCons te tNil)) Γ M (D K (.int xs.length)) M1 := by
  have := ev_cb (ea_cons h ea_nil) (rc_lenD (K := K) (ds := xs.map f) (M := M1))
  rw [List.length_map] at this
  exact this
theorem ev_lenMT (h : Ev te Γ M (D K (.tuple (xs.map f))) M1) : Ev (tCB (rLn K) (tCons te tNil)) Γ M (D K (.int xs.length)) M1 := by
  have := ev_cb (ea_cons h ea_nil) (rc_lenDT (K := K) (ds := xs.map f) (M := M1))
  rw [List.length_map] at this
  exact this
end
end Hq
namespace Hq
open PySem L2
section
variable {K : PySem.W.Frag} {E E' : Ent} {F F' H H' : Hp} {M M' Mc Mc' M0 M1 M2 M3 : Ms} {Γ Γ' : Gm} {P P' P1 P2 : MP} {O O' : MO} {q : Addr} {σ : St} {o o' : HO} {j i : Nat}
variable {te ta tb tc tl : TE} {t u : TT} {r : R2} {D1 : Ends} {tu tw tz : TS} {ps qs : List MP} {sp : Sp} {X : XK} {tr : TA}
/-- for i in reversed(range(n)) -/
theorem q_forRev {z : Int} (h : Ev te Γ M (D K (.int z)) M1) (hz : 0 ≤ z ∧ z ≤ 1000000) (J : Nat → Gm → Ms → Prop) (h0 : J 0 Γ M1)
    (hs : ∀ n : Nat, (n : Int) < z → ∀ Γ' M', J n Γ' M' → Nx E (Γ'.set i (some (D K (.int (z - 1 - n))))) M' (tu { D1 with nx := JA E (J (n + 1)), ct := JA E (J (n + 1)), bk := tz D1 }))
    (hd : ∀ Γ' M', J z.toNat Γ' M' → Nx E Γ' M' (tz D1)) : Nx E Γ M (tSeq (tFor (iRevR (tRg1 te)) (gName i) tu) tz D1) := fun σ H ⟨F, a, b⟩ => h E F σ H a b _ fun v F1 H1 e1 g1 p => by
  cases dp_int p
  refine ⟨z, rfl, by omega, by omega, by omega, by omega, ?_⟩
  have e0 : (z - 0).toNat = z.toNat := by rw [Int.sub_zero]
  rw [e0]
  refine L2.for_rangeC (lo := 0 + ((z.toNat : Nat) : Int) - 1) (c := -1) (n := z.toNat) (D := { D1 with nx := tz D1 }) (fun n σ H => JA E (J n) σ H) ⟨Γ, M1, h0, F1, g1, b.mono e1⟩ (fun n σ2 H2 hn hJ => ?_) (fun σ2 H2 hJ => ?_)
  · obtain ⟨Γ', M', hJ, F2, g2, b2⟩ := hJ
    refine hs n (by omega) Γ' M' hJ _ _ ⟨F2, g2, b2.set i ?_⟩
    have e : (0 : Int) + ((z.toNat : Nat) : Int) - 1 + (n : Int) * (-1) = z - 1 - n := by omega
    show Dp K F2 (.int _) _
    rw [e]
    exact .int _
  · obtain ⟨Γ', M', hJ, at2⟩ := hJ
    exact hd Γ' M' hJ _ _ at2
/-! ### lists of own lists -/
def innerE {α : Type} (K : PySem.W.Frag) (f : α → PyData) (as : List Addr) (ls : List (List α)) : Ms := (as.zip ls).map fun p => (p.1, ML (p.2.map fun x => D K (f x)))
section
variable {α : Type} {f : α → PyData}
theorem ie_set {as : List Addr} {rs : List (List α)} {n : Nat} {l : List α} (h : as.length = rs.length) (hn : n < as.length) : (innerE K f as rs).set n (as[n], ML (l.map fun x => D K (f x))) = innerE K f as (rs.set n l) := by
  unfold innerE
  apply List.ext_getElem
  · simp [h]
  · intro i h1 h2
    simp at h1 h2
    rw [List.getElem_set]
    by_cases e : n = i
    · subst e; simp
    · rw [if_neg e]; simp [List.getElem_set, e]
theorem ie_at {as : List Addr} {rs : List (List α)} {n : Nat} (h : as.length = rs.length) (hn : n < as.length) : (innerE K f as rs)[n]? = some (as[n], ML ((rs.getD n []).map fun x => D K (f x))) := by
  unfold innerE
  have : n < rs.length := by omega
  simp [List.getElem?_eq_getElem, hn, this, h]
theorem freezeE : ∀ {as : List Addr} {ls : List (List α)} {M0 : Ms} {F H}, as.length = ls.length → (∀ a ∈ as, E.H a = none) → Pt E F (M0 ++ innerE K f as ls) H → ∃ F', Ex F F' ∧ Pt E F' M0 H ∧ Paired (fun a l => Dp K F' (.ref a) (.list (l.map f))) as ls
  | [], [], M0, F, H, _, _, g => ⟨F, Evl.Ex.refl _, by simpa [innerE] using g, .nil⟩
  | a :: as, l :: ls, M0, F, H, hl, ha, g => by
    have at0 : (M0 ++ innerE K f (a :: as) (l :: ls))[M0.length]? = some (a, ML (l.map fun x => D K (f x))) := by
      rw [List.getElem?_append_right (Nat.le_refl _), Nat.sub_self]; rfl
    obtain ⟨fq, o, ho, vs, rfl, s⟩ := g.at at0
    have g2 := g.freeze at0 (ha a List.mem_cons_self) ho
    have er : (M0 ++ innerE K f (a :: as) (l :: ls)).eraseIdx M0.length = M0 ++ innerE K f as ls := by
      rw [List.eraseIdx_append_of_length_le (Nat.le_refl _), Nat.sub_self]; rfl
    rw [er] at g2
    obtain ⟨F', e, g3, p⟩ := freezeE (by simpa using hl) (fun b hb => ha b (List.mem_cons_of_mem _ hb)) g2
    have ex1 : Ex F (upd F a (.lst vs)) := Evl.Ex.new fq
    refine ⟨F', ex1.trans e, g3, .cons (Dp.mono e ?_) p⟩
    exact Lm_le (K := K) _ _ ⟨a, vs, rfl, SqL.of upd_same, s.mono ex1⟩
theorem nx_nestedE {g : St → Hp → Prop} {i : Nat} {as : List Addr} {ls : List (List α)} {M0 : Ms} (hl : as.length = ls.length) (hq : E.H q = none) (ha : ∀ a ∈ as, E.H a = none) (hg : Γ[i]? = some (some (Own q))) (h : Nx E (Γ.set i (some (D K (.list (ls.map fun l => .list (l.map f)))))) M0 g) :
    Nx E Γ ((q, ML (as.map Own)) :: (M0 ++ innerE K f as ls)) g := by
  rintro σ H ⟨F, a, b⟩
  obtain ⟨F1, e1, g1, p⟩ := freezeE (M0 := (q, ML (as.map Own)) :: M0) hl ha a
  obtain ⟨fq, o, ho, vs, rfl, s⟩ := g1.at (j := 0) rfl
  have g2 := g1.freeze (j := 0) rfl hq ho
  have ex1 : Ex F1 (upd F1 q (.lst vs)) := Evl.Ex.new fq
  refine h σ H ⟨_, g2, (b.mono (e1.trans ex1)).upd hg fun v hv => ?_⟩
  have hv : v = .ref q := hv
  subst hv
  refine .lst (SqL.of upd_same) ?_
  have key2 : ∀ {as : List Addr} {ls : List (List α)} {ws : List V}, Paired (fun a l => Dp K F1 (.ref a) (.list (l.map f))) as ls → Ps F1 ws (as.map Own) → DpAll K (upd F1 q (.lst vs)) ws (ls.map fun l => .list (l.map f)) := by
    intro as ls ws p
    induction p generalizing ws with
    | nil => intro s; cases s; exact .nil
    | cons x t ih =>
      intro s
      cases s with
      | cons y u =>
        have y : _ = V.ref _ := y
        subst y
        exact .cons (Dp.mono ex1 x) (ih u)
  exact key2 p s
end
end
section
variable {K : PySem.W.Frag} {E : Ent} {M : Ms} {Γ : Gm} {O : Nat → MO} {D1 : Ends} {tz : TS} {te : TE} {tr : TA} {i j : Nat}
theorem Pt.perm {F H : Hp} {M M' : Ms} (h : Pt E F M H) (p : M.Perm M') : Pt E F M' H := ⟨h.gr, ⟨h.wd.ex, (p.map _).nodup_iff.mp h.wd.nd, fun r hr => h.wd.own r (p.mem_iff.mpr hr)⟩, fun r hr => h.fr r (p.mem_iff.mpr hr)⟩
def zipR (O : Nat → MO) (as : List Addr) (n : Nat) : Ms := (as.zip (List.range n)).map fun p => (p.1, O p.2)
theorem zipR_snoc {as : List Addr} {n : Nat} {q : Addr} (h : as.length = n) : zipR O (as ++ [q]) (n + 1) = zipR O as n ++ [(q, O n)] := by
  unfold zipR
  rw [List.range_succ, List.zip_append (by rw [List.length_range]; exact h), List.map_append]; rfl
theorem q_lcOwn {z : Int} (h : EvA tr Γ M [D K (.int z)] M) (hz : z ≤ 50000 ∧ 0 ≤ z) (he : ∀ x : Nat, (x : Int) < z → EvN te ((Γ.set i none).set i (some (D K (.int x)))) M (O x) M)
    (k : ∀ q as, E.H q = none → (∀ a ∈ as, E.H a = none) → as.length = z.toNat → Nx E (Γ.set j (some (Own q))) ((q, ML (as.map Own)) :: (M ++ zipR O as z.toNat)) (tz D1)) :
    Nx E Γ M (tSeq (tAsg (tLc (iRng1 tr) (gName i) tYes te [i]) (gName j)) tz D1) := fun σ H ⟨F, a, b⟩ => h E F σ H a b _ fun vs F1 H1 e1 g1 p => by
  obtain ⟨v, rfl, hv⟩ := ps1 p
  cases dp_int hv
  refine ⟨z, rfl, by omega, by omega, fun D2 hD => ?_⟩
  have gn : Pt E F1 ((D2, ML []) :: M) (upd H1 D2 (.lst [])) := g1.new hD ⟨[], rfl, .nil⟩
  refine lc_range (lo := 0) (n := z.toNat) (fun n H' => ∃ F' as, Pt E F' ((D2, ML (as.map Own)) :: (M ++ zipR O as n)) H' ∧ Ex F1 F' ∧ as.length = n ∧ ∀ a ∈ as, E.H a = none) ⟨F1, [], by simpa [zipR] using gn, Evl.Ex.refl _, rfl, fun _ h => by cases h⟩ (fun n H2 hn ⟨F2, as, g2, e2, hl, hf⟩ => ⟨wipe_one, ?_⟩) (fun H2 ⟨F2, as, g2, e2, hl, hf⟩ => ?_)
  · have e0 : (0 : Int) + (n : Int) = (n : Int) := Int.zero_add _
    rw [e0]
    have sub : List.Sublist M ((D2, ML (as.map Own)) :: (M ++ zipR O as n)) := (List.sublist_append_left _ _).trans (List.sublist_cons_self _ _)
    show te _ H2 _
    refine he n (by omega) ⟨F2, H2, keys M⟩ F2 _ H2 (Pt.start (g2.drop sub).wd) ((env_wipe (b.mono (e1.trans e2))).set i (P := D K (.int n)) (.int _)) _ fun q F3 H3 hq e3 g3 => ?_
    have g4 : Pt E F3 ((q, O n) :: (D2, ML (as.map Own)) :: (M ++ zipR O as n)) H3 := g2.frameN hq g3 (fun x hx => by
      obtain ⟨r, hr, e⟩ := List.mem_map.mp hx
      exact List.mem_map.mpr ⟨r, sub.subset hr, e⟩) rfl fun r hr => by
        by_cases hm : r.1 ∈ keys M
        · obtain ⟨s, hs, e⟩ := List.mem_map.mp hm
          -- one entry for each address
          have one : ∀ {L : Ms}, (keys L).Nodup → ∀ r ∈ L, ∀ s ∈ L, r.1 = s.1 → r = s := by
            intro L
            induction L with
            | nil => intro _ r hr; cases hr
            | cons m L ih =>
              intro nd r hr s hs e
              have nd' := List.nodup_cons.mp (show (m.1 :: keys L).Nodup from nd)
              rcases List.mem_cons.mp hr with e1 | hr <;> rcases List.mem_cons.mp hs with e2 | hs
              · rw [e1, e2]
              · exact absurd (show m.1 ∈ keys L by rw [← e1, e]; exact List.mem_map_of_mem (f := (·.1)) hs) nd'.1
              · exact absurd (show m.1 ∈ keys L by rw [← e2, ← e]; exact List.mem_map_of_mem (f := (·.1)) hr) nd'.1
              · exact ih nd'.2 r hr s hs e
          have := one g2.wd.nd r hr s (sub.subset hs) e.symm
          rw [this]; exact .inr hs
        · exact .inl ⟨hm, hr⟩
    obtain ⟨_, o, ho, ws, rfl, s⟩ := g4.at (j := 1) rfl
    refine ⟨ws, ho, sz_lt (by rw [paired_len s, List.length_map]; omega), F3, as ++ [q], ?_, e2.trans e3, by rw [List.length_append, hl]; rfl, fun x hx => ?_⟩
    · have g5 := g4.mut (j := 1) (O' := ML ((as ++ [q]).map Own)) (o' := .lst (ws ++ [.ref q])) rfl ⟨_, rfl, by rw [List.map_append]; exact paired_app s (.cons (show (Own q).p F3 (.ref q) from rfl) .nil)⟩
      rw [zipR_snoc hl]
      refine g5.perm ?_
      show ((q, O n) :: (D2, ML ((as ++ [q]).map Own)) :: (M ++ zipR O as n)).Perm _
      refine (List.Perm.swap _ _ _).trans (List.Perm.cons _ ?_)
      rw [← List.append_assoc]
      exact (List.perm_append_singleton _ _).symm
    · rcases List.mem_append.mp hx with h1 | h1
      · exact hf x h1
      · rw [List.mem_singleton.mp h1]; exact g2.fresh hq
  · exact k D2 as (g1.fresh hD) hf hl _ _ ⟨F2, g2, (b.mono (e1.trans e2)).set j (P := Own D2) rfl⟩
end
section
variable {K : PySem.W.Frag} {M M1 : Ms} {Γ : Gm} {te : TE} {b : Bool} {l ns : List Int} {q : Addr} {j : Nat}
theorem rv_ixW {i x : Int} (h0 : 0 ≤ i) (h : (l.map PyData.int)[i.toNat]? = some (.int x)) : RV (rIx K) (D K (dW b l)) (D K (.int i)) M (D K (.int x)) M := by
  cases b with
  | true => exact rv_ixDT (ds := l.map PyData.int) h0 h
  | false => exact rv_ixDL (ds := l.map PyData.int) h0 h
theorem ev_lenW (h : Ev te Γ M (D K (dW b l)) M1) : Ev (tCB (rLn K) (tCons te tNil)) Γ M (D K (.int l.length)) M1 := by
  cases b with
  | true => exact ev_lenMT (f := PyData.int) h
  | false => exact ev_lenM (f := PyData.int) h
end
theorem pi_listK {Y : Cx} {K : PySem.W.Frag} {tg l : PySem.Expr} {tl : TE} (e : Y.K = K) (hl : PE Y l tl) : PI Y tg l (iList K tl) := e ▸ pi_list hl
theorem pi_tupK {Y : Cx} {K : PySem.W.Frag} {tg l : PySem.Expr} {tl : TE} (e : Y.K = K) (hl : PE Y l tl) : PI Y tg l (iTup K tl) := e ▸ pi_tup hl
end Hq
namespace Hq
open PySem L2
/-! ### xs.index(y, lo): an item of a list of ints from a place on -/
section
variable {K : PySem.W.Frag} {E : Ent} {M M1 M2 : Ms} {Γ : Gm} {P : MP} {O : MO} {q : Addr} {j : Nat} {te ta tb ta2 tb2 tl : TE} {tr : TA} {D1 : Ends} {tz : TS}
/-! ### xs[i] += e -/
theorem c_fld {Y : Cx} {e : PySem.Expr} {f : Str} {pos : Pos} (e2 : Y.K = K) (he : PE Y e ta) (hb : attributeBase e f Y.env (eval e Y.env) = eval e Y.env) : PE Y (.Attribute e f pos) (tFld K ta f) := e2 ▸ pe_fld he hb
/-! ### xs[i], xs[i2] = x, y -/
/-! ### t[lo:hi] -/
/-! ### x is None -/
end
end Hq
namespace Hq
open PySem L2
end Hq
namespace Hq
open PySem L2
theorem units1 {k : Nat} {A : Around} (r : Room k A) : A.units + 1 < cLine := by have := r.un; omega
/-! ### {t: e} with a tuple as key -/
/-! ### tuples made here; a dict with them as keys -/
end Hq
namespace Hq
open PySem L2
/-! ### sorted(xs) of tuples of ints, none of them empty -/
end Hq
namespace Hq
open PySem L2
end Hq
namespace Hq
open PySem L2
section
variable {K : PySem.W.Frag} {E : Ent} {F H : Hp} {M M1 M2 : Ms} {Γ : Gm} {P : MP} {O : MO} {q : Addr} {j : Nat} {te ta tb tk tv td : TE} {tr : TA} {D1 : Ends} {tz : TS} {t u : TT} {l a b : List Int} {L : List (List Int)} {ps : List MP}
theorem ev_lenI (h : Ev te Γ M (Own q) M1) (e : M1[j]? = some (q, MInts K l)) : Ev (tCB (rLn K) (tCons te tNil)) Γ M (D K (.int l.length)) M1 := by
  have := ev_cb (ea_cons h ea_nil) (rc_lenO (K := K) e)
  rw [List.length_map] at this
  exact this
theorem MP.of_eq {P P' : MP} (h : P = P') : P.le P' := fun _ _ p => h ▸ p
end
end Hq
namespace Hq
open PySem PySem.Spec PyProof.Rows L2
/-! ### enumerate(t), a tuple -/
set_option maxHeartbeats 1000000 in
theorem enumNew1 {v : Value} {o : Obj} {Hh : Heap → Prop} (B : Begins v o Hh) :
    Meets (Builtin.«enumerate.__new__» ⟨[.type "enumerate", v], []⟩) (fun _ R s => Hh s.heap ∧
      R (.ok (.ret (.ref (s.heap.push o).objs.size))) { s with heap := (s.heap.push o).push { cls := .type "enumerate", data := .fields #[.none, .bool false, .ref s.heap.objs.size, rawInt 0, .none, .none] } }) :=
  .of_wp fun prog w A R s hh => by
    obtain ⟨hp, g, d, tk, os⟩ := s
    obtain ⟨h1, hr⟩ := hh
    have sb := sub_enumerate
    have q1 : ∀ {A' : Around} {E : Value → Shared → Prop} {Q : Value → Shared → Prop}, Q (.ref hp.objs.size) ⟨hp.push o, g, d, tk, os⟩ → wpAny (model prog w) A' (pyIter v) Q E ⟨hp, g, d, tk, os⟩ :=
      fun q => B.iter prog w _ _ ⟨hp, g, d, tk, os⟩ _ h1 q
    wp_walk using q1
    refine wpAny_stack_any fun st => wpAny_pure ?_
    split
    · rename_i c _ _ _ _ _
      cases (c == Value.type "enumerate") <;> (wp_walk using q1; exact ⟨_, rfl, hr⟩)
    · wp_walk using q1
      exact ⟨_, rfl, hr⟩
section
variable {prog : Program} {w : World} {A : Around} {E : Value → Shared → Prop} {s : Shared}
theorem enumBegins1 {v : Value} {o : Obj} {Hh : Heap → Prop} {Q : Value → Shared → Prop} (B : Begins v o Hh) (h1 : Hh s.heap)
    (h : ∀ h', IsEnum h' (s.heap.objs.size + 1) s.heap.objs.size 0 .none → h'.get? s.heap.objs.size = some o → h'.objs.size = s.heap.objs.size + 2 →
      (∀ b o, s.heap.get? b = some o → h'.get? b = some o) → Q (.ref (s.heap.objs.size + 1)) { s with heap := h' }) :
    wpAny (model prog w) A (call (.type "enumerate") [v]) Q E s := by
  refine callType_new F.called_enumerate (by decide) (F.typeCall_enumerate_1 _) (F.newCall_enumerate_1 _) (fun obj => F.args_object_init_2 obj _) F.entry_enumerate_new (enumNew1 B) ⟨h1, ?_⟩
  have hz : (s.heap.push o).objs.size = s.heap.objs.size + 1 := Heap.size_push ..
  show _ ∧ _
  rw [hz]
  have he : IsEnum ((s.heap.push o).push { cls := .type "enumerate", data := .fields #[.none, .bool false, .ref s.heap.objs.size, rawInt 0, .none, .none] }) (s.heap.objs.size + 1) s.heap.objs.size 0 .none := by
    have z := Heap.get?_push_size (s.heap.push o) (o := { cls := .type "enumerate", data := .fields #[.none, .bool false, .ref s.heap.objs.size, rawInt 0, .none, .none] }) rfl
    rw [hz] at z; exact z
  exact ⟨⟨_, he, rfl⟩, h _ he (Heap.get?_push_of_some _ (Heap.get?_push_size _ B.free)) (by rw [Heap.size_push, hz]) fun b o x => Heap.get?_push_of_some _ (Heap.get?_push_of_some _ x)⟩
end
/-- the tuple at a as it stands at each turn, each item in a new pair -/
def IteT (K : PySem.W.Frag) (a : Addr) : It :=
  ⟨fun i H => ∃ (xs : List V) (x : V), SqT K H a xs ∧ xs[i]? = some x, fun i H v H' => ∃ T x, v = .ref T ∧ H T = none ∧ H' = upd H T (.tup [.int (i : Nat), x]) ∧ ∀ xs, SqT K H a xs → xs[i]? = some x, fun i H => ∃ xs : List V, SqT K H a xs ∧ xs.length ≤ i⟩
theorem turnEnumT {P : Program} {w : World} {K : PySem.W.Frag} {elts : List Expr} {kk : Nat} {tpos : Pos} (a e it : Addr) (hai : a ≠ it) (hae : a ≠ e) :
    Turn P w K (.Tuple elts kk tpos) (IteT K a) [e, it] e (fun i h => (∃ old, IsEnum h e it ((i : Nat) : Int) old) ∧ h.IsTupleIter it a i ∧ e ≠ it) where
  mem := by simp
  obj := fun i h st b hb => by
    obtain ⟨⟨old, he⟩, ⟨o, ho, hc, hd⟩, _⟩ := st
    have e' : b = e ∨ b = it := by simpa using hb
    rcases e' with z | z
    · rw [z]; exact ⟨_, he, fun v q => nomatch q⟩
    · rw [z]; exact ⟨o, ho, fun v q => by rw [hd] at q; cases q⟩
  keep := fun i h h' st k => by
    obtain ⟨⟨old, he⟩, hi, hne⟩ := st
    exact ⟨⟨old, k e (by simp) _ he⟩, hi.at fun o q => k it (by simp) o q, hne⟩
  item := by
    intro X hP hw hK hc i pins s σ H E I hf st hg
    subst hP hw hK
    obtain ⟨⟨old, he⟩, hit, hne⟩ := st
    obtain ⟨xs, x, hq, hx⟩ := hg
    obtain ⟨its, rv, p, hz⟩ := I.tuple hq
    obtain ⟨u, hu, ru⟩ := rv.get hx
    have p : s.heap.IsTuple a its.toArray := p
    have hel : e < s.heap.objs.size := Heap.lt_size he
    have hil : it < s.heap.objs.size := by obtain ⟨_, q, _⟩ := hit; exact Heap.lt_size q
    have hlt : i < its.toArray.size := by
      have := (List.getElem?_eq_some_iff.mp hu).1
      simpa using this
    have DD := Draws.tuple (prog := X.prog) (w := X.w) (A := X.A.in1) (I.ok.hd hc) it a hai its.toArray
    refine wpAny_pyNext_enum_itemD DD he (show s.heap.IsTupleIter it a i ∧ s.heap.IsTuple a its.toArray from ⟨hit, p⟩) hlt hne (by simp only [List.mem_cons, List.not_mem_nil, or_false, not_or]; exact ⟨hne, fun q => hae q.symm⟩) fun x2 h' tk hP ho hst' hT hsz hk => ?_
    have ex2 : u = x2 := by
      have hu2 : its.toArray[i]? = some u := by simpa using hu
      rw [hu2] at hP
      exact Option.some.inj hP
    subst ex2
    refine ⟨_, rfl, wpAny_letOwnedTupleGo_enum (s := { s with heap := h', toks := tk + 1 }) ho fun h'' he' sb => ?_⟩
    have hT2 : h''.get? s.heap.objs.size = some { cls := .type "tuple", data := .seq #[.int i tk, u] } := (sb.2 _ (Nat.ne_of_gt hel)).trans hT
    have new : ObjOk X.prog X.w (upd H s.heap.objs.size (.tup [.int (i : Nat), x])) h'' s.heap.objs.size (.tup [.int (i : Nat), x]) :=
      ⟨by show 2 ≤ sizeLine; decide, [.int i tk, u], .cons ⟨_, rfl⟩ (.cons ru .nil), ⟨_, hT2, rfl, _, rfl⟩⟩
    have I1 : Inv X pins σ (upd H s.heap.objs.size (.tup [.int (i : Nat), x])) { s with heap := h'', toks := tk + 1 } :=
      I.turnedNew (ch := [e, it]) (fun b ob hb q => (sb.2 b (fun z => hb (by simp [z]))).trans (hk b ob (fun z => hb (by simp [z])) (fun z => hb (by simp [z])) q)) hf (Nat.le_refl _) new
    refine ⟨.ref s.heap.objs.size, _, I1, rfl, ⟨_, x, rfl, I.hok.fresh (Nat.le_refl _), rfl, fun ys hy => by rw [I.tuple_inj hy hq]; exact hx⟩, ⟨⟨u, ?_⟩, hst'.1.at fun o q => (sb.2 it (Ne.symm hne)).trans q, hne⟩, fun b hb => ?_⟩
    · have e1 : ((i + 1 : Nat) : Int) = (i : Int) + 1 := by omega
      rw [e1]; exact he'
    · have hb' : b < s.heap.objs.size := by
        have e' : b = e ∨ b = it := by simpa using hb
        rcases e' with z | z
        · rw [z]; exact hel
        · rw [z]; exact hil
      rw [upd_ne (Nat.ne_of_lt hb')]
      exact (hf b hb).1
  done := by
    intro X hP hw hK hc i pins s σ H E I hf st hg
    subst hP hw hK
    obtain ⟨⟨old, he⟩, hit, hne⟩ := st
    obtain ⟨xs, hq, hx⟩ := hg
    obtain ⟨its, rv, p, hz⟩ := I.tuple hq
    obtain ⟨f0, f1, f2, f3, f4, f5⟩ := hf it (by simp)
    have hl := rv.length
    have p : s.heap.IsTuple a its.toArray := p
    have hT : s.TypeIs (.ref e) "enumerate" := ⟨_, he, rfl⟩
    unfold pyNext
    refine wpAny_bind (wpAny_attempt (wpAny_callSpecial?_slot (name := Str.ofString "__next__") hT F.slot_enumerate_next
      (wpAny_call_entry F.slot_enumerate_next hT F.entry_enumerate_next ?_ (F.args_enumerate_next_1 _))))
    show wpAny _ _ (field (.ref e) 2 >>= fun _ => _) _ _ s
    refine wpAny_bind (wpAny_field he rfl (x := .ref it) rfl ?_)
    refine wpAny_bind (wpAny_nextOf_tuple_end (A := X.A.in1) (I.ok.hd hc) hit p (by simp; omega) fun h' x he' hx' => ?_)
    obtain ⟨o, ho, hcl⟩ := hx'
    refine wpAny_bind (wpAny_isInstance (T := "StopIteration") (b := true) ⟨o, ho, hcl⟩ isSubtype_stop ?_)
    exact wpAny_pure ⟨rfl, I.turned (t' := s.toks) (fun b o hb q => he' b o hb q) f0 f1 f3 f4 f5⟩
  self := fun A i s Q E st h => let ⟨⟨_, he⟩, _⟩ := st; wpAny_pyIter_enum he h
def iEnumT (K : PySem.W.Frag) (ta : TA) : TI := fun σ H R => ta σ H fun vs H1 => ∃ a xs, vs = [.ref a] ∧ SqT K H1 a xs ∧ R (IteT K a) H1
theorem pi_enumT {X : Cx} {e : PySem.Expr} {ta : TA} {p pos tpos : Pos} {elts : List PySem.Expr} {kk : Nat} (hg : Gl X "enumerate") (hm : X.mg "enumerate" = none) (ha : PA X [e] ta) (hs : starEach [e] X.env = [(false, eval e X.env)] := by rfl) :
    PI X (.Tuple elts kk tpos) (.Call (.Name "enumerate" p) [e] [] pos) (iEnumT X.K ta) := by
  refine ⟨fun pins s σ H R I h => ?_⟩
  refine Call_ (ld_blt I hg hm boot_enumerate (PyProof.Rows.callWith_type1 (thn (ha.run pos pins s σ H _ I h) fun us s1 ⟨vs, H1, I1, r1, q1⟩ => ?_) hs rfl))
  obtain ⟨a, xs, ex, hq, q⟩ := q1
  subst ex
  cases r1 with
  | cons r rr =>
    cases rr
    cases r
    obtain ⟨its, rv, p', hz⟩ := I1.tuple hq
    have p' : s1.heap.IsTuple a its.toArray := p'
    have hal : a < s1.heap.objs.size := by obtain ⟨o, q, _⟩ := id p'; exact Heap.lt_size q
    refine enumBegins1 (begins_tuple a its.toArray) p' fun h' he hit hsz hk => wpAny_pyIter_enum he ?_
    have I2 : Inv X pins σ H1 { s1 with heap := h' } := I1.kept (t' := s1.toks) hk
    refine ⟨s1.heap.objs.size + 1, [s1.heap.objs.size + 1, s1.heap.objs.size], _, _, H1, rfl, I2, turnEnumT a (s1.heap.objs.size + 1) s1.heap.objs.size (Nat.ne_of_lt hal) (Nat.ne_of_lt (Nat.lt_succ_of_lt hal)), ⟨⟨.none, he⟩, ⟨_, hit, rfl, rfl⟩, Nat.succ_ne_self _⟩, fun b hb => ?_, q⟩
    have e' : b = s1.heap.objs.size + 1 ∨ b = s1.heap.objs.size := by simpa using hb
    have hle : s1.heap.objs.size ≤ b := by
      rcases e' with z | z
      · rw [z]; exact Nat.le_add_right _ _
      · rw [z]; exact Nat.le_refl _
    exact I1.fpOk hle (I1.hok.fresh hle)
theorem pi_enumTK {X : Cx} {K : PySem.W.Frag} {e : PySem.Expr} {ta : TA} {p pos tpos : Pos} {elts : List PySem.Expr} {kk : Nat} (eK : X.K = K) (hg : Gl X "enumerate") (hm : X.mg "enumerate" = none) (ha : PA X [e] ta) (hs : starEach [e] X.env = [(false, eval e X.env)] := by rfl) :
    PI X (.Tuple elts kk tpos) (.Call (.Name "enumerate" p) [e] [] pos) (iEnumT K ta) := eK ▸ pi_enumT hg hm ha hs
end Hq
namespace Hq
open PySem L2
section
variable {K : PySem.W.Frag} {E : Ent} {F H : Hp} {M M1 M2 : Ms} {Γ : Gm} {P : MP} {O : MO} {q : Addr} {te ta tb tl tk : TE} {tr : TA} {D1 : Ends} {tu tz : TS} {t u : TT} {ps : List MP} {i j : Nat}
abbrev gPair (K : PySem.W.Frag) (i j : Nat) : TG := gTup K 2 (gCons (gName i) (gCons (gName j) gNil))
theorem wipe_two {σ : St} {x y : V} (h : i ≠ j) : wipe (((wipe σ [i, j]).set i (some x)).set j (some y)) [i, j] = wipe σ [i, j] := by
  show ((((((σ.set j none).set i none).set i (some x)).set j (some y)).set j none).set i none) = (σ.set j none).set i none
  apply List.ext_getElem?
  intro k
  simp only [List.getElem?_set, List.length_set]
  by_cases h1 : j = k <;> by_cases h2 : i = k <;> simp [h1, h2]
theorem env_wipe2 {σ : St} (h : EnvOk F σ Γ) : EnvOk F (wipe σ [i, j]) ((Γ.set j none).set i none) := (h.forget j).forget i
section
variable {γ : Type} {zs : List γ} {RA RB G : γ → MP} {f : γ → Bool} {J : It} {Gd : Hp → Prop} {us vs : List V}
/-- a comprehension over pairs -/
theorem lc_pairs {F1 H1 : Hp} {σ : St} {Q : VK} (hij : i ≠ j) (w : Walk J zs.length Gd (YPair (fun i => us[i]?) (fun i => vs[i]?))) (hz : zs.length ≤ 50000)
    (g1 : Pt E F1 M1 H1) (b : EnvOk F1 σ Γ) (hu : Ps F1 us (zs.map RA)) (hv : Ps F1 vs (zs.map RB)) (hG : ∀ F' H', Ex F1 F' → Ex F' H' → Gd H')
    (ht : ∀ z ∈ zs, EvT t ((((Γ.set j none).set i none).set i (some (RA z))).set j (some (RB z))) M1 (· = f z) M1)
    (he : ∀ z ∈ zs, f z = true → Ev te ((((Γ.set j none).set i none).set i (some (RA z))).set j (some (RB z))) M1 (G z) M1)
    (k : ContN E F1 (ML ((zs.filter f).map G)) M1 Q) : ∀ D, H1 D = none → ∃ W : Nat → Nat → Hp → Prop, (∃ m, W 0 m (upd H1 D (.lst []))) ∧ ∀ n m H, W n m H →
      (J.stop n H ∧ Q (.ref D) H) ∨ (J.go n H ∧ ∃ Nx : Hp → Prop, (∀ H', Nx H' → ∃ m', m' < m ∧ W (n + 1) m' H') ∧ ∀ x H', J.yld n H x H' → gPair K i j x (wipe σ [i, j]) H' fun σ2 H2 => wipe σ2 [i, j] = wipe σ [i, j] ∧ t σ2 H2 fun b H3 =>
        if b = true then te σ2 H3 fun y H4 => ∃ acc, H4 D = some (.lst acc) ∧ acc.length < sizeLine ∧ Nx (upd H4 D (.lst (acc ++ [y]))) else Nx H3) := by
  intro D2 hD
  have gn : Pt ⟨F1, H1, keys M1⟩ F1 ((D2, ML []) :: M1) (upd H1 D2 (.lst [])) := g1.enter.new hD ⟨[], rfl, .nil⟩
  refine lc_it w (fun n H' => ∃ F', Pt ⟨F1, H1, keys M1⟩ F' ((D2, ML (((zs.take n).filter f).map G)) :: M1) H') ⟨F1, gn⟩ (fun n H2 _ ⟨F2, g2⟩ => hG F2 H2 g2.gr.ex g2.ex) (fun n x H2 H3 hn ⟨F2, g2⟩ y => ?_) (fun H2 ⟨F2, g2⟩ => ?_)
  · obtain ⟨T, x1, y1, rfl, hT, rfl, hx1, hy1⟩ := y
    obtain ⟨PA, hPA, hxA⟩ := paired_get' hu hx1
    obtain ⟨PB, hPB, hyB⟩ := paired_get' hv hy1
    have hzn : zs[n]? = some zs[n] := List.getElem?_eq_getElem hn
    rw [List.getElem?_map, hzn] at hPA hPB
    have hPA : RA zs[n] = PA := Option.some.inj hPA
    have hPB : RB zs[n] = PB := Option.some.inj hPB
    subst hPA; subst hPB
    generalize zs[n] = z at *
    have hm := List.mem_of_getElem? hzn
    have g3 : Pt ⟨F1, H1, keys M1⟩ F2 ((D2, ML (((zs.take n).filter f).map G)) :: M1) (upd H2 T (.tup [x1, y1])) := g2.junk hT
    refine ⟨T, [x1, y1], rfl, SqT.of upd_same, rfl, x1, [y1], rfl, y1, [], rfl, rfl, wipe_two hij, ?_⟩
    refine lc_turn g3 (((env_wipe2 (b.mono g2.gr.ex)).set i ((RA z).mono g2.gr.ex hxA)).set j ((RB z).mono g2.gr.ex hyB)) (ht z hm) (he z hm) ?_ _ fun F3 H3 e3 g4 => ⟨F3, ?_⟩
    · rw [List.length_map]
      exact Nat.lt_of_le_of_lt (Nat.le_trans (List.length_filter_le _ _) (by rw [List.length_take]; omega)) (by omega : zs.length < 100000)
    · rw [take_filter zs f n z hzn, List.map_append]
      cases hf : f z
      · rw [hf] at g4; simpa using g4
      · rw [hf] at g4; simpa using g4
  · rw [List.take_length] at g2
    exact k D2 F2 H2 (g1.fresh hD) g2.gr.ex (g1.back g2)
/-- a loop over pairs -/
theorem for_pairs {F1 H1 : Hp} {σ : St} {Q : Prop} (w : Walk J zs.length Gd (YPair (fun i => us[i]?) (fun i => vs[i]?)))
    (g1 : Pt E F1 M1 H1) (b : EnvOk F1 σ Γ) (hu : Ps F1 us (zs.map RA)) (hv : Ps F1 vs (zs.map RB)) (hG : ∀ F' H', Ex F1 F' → Ex F' H' → Gd H')
    (Jv : Nat → Gm → Ms → Prop) (h0 : Jv 0 Γ M1)
    (hs : ∀ E', Le E' E → ∀ n z, zs[n]? = some z → ∀ Γ' M', Jv n Γ' M' → Nx E' ((Γ'.set i (some (RA z))).set j (some (RB z))) M' (tu { D1 with nx := JA E' (Jv (n + 1)), ct := JA E' (Jv (n + 1)), bk := D1.nx }))
    (hd : ∀ Γ' M', Jv zs.length Γ' M' → Nx E Γ' M' D1.nx) :
    ∃ W : Nat → Nat → St → Hp → Prop, (∃ m, W 0 m σ H1) ∧ ∀ n m σ H, W n m σ H →
      (J.stop n H ∧ D1.nx σ H) ∨ (J.go n H ∧ ∃ N : St → Hp → Prop, (∀ σ' H', N σ' H' → ∃ m', m' < m ∧ W (n + 1) m' σ' H') ∧ ∀ x H', J.yld n H x H' → gPair K i j x σ H' fun σ2 H2 => tu { D1 with nx := N, ct := N, bk := D1.nx } σ2 H2) := by
  refine for_it w (fun n σ H => JA ⟨F1, H1, keys M1⟩ (Jv n) σ H) ⟨Γ, M1, h0, F1, g1.enter, b⟩ (fun n σ2 H2 _ ⟨Γ', M', _, F2, g2, _⟩ => hG F2 H2 g2.gr.ex g2.ex) (fun n x σ2 H2 H3 hn ⟨Γ', M', hJ, F2, g2, b2⟩ y => ?_) (fun σ2 H2 ⟨Γ', M', hJ, at2⟩ => hd Γ' M' hJ _ _ (at2.le g1.le))
  obtain ⟨T, x1, y1, rfl, hT, rfl, hx1, hy1⟩ := y
  obtain ⟨PA, hPA, hxA⟩ := paired_get' hu hx1
  obtain ⟨PB, hPB, hyB⟩ := paired_get' hv hy1
  have hzn : zs[n]? = some zs[n] := List.getElem?_eq_getElem hn
  rw [List.getElem?_map, hzn] at hPA hPB
  have hPA : RA zs[n] = PA := Option.some.inj hPA
  have hPB : RB zs[n] = PB := Option.some.inj hPB
  subst hPA; subst hPB
  exact ⟨T, [x1, y1], rfl, SqT.of upd_same, rfl, x1, [y1], rfl, y1, [], rfl, rfl, hs ⟨F1, H1, keys M1⟩ g1.le n _ hzn Γ' M' hJ _ _ ⟨F2, g2.junk hT, (b2.set i ((RA zs[n]).mono g2.gr.ex hxA)).set j ((RB zs[n]).mono g2.gr.ex hyB)⟩⟩
end
theorem pg_tupK {X : Cx} {es : List PySem.Expr} {k : Nat} {t : TGs} {n : Nat} {pos : Pos} (eK : X.K = K) (hc : X.calm = true) (h : PGs X es t)
    (hn : (assignEach es X.env).length = n := by rfl) (hst : (assignEach es X.env).findIdx? (·.1) = none := by rfl) : PG X (.Tuple es k pos) (gTup K n t) := eK ▸ pg_tup hc h hn hst
/-! the walks, told over what stands -/
theorem walk_enumTP {a : Addr} {xs : List V} : Walk (IteT K a) xs.length (fun H => SqT K H a xs) (YPair (fun i => ((List.range xs.length).map fun n : Nat => V.int n)[i]?) (fun i => xs[i]?)) := by
  refine ⟨fun n _ hn q => ⟨xs, xs[n], q, by simp [hn]⟩, fun _ q => ⟨xs, q, Nat.le_refl _⟩, fun n H v H' hn q y => ?_⟩
  obtain ⟨T, x, h1, h2, h3, h4⟩ := y
  exact ⟨T, .int (n : Nat), x, h1, h2, h3, by show ((List.range xs.length).map fun n : Nat => V.int n)[n]? = _; rw [List.getElem?_map, List.getElem?_range hn]; rfl, h4 xs q⟩
theorem range_ints (n : Nat) : Ps F ((List.range n).map fun n : Nat => V.int n) ((List.range n).map fun n : Nat => D K (.int n)) := by
  generalize List.range n = l
  induction l with
  | nil => exact .nil
  | cons a l ih => exact .cons (.int _) ih
variable {α : Type} {xs : List α} {R : α → MP}
theorem zipIdx_fst {xs : List α} {R : α → MP} : (xs.zipIdx.map fun p => R p.1) = xs.map R := by
  rw [show (fun p : α × Nat => R p.1) = R ∘ Prod.fst from rfl, ← List.map_map, List.zipIdx_map_fst]
theorem zipIdx_snd {xs : List α} {K : PySem.W.Frag} : (xs.zipIdx.map fun p => D K (.int p.2)) = (List.range xs.length).map fun n : Nat => D K (.int n) := by
  rw [show (fun p : α × Nat => D K (.int p.2)) = (fun n : Nat => D K (.int n)) ∘ Prod.snd from rfl, ← List.map_map, List.zipIdx_map_snd, List.range_eq_range']
theorem go_forEnumT (h : Ev tl Γ M (PTu K (xs.map R)) M1) (Jv : Nat → Gm → Ms → Prop) (h0 : Jv 0 Γ M1)
    (hs : ∀ E', Le E' E → ∀ n x, xs[n]? = some x → ∀ Γ' M', Jv n Γ' M' → Nx E' ((Γ'.set i (some (D K (.int n)))).set j (some (R x))) M' (tu { D1 with nx := JA E' (Jv (n + 1)), ct := JA E' (Jv (n + 1)), bk := D1.nx }))
    (hd : ∀ Γ' M', Jv xs.length Γ' M' → Nx E Γ' M' D1.nx) : Nx E Γ M (tFor (iEnumT K (tCons tl tNil)) (gPair K i j) tu D1) := fun σ H ⟨F, a, b⟩ => h E F σ H a b _ fun v F1 H1 e1 g1 ⟨p, vs, hp, s, q⟩ => by
  have hl : xs.zipIdx.length = vs.length := by rw [List.length_zipIdx, paired_len q, List.length_map]
  refine ⟨p, vs, by rw [hp], Evl.ex_t g1.ex s, ?_⟩
  refine for_pairs (K := K) (zs := xs.zipIdx) (RA := fun z => D K (.int z.2)) (RB := fun z => R z.1) (us := (List.range vs.length).map fun n : Nat => V.int n) (vs := vs) (Q := True) (by rw [hl]; exact walk_enumTP) g1 (b.mono e1) (by rw [zipIdx_snd, ← List.length_zipIdx (l := xs), hl]; exact range_ints _) (by rw [zipIdx_fst]; exact q) (fun F' H' e e' => Evl.ex_t (e.trans e') s) Jv h0 (fun E' hE n z hz Γ' M' hJ => ?_) (by rw [List.length_zipIdx]; exact hd)
  have : xs[n]? = some z.1 ∧ z.2 = n := by
    rw [List.getElem?_zipIdx] at hz
    obtain ⟨x, hx, rfl⟩ := Option.map_eq_some_iff.mp hz
    exact ⟨hx, by simp⟩
  rw [this.2]
  exact hs E' hE n z.1 this.1 Γ' M' hJ
end
end Hq
namespace Hq
open PySem L2
/-! ### min(xs) of tuples of ints: where the first is a least one -/
section
variable {K : PySem.W.Frag} {E : Ent} {F H : Hp} {M M1 M2 : Ms} {Γ : Gm} {P : MP} {O : MO} {q : Addr} {te ta tb tl tl1 : TE} {tr : TA} {D1 : Ends} {tu tz : TS} {t t0 u : TT} {ps : List MP} {i j : Nat}
/-! ### a comprehension with two generators -/
theorem ev_str {x : Str} : Ev (tC (.str x)) Γ M (D K (.str x)) M := ev_cv fun _ => .str x
end
end Hq
/-! HqSc: the bits of a number by its text. -/
namespace Hq
open PySem PySem.Spec PyProof.Rows L2
/-- the text x from its end, each letter in a new pair with its number -/
def Itrs (x : Str) : It :=
  ⟨fun i _ => i < x.cps.size, fun i H v H' => ∃ T c, v = .ref T ∧ H T = none ∧ H' = upd H T (.tup [.int (i : Nat), .str ⟨#[c]⟩]) ∧ x.cps[x.cps.size - 1 - i]? = some c, fun i _ => x.cps.size ≤ i⟩
theorem turn_rs {P : Program} {w : World} {K : PySem.W.Frag} {elts : List PySem.Expr} {kk : Nat} {tpos : Pos} {x : Str} {t : Tok} (hsz : (x.length : Int) < 2 ^ 62) (e it : Addr) :
    Turn P w K (.Tuple elts kk tpos) (Itrs x) [e, it] e (fun i h => i ≤ x.cps.size ∧ (∃ old, IsEnum h e it ((i : Nat) : Int) old) ∧ IsRs h it x t ((x.cps.size : Int) - 1 - (i : Nat)) ∧ e ≠ it) where
  mem := by simp
  obj := fun i h st b hb => by
    obtain ⟨_, ⟨old, he⟩, ⟨o, ho, hc, hd⟩, _⟩ := st
    rcases (by simpa using hb : b = e ∨ b = it) with z | z <;> rw [z]
    · exact ⟨_, he, fun v q => nomatch q⟩
    · exact ⟨o, ho, fun v q => by rw [hd] at q; cases q⟩
  keep := fun i h h' st k => let ⟨hl, ⟨old, he⟩, hi, hne⟩ := st; ⟨hl, ⟨old, k e (by simp) _ he⟩, hi.at fun o q => k it (by simp) o q, hne⟩
  item := by
    intro X hP hw hK hc i pins s σ H E I hf st hg
    subst hP hw hK
    obtain ⟨hl, ⟨old, he⟩, hit, hne⟩ := st
    have hi : i < x.cps.size := hg
    have hel : e < s.heap.objs.size := Heap.lt_size he
    have hil : it < s.heap.objs.size := by obtain ⟨_, q, _⟩ := hit; exact Heap.lt_size q
    refine wpAny_pyNext_enum_itemD (draws_rs (A := X.A.in1) (I.ok.hd hc) it x t hsz) he ⟨hl, hit⟩ hi hne (by simpa using hne) fun v h' tk hv ho hit' hT hsz' hk => ?_
    obtain ⟨c, u, hcx, rfl⟩ := hv
    refine ⟨_, rfl, wpAny_letOwnedTupleGo_enum (s := { s with heap := h', toks := tk + 1 }) ho fun h2 he' sb => ?_⟩
    have hT2 : h2.get? s.heap.objs.size = some { cls := .type "tuple", data := .seq #[.int i tk, .str ⟨#[c]⟩ u] } := (sb.2 _ (Nat.ne_of_gt hel)).trans hT
    have new : ObjOk X.prog X.w (upd H s.heap.objs.size (.tup [.int (i : Nat), .str ⟨#[c]⟩])) h2 s.heap.objs.size (.tup [.int (i : Nat), .str ⟨#[c]⟩]) :=
      ⟨by show 2 ≤ sizeLine; decide, [.int i tk, .str ⟨#[c]⟩ u], .cons ⟨_, rfl⟩ (.cons ⟨_, rfl⟩ .nil), ⟨_, hT2, rfl, _, rfl⟩⟩
    have I1 : Inv X pins σ (upd H s.heap.objs.size (.tup [.int (i : Nat), .str ⟨#[c]⟩])) { s with heap := h2, toks := tk + 1 } :=
      I.turnedNew (ch := [e, it]) (fun b o hb q => (sb.2 b (fun z => hb (by simp [z]))).trans (hk b o (fun z => hb (by simp [z])) (fun z => hb (by simp [z])) q)) hf (Nat.le_refl _) new
    refine ⟨.ref s.heap.objs.size, _, I1, rfl, ⟨_, c, rfl, I.hok.fresh (Nat.le_refl _), rfl, hcx⟩, ⟨hi, ⟨.str ⟨#[c]⟩ u, ?_⟩, hit'.2.at fun o q => (sb.2 it (Ne.symm hne)).trans q, hne⟩, fun b hb => ?_⟩
    · rw [show ((i + 1 : Nat) : Int) = (i : Int) + 1 by omega]; exact he'
    · have hb' : b < s.heap.objs.size := by rcases (by simpa using hb : b = e ∨ b = it) with z | z <;> rw [z] <;> assumption
      rw [upd_ne (Nat.ne_of_lt hb')]
      exact (hf b hb).1
  done := by
    intro X hP hw hK hc i pins s σ H E I hf st hg
    subst hP hw hK
    obtain ⟨hl, ⟨old, he⟩, hit, hne⟩ := st
    obtain ⟨f0, f1, f2, f3, f4, f5⟩ := hf it (by simp)
    obtain rfl : i = x.cps.size := Nat.le_antisymm hl hg
    exact wpAny_pyNext_enum_endD (draws_rs (A := X.A.in1) (I.ok.hd hc) it x t hsz) he ⟨hl, hit⟩ fun h' eb => ⟨rfl, I.turned (t' := s.toks) (fun b o hb q => eb b o hb q) f0 f1 f3 f4 f5⟩
  self := fun A i s Q E st h => let ⟨_, ⟨_, he⟩, _⟩ := st; wpAny_pyIter_enum he h
/-- enumerate(reversed(x)), x a text -/
def iEnRs (te : TE) : TI := fun σ H R => te σ H fun v H1 => ∃ y : Str, v = .str y ∧ (y.length : Int) < 2 ^ 62 ∧ R (Itrs y) H1
section
variable {X : Cx} {e : PySem.Expr} {te : TE}
theorem pi_enRs {p p2 pos pos2 tpos : Pos} {elts : List PySem.Expr} {kk : Nat} (hg : Gl X "enumerate") (hm : X.mg "enumerate" = none) (hg2 : Gl X "reversed") (hm2 : X.mg "reversed" = none) (he : PE X e te)
    (hs : starEach [e] X.env = (false, eval e X.env) :: starEach [] X.env := by rfl)
    (hs2 : starEach [PySem.Expr.Call (.Name "reversed" p2) [e] [] pos2] X.env = (false, eval (.Call (.Name "reversed" p2) [e] [] pos2) X.env) :: starEach [] X.env := by rfl) :
    PI X (.Tuple elts kk tpos) (.Call (.Name "enumerate" p) [.Call (.Name "reversed" p2) [e] [] pos2] [] pos) (iEnRs te) := by
  refine ⟨fun pins s σ H R I h => ?_⟩
  refine Call_ (ld_blt I hg hm boot_enumerate (PyProof.Rows.callWith_type1 (args_cons ?_ hs2) hs2 rfl))
  refine Call_ (ld_blt I hg2 hm2 PyProof.Rows.boot_reversed (PyProof.Rows.callWith_type1 (args_cons (thn (he.run pins s σ H _ I h) fun u s1 ⟨v, H1, I1, r1, y, ev, hy, q⟩ => args_nil ?_) hs) hs rfl))
  subst ev
  obtain ⟨t, rfl⟩ : ∃ t, u = Value.str y t := r1
  refine call_rs (by omega) (args_nil ?_)
  have hs1 : (s1.heap.push { cls := .type "reversed", data := .fields #[.str y t, rawInt ((y.length : Int) - 1)] }).objs.size = s1.heap.objs.size + 1 := Heap.size_push ..
  have k : IsRs (s1.heap.push { cls := .type "reversed", data := .fields #[.str y t, rawInt ((y.length : Int) - 1)] }) s1.heap.objs.size y t ((y.length : Int) - 1) := ⟨_, Heap.get?_push_size _ rfl, rfl, rfl⟩
  have I2 : Inv X pins σ H1 { s1 with heap := s1.heap.push { cls := .type "reversed", data := .fields #[.str y t, rawInt ((y.length : Int) - 1)] }, toks := s1.toks + 1 + 1 } := I1.kept fun b o q => Heap.get?_push_of_some _ q
  refine call_enumR (s := { s1 with heap := s1.heap.push { cls := .type "reversed", data := .fields #[.str y t, rawInt ((y.length : Int) - 1)] }, toks := s1.toks + 1 + 1 }) k fun h' he' hk => wpAny_pyIter_enum he' ?_
  have I3 : Inv X pins σ H1 { s1 with heap := h', toks := s1.toks + 1 + 1 } := I2.kept (t' := s1.toks + 1 + 1) hk
  refine ⟨_, [_, s1.heap.objs.size], _, _, H1, rfl, I3, turn_rs (t := t) hy _ s1.heap.objs.size, ⟨Nat.zero_le _, ⟨_, he'⟩, ?_, ?_⟩, fun b hb => ?_, q⟩
  · have k2 := k.at (h' := h') fun o q => hk _ _ q
    have e0 : (y.length : Int) - 1 = (y.cps.size : Int) - 1 - ((0 : Nat) : Int) := by show (y.cps.size : Int) - 1 = _; omega
    exact e0 ▸ k2
  · show (s1.heap.push _).objs.size ≠ _
    rw [hs1]; exact Nat.succ_ne_self _
  · have hle : s1.heap.objs.size ≤ b := by
      rcases (by simpa using hb : b = (s1.heap.push { cls := .type "reversed", data := .fields #[.str y t, rawInt ((y.length : Int) - 1)] }).objs.size ∨ b = s1.heap.objs.size) with z | z
      · rw [z, hs1]; exact Nat.le_add_right _ _
      · rw [z]; exact Nat.le_refl _
    exact I1.fpOk hle (I1.hok.fresh hle)
/-- f'{x:b}', x a number -/
def tFmtB (te : TE) : TE := fun σ H Q => te σ H fun v H1 => ∃ n : Nat, v = .int n ∧ (binS n).length ≤ sizeLine ∧ Q (.str (binS n)) H1
theorem pe_fmtB {k : Nat} {p1 p2 p3 p4 : Pos} (he : PE X e te) : PE X (.JoinedStr [.FormattedValue e (-1) (some (.JoinedStr [.Constant (.str spB) k p1] p2)) p3] p4) (tFmtB te) := by
  refine ⟨fun pins s σ H Q I h => wpAny_JoinedStr_one (wpAny_FormattedValue_spec (thn (he.run pins s σ H _ I h) fun u s1 ⟨v, H1, I1, r1, n, ev, hn, q⟩ => ?_))⟩
  subst ev
  obtain ⟨t, rfl⟩ : ∃ t, u = Value.int (n : Int) t := r1
  refine wpAny_JoinedStr_one (wpAny_Constant_str ⟨spB, _, rfl, ?_⟩)
  refine wpAny_formatField_spec (by decide) (fun s' => typeIs_int s' _ t) F.slot_int_format F.entry_int_format F.args_int_format_2 (gives_fmtB n t) ?_ (by decide) hn
  exact ⟨.str (binS n), H1, I1.kept fun b o q => q, ⟨_, rfl⟩, q⟩
end
end Hq
/-! HqSd: bits_of: the bits that are set in a number, in their order. -/
namespace Hq
open PySem PySem.Spec L2
theorem binL_small {n : Nat} (h : n < 2) : binL n = [if n.testBit 0 then 49 else 48] := by
  unfold binL
  rw [Nat.toDigits_of_lt_base h]
  rcases (by omega : n = 0 ∨ n = 1) with rfl | rfl <;> decide
theorem binL_step {n : Nat} (h : 2 ≤ n) : binL n = binL (n / 2) ++ [if n.testBit 0 then 49 else 48] := by
  unfold binL
  rw [Nat.toDigits_of_base_le (by decide) h, List.map_append]
  congr 1
  have e : n.testBit 0 = decide (n % 2 = 1) := Nat.testBit_zero n
  rw [e]
  rcases (by omega : n % 2 = 0 ∨ n % 2 = 1) with q | q <;> rw [q] <;> decide
theorem binL_rev (n : Nat) : (binL n).reverse = (List.range (binL n).length).map fun i => if n.testBit i then 49 else 48 := by
  induction n using Nat.strongRecOn with
  | _ n ih =>
    by_cases h : n < 2
    · rw [binL_small h]; rfl
    · have hs := binL_step (by omega : 2 ≤ n)
      rw [hs, List.reverse_append, List.length_append, ih (n / 2) (by omega)]
      show _ = (List.range ((binL (n / 2)).length + 1)).map _
      rw [List.range_succ_eq_map, List.map_cons, List.map_map]
      show [_] ++ _ = _
      rw [List.singleton_append]
      refine congrArg _ (List.map_congr_left fun i _ => ?_)
      show _ = if n.testBit (i + 1) then 49 else 48
      rw [Nat.testBit_succ]
theorem binL_lt (n : Nat) : n < 2 ^ (binL n).length := by
  induction n using Nat.strongRecOn with
  | _ n ih =>
    by_cases h : n < 2
    · rw [binL_small h]; exact h
    · have hs := binL_step (by omega : 2 ≤ n)
      have q := ih (n / 2) (by omega)
      rw [hs, List.length_append]
      show n < 2 ^ ((binL (n / 2)).length + 1)
      rw [Nat.pow_succ]
      omega
theorem binL_len {n w : Nat} (hw : 1 ≤ w) (h : n < 2 ^ w) : (binL n).length ≤ w := by
  unfold binL
  rw [List.length_map]
  exact (Nat.length_toDigits_le_iff (by decide) hw).mpr h
/-- the bits that are set, in their order -/
def bitsL (n : Nat) : List Nat := (List.range (binL n).length).filter n.testBit
theorem mem_bitsL {n i : Nat} : i ∈ bitsL n ↔ n.testBit i = true := by
  unfold bitsL
  rw [List.mem_filter, List.mem_range]
  refine ⟨fun q => q.2, fun q => ⟨?_, q⟩⟩
  have l := binL_lt n
  rcases Nat.lt_or_ge i (binL n).length with z | z
  · exact z
  · have : n < 2 ^ i := Nat.lt_of_lt_of_le l (Nat.pow_le_pow_right (by decide) z)
    rw [Nat.testBit_lt_two_pow this] at q
    cases q
theorem bitsL_sorted (n : Nat) : (bitsL n).Pairwise (· < ·) := List.Pairwise.filter _ List.pairwise_lt_range
section
variable {K : PySem.W.Frag} {E : Ent} {F H : Hp} {M M1 : Ms} {Γ : Gm} {tl te : TE} {t : TT} {i j : Nat}
theorem walk_rs {n : Nat} : Walk (Itrs (binS n)) (binL n).length (fun _ => True) (YPair (fun i => ((List.range (binL n).length).map fun k : Nat => V.int k)[i]?) (fun i => ((List.range (binL n).length).map fun k => V.str ⟨#[if n.testBit k then 49 else 48]⟩)[i]?)) := by
  have hz : (binS n).cps.size = (binL n).length := List.size_toArray
  refine ⟨fun m _ hm _ => by show m < _; rw [hz]; exact hm, fun _ _ => by show _ ≤ (binL n).length; rw [hz]; exact Nat.le_refl _, fun m H v H' hm _ y => ?_⟩
  obtain ⟨T, c, h1, h2, h3, h4⟩ := y
  refine ⟨T, _, _, h1, h2, h3, ?_, ?_⟩
  · show ((List.range (binL n).length).map _)[m]? = _
    rw [List.getElem?_map, List.getElem?_range hm]; rfl
  · show ((List.range (binL n).length).map _)[m]? = _
    rw [hz] at h4
    have h5 : (binL n)[(binL n).length - 1 - m]? = some c := by
      have : (binS n).cps[(binL n).length - 1 - m]? = (binL n)[(binL n).length - 1 - m]? := List.getElem?_toArray
      rw [← this]; exact h4
    have h6 : (binL n).reverse[m]? = some c := by rw [List.getElem?_reverse hm]; exact h5
    rw [binL_rev, List.getElem?_map, List.getElem?_range hm] at h6
    rw [List.getElem?_map, List.getElem?_range hm]
    have : (if n.testBit m = true then 49 else 48) = c := Option.some.inj h6
    show some (V.str ⟨#[_]⟩) = _
    rw [this]
theorem ps_strs {f : Nat → Str} (l : List Nat) : Ps F (l.map fun k => V.str (f k)) (l.map fun k => D K (.str (f k))) := by
  induction l with
  | nil => exact .nil
  | cons a l ih => exact .cons (.str _) ih
theorem evn_lcBits {G : Nat → MP} {n : Nat} (hij : i ≠ j) (h : Ev tl Γ M (D K (.int (n : Int))) M1) (hz : (binL n).length ≤ 50000)
    (ht : ∀ (k : Nat) (b : Bool), EvT t ((((Γ.set j none).set i none).set i (some (D K (.int k)))).set j (some (D K (.str ⟨#[if b then 49 else 48]⟩)))) M1 (· = b) M1)
    (he : ∀ k : Nat, n.testBit k = true → Ev te ((((Γ.set j none).set i none).set i (some (D K (.int k)))).set j (some (D K (.str ⟨#[49]⟩)))) M1 (G k) M1) :
    EvN (tLc (iEnRs (tFmtB tl)) (gPair K i j) t te [i, j]) Γ M (ML ((bitsL n).map G)) M1 := fun E F σ H a b Q k => h E F σ H a b _ fun v F1 H1 e1 g1 p => by
  have hv : v = .int n := dp_int p
  have hl : (binS n).length = (binL n).length := List.size_toArray
  refine ⟨n, hv, by rw [hl]; exact Nat.le_trans hz (by decide), binS n, rfl, by rw [hl]; omega, ?_⟩
  refine lc_pairs (K := K) (zs := List.range (binL n).length) (f := n.testBit) (RA := fun k => D K (.int k)) (RB := fun k => D K (.str ⟨#[if n.testBit k then 49 else 48]⟩)) (Gd := fun _ => True) hij (by rw [List.length_range]; exact walk_rs) (by rw [List.length_range]; exact hz) g1 (b.mono e1) (range_ints _) (ps_strs _) (fun _ _ _ _ => trivial) (fun z _ => ht z _) (fun z _ hb => ?_) fun q F' H' f e g => k q F' H' f (e1.trans e) g
  have q := he z hb
  rw [hb]
  exact q
end
end Hq
namespace Hq
open PySem L2
section
variable {K : PySem.W.Frag} {E : Ent} {F H : Hp} {M M1 M2 : Ms} {Γ : Gm} {P P1 : MP} {O : MO} {q : Addr} {te ta tb tl tk : TE} {tr : TA} {D1 : Ends} {tu tz : TS} {t u : TT} {ps : List MP} {i j : Nat} {l : List Int}
/-- the last list is given away, named -/
theorem nx_own {f} {q : Addr} {l : List Int} (e : M[j]? = some (q, MInts K l)) (hq : E.H q = none) (hg : Γ[i]? = some (some (Own q))) (h : Nx E (Γ.set i (some (D K (dL l)))) (M.eraseIdx j) f) : Nx E Γ M f :=
  nx_freeze (K := K) (i := i) j e hq hg (nx_le (i := i) (P := PLi K (l.map fun n => D K (.int n))) (by
    have hi := (List.getElem?_eq_some_iff.mp hg).1
    rw [List.getElem?_set_self hi]) dL_le (by rw [List.set_set]; exact h))
end
end Hq
namespace Hq
open PySem L2
section
variable {K : PySem.W.Frag} {E : Ent} {F H : Hp} {M M1 M2 : Ms} {Γ : Gm} {P P1 : MP} {O : MO} {q : Addr} {te ta tb tl tk : TE} {tr : TA} {D1 : Ends} {tu tz : TS} {t u : TT} {ps qs : List MP} {i j v : Nat} {l : List Int} {b : Bool}
theorem rv_ixWd {i : Int} (h0 : 0 ≤ i) (h : i.toNat < l.length) : RV (rIx K) (D K (dW b l)) (D K (.int i)) M (D K (.int (l.getD i.toNat 0))) M :=
  rv_ixW h0 (by rw [List.getElem?_map, List.getElem?_eq_getElem h, List.getD_eq_getElem?_getD, List.getElem?_eq_getElem h]; rfl)
theorem rv_ixDLd {i : Int} (h0 : 0 ≤ i) (h : i.toNat < l.length) : RV (rIx K) (D K (dL l)) (D K (.int i)) M (D K (.int (l.getD i.toNat 0))) M := rv_ixWd (b := false) h0 h
theorem rv_ixDTd {i : Int} (h0 : 0 ≤ i) (h : i.toNat < l.length) : RV (rIx K) (D K (dT l)) (D K (.int i)) M (D K (.int (l.getD i.toNat 0))) M := rv_ixWd (b := true) h0 h
end
end Hq
namespace Hq
open PySem L2
section
variable {K : PySem.W.Frag} {E : Ent} {F H : Hp} {M M1 M2 : Ms} {Γ : Gm} {P P1 : MP} {O : MO} {q : Addr} {te ta tb tl tk : TE} {tr : TA} {D1 : Ends} {tu tz : TS} {t u : TT} {ps qs : List MP} {i j v : Nat} {l : List Int} {b : Bool}
/-- an own list is given away; that it is a list in the heap itself stays known -/
theorem nx_freezeFr {f} (j : Nat) (e : M[j]? = some (q, O)) (hq : E.H q = none) (hg : Γ[i]? = some (some (Own q))) (h : Nx E (Γ.set i (some (Fr O))) (M.eraseIdx j) f) : Nx E Γ M f := by
  rintro σ H ⟨F, a, b⟩
  obtain ⟨fq, o, ho, hO⟩ := a.at e
  have ex : Ex F (upd F q o) := Evl.Ex.new fq
  exact h σ H ⟨_, a.freeze e hq ho, (b.mono ex).upd hg fun v hv => ⟨q, o, hv, upd_same, O.mono ex hO⟩⟩
end
end Hq
namespace Hq
open PySem L2
/-! ### objects with all their fields known, and their methods -/
/-! zip -/
end Hq
namespace Hq
open PySem L2
/-! ### a comprehension with two generators, the inner list by the outer item; comprehensions over zip -/
/-! a dict by a comprehension, kept under a name -/
end Hq
set_option maxHeartbeats 4000000
namespace Hq
open PySem PySem.Spec PyProof.Rows L2
/-! ### tuple * int, any -/
/-! ### a, b = a list of that length -/
end Hq
namespace Hq
open PySem L2
end Hq
namespace Hq
open PySem L2
def MAny : MO := ⟨fun _ o => ∀ xs, o ≠ .tup xs, fun _ h => h, fun h => h⟩
/-- what is wanted if an exception of the class at C leaves -/
def RtE (E : Ent) (M : Ms) (C : Addr) (X : XK) : Prop := ∀ F H, Pt E F M H → X (.ref C) none H
section
variable {K : PySem.W.Frag} {E E0 : Ent} {F H : Hp} {M M1 M2 M' : Ms} {Γ : Gm} {P P1 : MP} {O O' : MO} {q : Addr} {te ta tb tl tk : TE} {tr : TA} {D1 : Ends} {tu tz : TS} {t u : TT} {ps : List MP} {i j : Nat} {C Cx : Addr} {X : XK} {sp : Sp}
theorem RtE.drop (s : List.Sublist M M') (h : RtE E M C X) : RtE E M' C X := fun F H a => h F H (a.drop s)
theorem RtE.le (l : Le E E0) (h : RtE E0 M C X) : RtE E M C X := fun F H a => h F H (l.to _ _ _ a)
theorem RtE.any (h : RtE E [(q, MAny)] C X) (e : M[j]? = some (q, O)) : RtE E M C X := fun F H a => by
  have s : List.Sublist [(q, O)] M := List.singleton_sublist.mpr (List.mem_of_getElem? e)
  exact h F H ((a.drop s).to (j := 0) (O' := MAny) (fun _ _ h => O.nt h) rfl)
end
end Hq
namespace Hq
open PySem L2
end Hq
namespace Hq
open PySem L2
end Hq
namespace Hq
open PySem L2
section
variable {K : PySem.W.Frag} {E E0 : Ent} {F H : Hp} {M M1 M2 M' : Ms} {Γ : Gm} {P P1 : MP} {O O' : MO} {q : Addr} {te ta tb tl tk tv td : TE} {tr : TA} {D1 : Ends} {tu tz : TS} {t u : TT} {ps : List MP} {i j : Nat}
/-! gcd, list.count -/
/-! a dict of ints to ints -/
def MDO (g : Int → Option Int) (n : Nat) : MO := ⟨fun _ o => ∃ kvs : List (Key × V), o = .dK kvs ∧ kvs.length ≤ n ∧ ∀ x : Int, valV kvs (.inl x) = (g x).map V.int, fun _ h => h, fun ⟨kvs, h, _⟩ xs z => by rw [h] at z; cases z⟩
end
end Hq
namespace L2
open PySem PySem.Spec PyProof.Rows
end L2
namespace Hq
open PySem L2
end Hq
namespace Hq
open PySem L2
end Hq
namespace L2
open PySem PySem.Spec PyProof.Rows
end L2
namespace L2
open PySem PySem.Spec PyProof.Rows
end L2
namespace Hq
open PySem L2
end Hq
namespace Hq
open PySem L2
end Hq
namespace L2
open PySem PySem.Spec PyProof.Rows
end L2
namespace Hq
open PySem L2
end Hq
/-! ### zip of a list and a tuple -/
namespace HqA
open PySem PySem.Spec PyProof.Rows L2
theorem sep {I a b : Addr} (ha : a < I) (hb : b < I) : ZipSep2 (I + 4) (I + 2) (I + 3) I (I + 1) [I, a] [I + 1, b] := by
  have ha : @LT.lt Nat _ a I := ha
  have hb : @LT.lt Nat _ b I := hb
  constructor <;> first
    | exact List.mem_cons_self
    | (intro e; have e : ((_ : Nat) = _) := e; omega)
    | (intro h
       rcases List.mem_cons.mp h with e | h
       · have e : ((_ : Nat) = _) := e
         omega
       · have e : ((_ : Nat) = _) := List.mem_singleton.mp h
         omega)
end HqA
namespace Hq
open PySem L2 HqA
end Hq
/-! ### dicts with tuple keys, values of any kind -/
namespace Hq
open PySem L2
end Hq
/-! ### dicts whose keys are tuples of ints and tuples, nested -/
namespace L2
open PySem PySem.Spec PyProof.Rows
mutual
/-- the value is such a key -/
inductive NV (H : Hp) : V → NestedKey → Prop
  | int (i : Int) : NV H (.int i) (.num i)
  | bl (b : Bool) : NV H (.bl b) (.num (if b = true then 1 else 0))
  | non : NV H .non .none
  | tup {b : Addr} {vs : List V} {ks : List NestedKey} : H b = some (.tup vs) → NVs H vs ks → NV H (.ref b) (.tup ks)
inductive NVs (H : Hp) : List V → List NestedKey → Prop
  | nil : NVs H [] []
  | cons {v : V} {k : NestedKey} {vs : List V} {ks : List NestedKey} : NV H v k → NVs H vs ks → NVs H (v :: vs) (k :: ks)
end
mutual
theorem NV.mono {H H' : Hp} (e : ∀ b xs, H b = some (.tup xs) → H' b = some (.tup xs)) : ∀ (k : NestedKey) (v : V), NV H v k → NV H' v k
  | .none, _, h => by cases h; exact .non
  | .num i, _, h => by
    cases h with
    | int => exact .int i
    | bl b => exact .bl b
  | .text _, _, h => by cases h
  | .tup ks, _, h => by
    cases h with
    | tup h1 h2 => exact .tup (e _ _ h1) (NVs.mono e ks _ h2)
theorem NVs.mono {H H' : Hp} (e : ∀ b xs, H b = some (.tup xs) → H' b = some (.tup xs)) : ∀ (ks : List NestedKey) (vs : List V), NVs H vs ks → NVs H' vs ks
  | [], _, h => by cases h; exact .nil
  | k :: ks, _, h => by
    cases h with
    | cons h1 h2 => exact .cons (NV.mono e k _ h1) (NVs.mono e ks _ h2)
end
section
variable {P : Program} {w : World} {H : Hp} {h : Heap}
mutual
theorem NV.is (ok : HOk P w H h) : ∀ (k : NestedKey) (v : V) (u : Value), NV H v k → RelV v u → NestedIs h k u
  | .none, _, u, n, r => by
    cases n
    have r : u = Value.none := r
    subst r; exact .none
  | .num i, _, u, n, r => by
    cases n with
    | int => obtain ⟨t, rfl⟩ := (show ∃ t, u = Value.int i t from r); exact .int i t
    | bl b => have r : u = Value.bool b := r; subst r; exact .bool rfl
  | .text _, _, _, n, _ => by cases n
  | .tup ks, _, u, n, r => by
    cases n with
    | @tup b vs _ h1 h2 =>
      have r : u = Value.ref b := r
      subst r
      obtain ⟨_, its, r2, o, e1, e2, m, e3⟩ := (show ObjOk P w H h b (.tup vs) from ok b _ h1)
      exact .tup e1 e2 e3 (by simpa using NVs.is ok ks vs its h2 r2)
theorem NVs.is (ok : HOk P w H h) : ∀ (ks : List NestedKey) (vs : List V) (us : List Value), NVs H vs ks → Vals vs us → NestedAll h ks us
  | [], _, us, n, r => by cases n; cases r; exact .nil
  | k :: ks, _, us, n, r => by
    cases n with
    | cons n1 n2 =>
      cases r with
      | cons r1 r2 => exact .cons (NV.is ok k _ _ n1 r1) (NVs.is ok ks _ _ n2 r2)
end
end
/-! the terms -/
end L2
namespace Hq
open PySem L2
end Hq
/-! ### sorted lists of lists; try .. except X as e; an object against an int; C(.., an own list) -/
namespace Hq
open PySem L2
end Hq
namespace L2
open PySem PySem.Spec PyProof.Rows
end L2
namespace L2
open PySem PySem.Spec PyProof.Rows
end L2
namespace Hq
open PySem L2
end Hq
namespace L2
open PySem PySem.Spec PyProof.Rows
end L2
namespace L2
open PySem PySem.Spec PyProof.Rows
section
variable {X : Cx}
/-- + of two lists that are read -/
def rCatL (K : PySem.W.Frag) : R2 := fun x y H Q => ∃ l b xs zs, x = .ref l ∧ y = .ref b ∧ SqL K H l xs ∧ SqL K H b zs ∧ xs.length + zs.length ≤ sizeLine ∧ ∀ p, H p = none → Q (.ref p) (upd H p (.lst (xs ++ zs)))
theorem op_catL : OpR X (binaryOp .Add) (rCatL X.K) := by
  intro pins s σ H x y v u Q I rx ry h
  obtain ⟨l, b, xs, zs, rfl, rfl, hH, hB, hz, q⟩ := h
  cases rx
  cases ry
  obtain ⟨its, r, p1, z1⟩ := I.list hH
  obtain ⟨its2, r2, p2, z2⟩ := I.list hB
  have l1 := r.length
  have l2 := r2.length
  obtain ⟨⟨cls, dd, data, sl⟩, ho, hc, n, hd⟩ := p1.isList
  obtain ⟨⟨cls2, dd2, data2, sl2⟩, ho2, hc2, n2, hd2⟩ := p2.isList
  simp only at hc hd hc2 hd2
  subst hc hd hc2 hd2
  have ea : its.toArray ++ its2.toArray = (its ++ its2).toArray := by simp
  refine concat_meets ⟨_, ho, rfl⟩ ⟨_, ho2, rfl⟩ noFill_list_add seq_list_add PySem.F.slot_list_add PySem.F.entry_list_add (PySem.F.args_list_add_2 _ _) (list_addW l b its.toArray its2.toArray n n2 dd dd2 sl sl2 (by rw [List.size_toArray, List.size_toArray]; omega)) ⟨ho, ho2, ?_⟩
  rw [ea]
  exact ⟨.ref _, _, I.lnew (t' := s.toks) (r.append r2) (by rw [List.length_append]; omega), rfl, q _ I.fresh⟩
theorem c_catL {K : PySem.W.Frag} {Y : Cx} (e : Y.K = K) : OpR Y (binaryOp .Add) (rCatL K) := e ▸ op_catL
end
end L2
namespace Hq
open PySem L2
section
variable {K : PySem.W.Frag} {M M1 M2 : Ms} {Γ : Gm} {ta tb : TE} {ps qs : List MP}
theorem evn_catL (h1 : Ev ta Γ M (PLi K ps) M1) (h2 : Ev tb Γ M1 (PLi K qs) M2) (hz : ps.length + qs.length ≤ 100000) : EvN (tOp (rCatL K) ta tb) Γ M (ML (ps ++ qs)) M2 := fun E F σ H a b Q k =>
  h1 E F σ H a b _ fun x F1 H1 e1 g1 p1 => h2 E F1 σ H1 g1 (b.mono e1) _ fun y F2 H2 e2 g2 p2 => by
    obtain ⟨l, xs, rfl, s, q⟩ := (PLi K ps).mono e2 p1
    obtain ⟨l2, ys, rfl, s2, q2⟩ := p2
    refine ⟨l, l2, xs, ys, rfl, rfl, Evl.ex_l g2.ex s, Evl.ex_l g2.ex s2, sz_of (by rw [paired_len q, paired_len q2]; exact hz), fun p hp => ?_⟩
    exact k p F2 _ (g2.fresh hp) (e1.trans e2) (g2.new hp ⟨_, rfl, paired_app q q2⟩)
end
end Hq
namespace Hq
open PySem
theorem kit_ty {K : PySem.W.Frag} {t : Value} {T : String} (h1 : PySem.W.kitMeta T = true) (h2 : PySem.W.subIn K t (.type T) = some true) : PySem.W.kitOne K t (.type T) = some true := by
  unfold PySem.W.kitOne
  split
  · rfl
  · show (if PySem.W.kitMeta T = true then PySem.W.subIn K t (.type T) else none) = some true
    rw [if_pos h1]; exact h2
end Hq
/-! ### dicts of ints to ints, list(range(..)), unpacking three, isinstance of an own object -/
namespace Hq
open PySem L2
section
variable {K : PySem.W.Frag} {E E0 : Ent} {F H : Hp} {M M1 M2 M' : Ms} {Γ : Gm} {P P1 : MP} {O O' : MO} {q : Addr} {te ta tb tl tk tv td : TE} {tr : TA} {D1 : Ends} {tu tz : TS} {t u : TT} {ps : List MP} {i j : Nat}
theorem evn_dnewI : EvN tDNewK Γ M (MDO (fun _ => none) 0) M := fun E F σ H a b Q k p hp => k p F _ (a.fresh hp) (Evl.Ex.refl _) (a.new hp ⟨[], rfl, Nat.le_refl _, fun _ => rfl⟩)
theorem go_dputI {g : Int → Option Int} {n : Nat} {x v : Int} (hv : Ev tv Γ M (D K (.int v)) M1) (hd : Ev td Γ M1 (Own q) M1) (hk : Ev tk Γ M1 (D K (.int x)) M1) (e : M1[j]? = some (q, MDO g n)) (hn : n < 50000) (k : Nx E Γ (M1.set j (q, MDO (fun y => if y = x then some v else g y) (n + 1))) D1.nx) : Nx E Γ M (sDPut td tk tv D1) := fun σ H ⟨F, a, b⟩ => by
  refine hv E F σ H a b _ fun y F1 H1 e1 g1 p1 => hd E F1 σ H1 g1 (b.mono e1) _ fun w F2 H2 e2 g2 p2 => hk E F2 σ H2 g2 (b.mono (e1.trans e2)) _ fun z F3 H3 e3 g3 p3 => ?_
  cases dp_int p1
  cases dp_int p3
  have p2 : w = .ref q := p2
  subst p2
  obtain ⟨fq, o, ho, kvs, rfl, hl, hkv⟩ := g3.at e
  refine ⟨q, _, rfl, DPut.k (k := .inl x) ho (sz_lt (by omega)), ?_⟩
  refine k _ _ ⟨F3, g3.mut e ⟨_, rfl, Nat.le_trans (length_putK _ _ _) (by omega), fun y => ?_⟩, b.mono ((e1.trans e2).trans e3)⟩
  rw [valV_put]
  by_cases c : y = x
  · subst c; rw [if_pos rfl]; show some (V.int v) = Option.map V.int (if y = y then some v else g y); rw [if_pos rfl]; rfl
  · rw [if_neg (fun z => c (Sum.inl.inj z))]; show _ = Option.map V.int (if y = x then some v else g y); rw [if_neg c, hkv]
theorem q_dputI {g : Int → Option Int} {n : Nat} {x v : Int} (hv : Ev tv Γ M (D K (.int v)) M1) (hd : Ev td Γ M1 (Own q) M1) (hk : Ev tk Γ M1 (D K (.int x)) M1) (e : M1[j]? = some (q, MDO g n)) (hn : n < 50000) (k : Nx E Γ (M1.set j (q, MDO (fun y => if y = x then some v else g y) (n + 1))) (tz D1)) : Nx E Γ M (tSeq (sDPut td tk tv) tz D1) :=
  go_dputI (D1 := { D1 with nx := tz D1 }) hv hd hk e hn k
/-! the keys alone -/
/-! list(range(n)) -/
theorem evn_listRg {n : Nat} (h : Ev te Γ M (D K (.int (n : Int))) M1) (hn : n ≤ 10000) : EvN (tLstRg (tRg1 te)) Γ M (MInts K ((List.range n).map fun i : Nat => (i : Int))) M1 := fun E F σ H a b Q k => h E F σ H a b _ fun v F1 H1 e1 g1 p1 => by
  cases dp_int p1
  refine ⟨(n : Int), rfl, RgOk.of_le (by omega) (by omega) (by omega) (by omega), fun l hl => k l F1 _ (g1.fresh hl) e1 (g1.new hl ⟨_, rfl, ?_⟩)⟩
  have e : rgV 0 (n : Int) = ((List.range n).map fun i : Nat => (i : Int)).map V.int := by
    unfold rgV
    rw [Int.sub_zero, Int.toNat_natCast, List.map_map]
    exact List.map_congr_left fun i _ => by show V.int (0 + (i : Int)) = V.int (i : Int); rw [Int.zero_add]
  rw [e]
  exact map_ints _
/-! a, b, c = e -/
theorem q_unp3 {α : Type} {φ : α → Prop} {R1 R2 R3 : α → MP} {l : Nat} (h : Ev te Γ M (PEx fun x => PAn (φ x) (PTu K [R1 x, R2 x, R3 x])) M1) (k : ∀ x, φ x → Nx E (((Γ.set i (some (R1 x))).set j (some (R2 x))).set l (some (R3 x))) M1 (tz D1)) :
    Nx E Γ M (tSeq (tAsg te (gTup K 3 (gCons (gName i) (gCons (gName j) (gCons (gName l) gNil))))) tz D1) := fun σ H ⟨F, a, b⟩ => h E F σ H a b _ fun v F1 H1 e1 g1 ⟨x, hx, p, vs, ev, s, q⟩ => by
  cases q with
  | @cons y _ _ _ hy q =>
    cases q with
    | @cons z _ _ _ hz q =>
      cases q with
      | @cons u _ _ _ hu q =>
        cases q
        exact ⟨p, [y, z, u], ev, Evl.ex_t g1.ex s, rfl, y, [z, u], rfl, z, [u], rfl, u, [], rfl, rfl, k x hx _ _ ⟨F1, g1, (((b.mono e1).set i hy).set j hz).set l hu⟩⟩
/-! isinstance(o, C) -/
end
end Hq
namespace Hq
open PySem L2
end Hq
/-! ### own lists of own lists: read by a call and owned after it -/
namespace Hq
open PySem L2
end Hq
/-! ### tuple(range(n)) -/
namespace Hq
open PySem L2
end Hq
/-! ### searches: dicts with tuple keys and values of any kind read by d[t], t not in d; tuple(reversed(xs)) -/
namespace Hq
open PySem L2 RT
end Hq
/-! ### all([..]), min of two, xs.extend(ys), for a, b in zip of lists, return f(..) that raises -/
namespace Hq
open PySem L2
end Hq
namespace Hq
open PySem L2
/-! cells and made functions: tracked while a call runs to which the functions are handed -/
/-- the object at a is just o -/
def PinO (a : Addr) (o : Obj) : HO := .ext fun h => h.get? a = some o
abbrev Pins := List (Addr × Obj)
section
variable {C : Pins} {H H' F F' : Hp} {a c : Addr} {o : Obj} {E : Ent} {M M' B : Ms}
theorem look_of_mem (nd : (C.map (·.1)).Nodup) {p : Addr × Obj} (h : p ∈ C) : C.lookup p.1 = some p.2 := by
  induction C with
  | nil => cases h
  | cons r t ih =>
    rw [List.map_cons, List.nodup_cons] at nd
    rcases List.mem_cons.mp h with z | z
    · rw [z, List.lookup_cons, beq_self_eq_true]
    · have ne : (p.1 == r.1) = false := by
        rw [beq_eq_false_iff_ne]
        intro e
        exact nd.1 (e ▸ List.mem_map_of_mem z)
      rw [List.lookup_cons, ne]
      exact ih nd.2 z
/-- B owns just C's cells -/
structure Holds (C : Pins) (B : Ms) : Prop where
  nd : (C.map (·.1)).Nodup
  key : keys B = C.map (·.1)
  pin : ∀ q ∈ B, ∀ o, C.lookup q.1 = some o → ∀ F u, q.2.p F u → u = PinO q.1 o
end
/-! a made function as a value: what stands of it, what its calls give -/
end Hq
namespace Hq
open PySem L2 NdefX LamX
/-! a call to which functions made here are handed: the captured cells are tracked meanwhile -/
/-- the cells of the names ys, one after the other, with what they hold -/
inductive Capt (cells : List (Str × Addr)) : List Str → List V → Pins → Prop
  | nil : Capt cells [] [] []
  | cons {y : Str} {c : Addr} {o : Obj} {u : Value} {v : V} {ys : List Str} {ws : List V} {C : Pins} : cells.lookup y = some c → o.data = .cell (some u) → RelV v u → Capt cells ys ws C → Capt cells (y :: ys) (v :: ws) ((c, o) :: C)
section
variable {cells : List (Str × Addr)} {ys : List Str} {ws : List V} {C : Pins}
theorem Capt.len (h : Capt cells ys ws C) : ws.length = ys.length := by
  induction h with
  | nil => rfl
  | cons _ _ _ _ ih => rw [List.length_cons, List.length_cons, ih]
theorem Capt.mem (h : Capt cells ys ws C) {c : Addr} {o : Obj} : (c, o) ∈ C → ∃ y ∈ ys, cells.lookup y = some c := by
  induction h with
  | nil => intro z; cases z
  | cons a b r t ih =>
    intro z
    rcases List.mem_cons.mp z with e | e
    · cases e; exact ⟨_, List.mem_cons_self, a⟩
    · obtain ⟨y, hy, q⟩ := ih e
      exact ⟨y, List.mem_cons_of_mem _ hy, q⟩
theorem Capt.nd (inj : ∀ x y c, cells.lookup x = some c → cells.lookup y = some c → x = y) (h : Capt cells ys ws C) (nd : ys.Nodup) : (C.map (·.1)).Nodup := by
  induction h with
  | nil => exact List.nodup_nil
  | cons a b r t ih =>
    rw [List.nodup_cons] at nd
    rw [List.map_cons, List.nodup_cons]
    refine ⟨fun z => ?_, ih nd.2⟩
    obtain ⟨p, hp, e⟩ := List.mem_map.mp z
    obtain ⟨y, hy, q⟩ := t.mem (c := p.1) (o := p.2) hp
    have e : p.1 = _ := e
    rw [e] at q
    have := inj _ _ _ a q
    exact nd.1 (this ▸ hy)
theorem Capt.at (nd : (C.map (·.1)).Nodup) (h : Capt cells ys ws C) {y : Str} {i : Nat} (e : ys[i]? = some y) : ∃ c o u v, cells.lookup y = some c ∧ C.lookup c = some o ∧ o.data = .cell (some u) ∧ ws[i]? = some v ∧ RelV v u := by
  have key : ∃ c o u v, cells.lookup y = some c ∧ (c, o) ∈ C ∧ o.data = .cell (some u) ∧ ws[i]? = some v ∧ RelV v u := by
    clear nd
    induction h generalizing i with
    | nil => simp at e
    | cons a b r t ih =>
      cases i with
      | zero =>
        simp at e
        subst e
        exact ⟨_, _, _, _, a, List.mem_cons_self, b, rfl, r⟩
      | succ i =>
        obtain ⟨c, o, u, v, h1, h2, h3⟩ := ih (i := i) (by simpa using e)
        exact ⟨c, o, u, v, h1, List.mem_cons_of_mem _ h2, by simpa using h3⟩
  obtain ⟨c, o, u, v, h1, h2, h3⟩ := key
  exact ⟨c, o, u, v, h1, look_of_mem (p := (c, o)) nd h2, h3⟩
end
/-! what a made function's calls give -/
end Hq
namespace Hq
open PySem L2 NdefX LamX
/-! making functions: nested defs, lambdas with parameters -/
/-- a table's entries tell code objects of the names that their places have -/
def Told (nm : Nat → Nat → Str) (ps : Array Value) (H : Hp) : Prop := TriplesOk ps.toList ∧ ∀ (pos : Pos) (cv : Value), codeAmong pos ps.toList = some cv → ∃ c, cv = .ref c ∧ H c = some (CodeO c (nm pos.line pos.col))
theorem Told.ext {nm : Nat → Nat → Str} {ps : Array Value} {H H' : Hp} (t : Told nm ps H) (e : Ex H H') : Told nm ps H' := ⟨t.1, fun pos cv h => let ⟨c, a, b⟩ := t.2 pos cv h; ⟨c, a, e _ _ b⟩⟩
/-- a function is made by the table at P: q its name, u its object's words -/
def MkFn (P : Addr) (nm : Nat → Nat → Str) (q : Str) (u : Addr → Addr → HO) (H : Hp) (k : Addr → Hp → Prop) : Prop := ∃ ps : Array Value, H P = some (.tbl ps) ∧ Told nm ps H ∧
  (∀ (f c' : Addr) (ps' : Array Value), H c' = none → H f = none → c' ≠ f → c' ≠ P → f ≠ P → (∀ F0 : Hp, Told nm ps F0 → F0 c' = none → Told nm ps' (upd F0 c' (CodeO c' q))) → k f (upd (upd (upd H P (.tbl ps')) c' (CodeO c' q)) f (u f c'))) ∧
  (∀ (f c' : Addr), (∀ F0 : Hp, Told nm ps F0 → F0 c' = some (CodeO c' q)) → H f = none → k f (upd H f (u f c')))
section
variable {X : Cx}
theorem MkFn.imp {P : Addr} {nm : Nat → Nat → Str} {q : Str} {u : Addr → Addr → HO} {H : Hp} {k k' : Addr → Hp → Prop} (h : MkFn P nm q u H k) (i : ∀ f H1, k f H1 → k' f H1) : MkFn P nm q u H k' :=
  let ⟨ps, a, b, c, d⟩ := h
  ⟨ps, a, b, fun f c' ps' h1 h2 h3 h4 h5 h6 => i _ _ (c f c' ps' h1 h2 h3 h4 h5 h6), fun f c' h1 h2 => i _ _ (d f c' h1 h2)⟩
end
/-! read -/
end Hq
namespace Hq
open PySem L2 NdefX LamX
/-! bodies of made functions -/
end Hq
namespace L2
open PySem PySem.Spec PyProof.Rows
/-! {k: v} with a nested key -/
end L2
namespace Hq
open PySem L2
end Hq
namespace Hq
open PySem L2 NdefX LamX
/-! the law's start and end where the program makes functions -/
end Hq
namespace Hq
open PySem L2 NdefX LamX
/-! a def that returns what it made: its cells are tracked behind it -/
/-! a call that tells what it owns behind it -/
def EvX {ι : Type} (te : TE) (Γ : Gm) (M : Ms) (φ : ι → Prop) (P : ι → MP) (M' : ι → Ms) : Prop := ∀ E F σ H, Pt E F M H → EnvOk F σ Γ → ∀ Q : VK, (∀ i v F' H', φ i → Ex F F' → Pt E F' (M' i) H' → (P i).p F' v → Q v H') → te σ H Q
/-- its promise -/
def PromX {ι : Type} (ps : List MP) (M : Ms) (φ : ι → Prop) (P : ι → MP) (M' : ι → Ms) (vs : List V) (H : Hp) (Q : VK) : Prop := ∃ F, Wd F M H ∧ Ps F vs ps ∧ ∀ i, φ i → Rt ⟨F, H, keys M⟩ (M' i) (P i) Q
section
variable {ι : Type} {K : PySem.W.Frag} {E : Ent} {F F' H H' : Hp} {Γ : Gm} {M M1 M2 Mc B : Ms} {φ : ι → Prop} {P R1 R2 : ι → MP} {M' Bi : ι → Ms} {te : TE} {tr : TA} {ps : List MP} {sp : Sp} {X : XK} {D1 : Ends} {tz : TS} {i j : Nat}
theorem q_unp2X (h : EvX te Γ M φ (fun x => PTu K [R1 x, R2 x]) M') (k : ∀ x, φ x → Nx E ((Γ.set i (some (R1 x))).set j (some (R2 x))) (M' x) (tz D1)) :
    Nx E Γ M (tSeq (tAsg te (gTup K 2 (gCons (gName i) (gCons (gName j) gNil)))) tz D1) := fun σ H ⟨F, a, b⟩ => h E F σ H a b _ fun x v F1 H1 hx e1 g1 ⟨p, vs, ev, s, q⟩ => by
  obtain ⟨y, z, rfl, hy, hz⟩ := ps2 q
  exact ⟨p, [y, z], ev, Evl.ex_t g1.ex s, rfl, y, [z], rfl, z, [], rfl, rfl, k x hx _ _ ⟨F1, g1, ((b.mono e1).set i hy).set j hz⟩⟩
end
end Hq
/-! HqSe: calls that change what they own, told by more than one thing; dicts that stand. -/
namespace Hq
open PySem L2
section
variable {ι : Type} {K : PySem.W.Frag} {E : Ent} {F F' H H' : Hp} {Γ : Gm} {M M1 M2 Mc Md B : Ms} {φ : ι → Prop} {P R1 R2 : ι → MP} {M' Bi Mi : ι → Ms} {te td tk : TE} {tr : TA} {ps : List MP} {sp : Sp} {X : XK} {D1 : Ends} {tz : TS} {i j : Nat}
theorem pt_frameY (h : Pt E F (Mc ++ M2) H) (hk : keys Md = keys Mc) (g : Pt ⟨F, H, keys Mc⟩ F' (B ++ Md) H') : Pt E F' (B ++ (Md ++ M2)) H' := by
  have kapp : ∀ {A B : Ms}, keys (A ++ B) = keys A ++ keys B := fun {A B} => by unfold keys; rw [List.map_append]
  have ndh := h.wd.nd
  rw [kapp] at ndh
  have ndg := g.wd.nd
  rw [kapp, hk] at ndg
  have fresh : ∀ q ∈ B, H q.1 = none := fun q hq => by
    rcases g.fr q (List.mem_append_left _ hq) with z | z
    · exact absurd rfl ((List.nodup_append.mp ndg).2.2 q.1 (List.mem_map_of_mem hq) q.1 z)
    · exact z
  have sub : ∀ a ∈ keys Mc, a ∈ keys (Mc ++ M2) := fun a ha => by rw [kapp]; exact List.mem_append_left _ ha
  have h2n : ∀ r ∈ M2, r.1 ∉ keys Mc := fun r hr z => (List.nodup_append.mp ndh).2.2 r.1 z r.1 (List.mem_map_of_mem hr) rfl
  have kk : keys (Md ++ M2) = keys (Mc ++ M2) := by rw [kapp, kapp, hk]
  refine h.back ⟨⟨g.gr.ex, fun a u h1 h2 => g.gr.keep a u (fun z => h1 (sub a z)) h2, g.gr.off, g.gr.stay, g.gr.nott⟩, ⟨g.wd.ex, ?_, fun r hr => ?_⟩, fun r hr => ?_⟩
  · rw [kapp, kk, kapp (A := Mc)]
    refine List.nodup_append.mpr ⟨(List.nodup_append.mp ndg).1, ndh, fun a ha b hb e => ?_⟩
    obtain ⟨q, hq, e1⟩ := List.mem_map.mp ha
    have hb : b ∈ keys (Mc ++ M2) := by rw [kapp]; exact hb
    obtain ⟨r, hr, e2⟩ := List.mem_map.mp hb
    obtain ⟨_, u, z, _⟩ := h.wd.own r hr
    rw [e2, ← e, ← e1, fresh q hq] at z
    cases z
  · rcases List.mem_append.mp hr with z | z
    · exact g.wd.own r (List.mem_append_left _ z)
    · rcases List.mem_append.mp z with z | z
      · exact g.wd.own r (List.mem_append_right _ z)
      · obtain ⟨f0, u, hu, hp⟩ := h.wd.own r (List.mem_append_right _ z)
        refine ⟨g.gr.off r.1 f0 (by show H r.1 ≠ none; rw [hu]; simp) (fun xs y => ?_), u, g.gr.keep r.1 u (h2n r z) hu, r.2.mono g.gr.ex hp⟩
        have y : H r.1 = some (.tup xs) := y
        rw [hu] at y
        exact r.2.nt hp xs (Option.some.inj y)
  · rcases List.mem_append.mp hr with z | z
    · exact .inr (fresh r z)
    · refine .inl ?_
      show r.1 ∈ keys (Mc ++ M2)
      rw [← kk]
      exact List.mem_map_of_mem (f := (·.1)) z
/-- a call that changes what it owns and hands over more of it -/
theorem ev_callY (h : EvA tr Γ M ps (Mc ++ M2)) (hk : ∀ i, keys (Mi i) = keys Mc) (hs : ∀ vs H Q, PromX ps Mc φ P (fun i => Bi i ++ Mi i) vs H Q → sp (vs ++ []) H Q X) : EvX (tCall sp [] X tr) Γ M φ P (fun i => Bi i ++ (Mi i ++ M2)) := fun E F σ H a b Q k =>
  h E F σ H a b _ fun vs F1 H1 e1 g1 p => by
    have wd : Wd F1 Mc H1 := ⟨g1.wd.ex, by have := g1.wd.nd; unfold keys at this ⊢; rw [List.map_append] at this; exact (List.nodup_append.mp this).1, fun q hq => g1.wd.own q (List.mem_append_left _ hq)⟩
    exact hs vs H1 Q ⟨F1, wd, p, fun i hi v F' H' g r => k i v F' H' hi (e1.trans g.gr.ex) (pt_frameY g1 (hk i) g) r⟩
theorem EvX.ev (h : EvX te Γ M φ P (fun _ => M1)) : Ev te Γ M (PEx fun i => PAn (φ i) (P i)) M1 := fun E F σ H a b Q k => h E F σ H a b Q fun i v F' H' hi e g r => k v F' H' e g ⟨i, hi, r⟩
theorem EvX.to {κ : Type} {φ' : κ → Prop} {P' : κ → MP} {N' : κ → Ms} (f : ι → κ) (h : EvX te Γ M φ P M') (l : ∀ i, φ i → φ' (f i) ∧ (P i).le (P' (f i)) ∧ M' i = N' (f i)) : EvX te Γ M φ' P' N' := fun E F σ H a b Q k => h E F σ H a b Q fun i v F' H' hi e g r => by
  obtain ⟨l1, l2, l3⟩ := l i hi
  exact k (f i) v F' H' l1 e (l3 ▸ g) (l2 F' v r)
/-- a dict of ints to ints that stands -/
theorem ev_dgetFI {g : Int → Option Int} {n : Nat} {x y : Int} (hd : Ev td Γ M (Fr (MDO g n)) M1) (hk : Ev tk Γ M1 (D K (.int x)) M2) (hg : g x = some y) : Ev (tDGet td tk) Γ M (D K (.int y)) M2 := fun E F σ H a b Q k => by
  refine hd E F σ H a b _ fun v F1 H1 e1 g1 p1 => hk E F1 σ H1 g1 (b.mono e1) _ fun w F2 H2 e2 g2 p2 => ?_
  obtain ⟨q, o, rfl, ho, kvs, rfl, _, hkv⟩ := p1
  cases dp_int p2
  have ho2 := g2.wd.ex _ _ (e2 _ _ ho)
  refine ⟨q, .int y, rfl, ?_, k _ F2 H2 (e1.trans e2) g2 (.int _)⟩
  have := DGet.k (k := .inl x) ho2
  rw [hkv, hg] at this
  exact this
theorem ev_dnotinFI {g : Int → Option Int} {n : Nat} {x : Int} (hk : Ev tk Γ M (D K (.int x)) M1) (hd : Ev td Γ M1 (Fr (MDO g n)) M2) : Ev (tDNotIn tk td) Γ M (D K (.bool (!(g x).isSome))) M2 := fun E F σ H a b Q k => by
  refine hk E F σ H a b _ fun v F1 H1 e1 g1 p1 => hd E F1 σ H1 g1 (b.mono e1) _ fun y F2 H2 e2 g2 p2 => ?_
  cases dp_int p1
  obtain ⟨q, o, rfl, ho, kvs, rfl, _, hkv⟩ := p2
  refine ⟨q, _, rfl, DGet.k (k := .inl x) (g2.wd.ex _ _ ho), ?_⟩
  rw [hkv, Option.isSome_map]
  exact k _ F2 H2 (e1.trans e2) g2 (.bl _)
/-- a statement that is such a call -/
theorem q_dropX (h : EvX te Γ M φ P M') (k : ∀ i, φ i → Nx E Γ (M' i) (tz D1)) : Nx E Γ M (tSeq (tDrop te) tz D1) := fun σ H ⟨F, a, b⟩ => h E F σ H a b _ fun i v F' H' hi e g r => k i hi _ _ ⟨F', g, b.mono e⟩
theorem q_forEnumT {α : Type} {xs : List α} {R : α → MP} {tl : TE} {tu : TS} (h : Ev tl Γ M (PTu K (xs.map R)) M1) (Jv : Nat → Gm → Ms → Prop) (h0 : Jv 0 Γ M1)
    (hs : ∀ E', Le E' E → ∀ n x, xs[n]? = some x → ∀ Γ' M', Jv n Γ' M' → Nx E' ((Γ'.set i (some (D K (.int n)))).set j (some (R x))) M' (tu { D1 with nx := JA E' (Jv (n + 1)), ct := JA E' (Jv (n + 1)), bk := tz D1 }))
    (hd : ∀ Γ' M', Jv xs.length Γ' M' → Nx E Γ' M' (tz D1)) : Nx E Γ M (tSeq (tFor (iEnumT K (tCons tl tNil)) (gPair K i j) tu) tz D1) := go_forEnumT (D1 := { D1 with nx := tz D1 }) h Jv h0 hs hd
end
end Hq
/-! ### list(zip(a tuple, a list)) -/
namespace HqJ
open PySem PySem.Spec PyProof.Rows
section
variable {prog : Program} {w : World} {A : Around} {E : Value → Shared → Prop} {s : Shared} {z TI TO T i1 i2 : Addr} {fp1 fp2 : List Addr} {n1 n2 i : Nat} {P1 P2 : Nat → Value → Prop} {St1 St2 : Nat → Heap → Prop} {f : Bool} {oT : Obj}
theorem held_item {Q : Value → Shared → Prop} (S : ZipSep2 z TI TO i1 i2 fp1 fp2) (D1 : Draws prog w A i1 fp1 n1 P1 St1) (D2 : Draws prog w A i2 fp2 n2 P2 St2)
    (hz : IsZipHeld s.heap z TI TO T f) (hT : s.heap.get? T = some oT) (hTI : IsTupOf2 s.heap TI (.ref i1) (.ref i2)) (st1 : St1 i s.heap) (st2 : St2 i s.heap) (hlt1 : i < n1) (hlt2 : i < n2)
    (hQ : ∀ x1 x2 h' tk, P1 i x1 → P2 i x2 → IsZipHeld h' z TI TO T true → St1 (i + 1) h' → St2 (i + 1) h' → IsTupOf2 h' s.heap.objs.size x1 x2 → h'.objs.size = s.heap.objs.size + 1 →
      (∀ c o, c ≠ z → c ≠ i1 → c ≠ i2 → s.heap.get? c = some o → h'.get? c = some o) → Q (.ref s.heap.objs.size) { s with heap := h', toks := tk }) :
    wpAny (model prog w) A (Builtin.«zip.__next__» ⟨[.ref z], []⟩) (fun fin s' => ∃ v, fin = .done (.ret v) ∧ Q v s') E s := by
  obtain ⟨hp, g, d, tk0, os⟩ := s
  show wpAny _ _ (field (.ref z) 2 >>= _) _ _ _
  refine wpAny_bind (wpAny_field hz rfl (x := .bool false) rfl ?_)
  show wpAny _ _ (field (.ref z) 3 >>= _) _ _ _
  refine wpAny_bind (wpAny_field hz rfl (x := .ref TI) rfl ?_)
  refine wpAny_bind (wpAny_seqItems hTI rfl ?_)
  show wpAny _ _ (Builtin.SmallTypes.ownedTupleIsFree (.ref z) >>= _) _ _ _
  refine wpAny_bind (wpAny_tupleHeld_zip hz hT fun h₁ hz₁ hs₁ => ?_)
  replace hs₁ : Heap.SameBut z hp h₁ := hs₁
  simp only [Bool.false_eq_true, if_false]
  refine wpAny_bind ?_
  rw [← Array.forIn_toList]
  simp only [List.forIn_cons, List.forIn_nil]
  refine wpAny_bind (wpAny_bind (wpAny_holding ?_))
  show wpAny _ _ (Builtin.SmallTypes.nextOf (.ref i1) >>= _) _ _ ⟨h₁, g, d, tk0, os⟩
  refine wpAny_bind (D1.item i _ _ _ hlt1 (D1.over st1 hs₁ S.zf1) fun x1 p1 tk1 hx1 sn1 hp1 => wpAny_pure ?_)
  replace hp1 : Heap.SameBut i1 h₁ p1 := hp1
  refine wpAny_pure ?_
  refine wpAny_bind (wpAny_bind (wpAny_holding ?_))
  show wpAny _ _ (Builtin.SmallTypes.nextOf (.ref i2) >>= _) _ _ ⟨p1, g, d, tk1, os⟩
  refine wpAny_bind (D2.item i _ _ _ hlt2 (D2.over (D2.over st2 hs₁ S.zf2) hp1 S.sep1_2) fun x2 p2 tk2 hx2 sn2 hp2 => wpAny_pure ?_)
  replace hp2 : Heap.SameBut i2 p1 p2 := hp2
  refine wpAny_pure (wpAny_pure ?_)
  show wpAny _ _ (newTuple [x1, x2] >>= _) _ _ ⟨p2, g, d, tk2, os⟩
  refine wpAny_bind (wpAny_newTuple ?_)
  have hsz : p2.objs.size = hp.objs.size := by rw [hp2.1, hp1.1, hs₁.1]
  have hz₃ : IsZipHeld p2 z TI TO T true := hp2.extBut _ _ S.zi2 (hp1.extBut _ _ S.zi1 hz₁)
  have hk : ∀ c o, c ≠ z → c ≠ i1 → c ≠ i2 → hp.get? c = some o → p2.get? c = some o := fun c o c1 c2 c3 e => hp2.extBut _ _ c3 (hp1.extBut _ _ c2 (hs₁.extBut _ _ c1 e))
  have j1 : St1 (i + 1) p2 := D1.over sn1 hp2 S.sep2_1
  refine wpAny_pure ⟨_, rfl, ?_⟩
  show Q (.ref p2.objs.size) _
  have hp' : IsTupOf2 (p2.push { cls := .type "tuple", data := .seq #[x1, x2] }) p2.objs.size x1 x2 := Heap.get?_push_size _ rfl
  have hz4 : (p2.push { cls := .type "tuple", data := .seq #[x1, x2] }).objs.size = p2.objs.size + 1 := Heap.size_push ..
  rw [hsz] at hp' hz4 ⊢
  exact hQ x1 x2 _ tk2 hx1 hx2 (Heap.get?_push_of_some _ hz₃) (D1.frame _ _ _ j1 fun b _ o e => Heap.get?_push_of_some _ e) (D2.frame _ _ _ sn2 fun b _ o e => Heap.get?_push_of_some _ e) hp' hz4 fun c o c1 c2 c3 e => Heap.get?_push_of_some _ (hk c o c1 c2 c3 e)
theorem held_end {Q : Fin → Shared → Prop} (S : ZipSep2 z TI TO i1 i2 fp1 fp2) (D1 : Draws prog w A i1 fp1 n1 P1 St1)
    (hz : IsZipHeld s.heap z TI TO T f) (hT : s.heap.get? T = some oT) (hTI : IsTupOf2 s.heap TI (.ref i1) (.ref i2)) (st1 : St1 n1 s.heap)
    (hE : ∀ h' e, (∀ c o, c ≠ z → c ≠ i1 → s.heap.get? c = some o → h'.get? c = some o) → (∃ o, h'.get? e = some o ∧ o.cls = .type "StopIteration") → E (.ref e) { s with heap := h' }) :
    wpAny (model prog w) A (Builtin.«zip.__next__» ⟨[.ref z], []⟩) Q E s := by
  show wpAny _ _ (field (.ref z) 2 >>= _) _ _ _
  refine wpAny_bind (wpAny_field hz rfl (x := .bool false) rfl ?_)
  show wpAny _ _ (field (.ref z) 3 >>= _) _ _ _
  refine wpAny_bind (wpAny_field hz rfl (x := .ref TI) rfl ?_)
  refine wpAny_bind (wpAny_seqItems hTI rfl ?_)
  show wpAny _ _ (Builtin.SmallTypes.ownedTupleIsFree (.ref z) >>= _) _ _ _
  refine wpAny_bind (wpAny_tupleHeld_zip hz hT fun h₁ hz₁ hs₁ => ?_)
  simp only [Bool.false_eq_true, if_false]
  refine wpAny_bind ?_
  rw [← Array.forIn_toList]
  simp only [List.forIn_cons, List.forIn_nil]
  refine wpAny_bind (wpAny_bind (wpAny_holding ?_))
  show wpAny _ _ (Builtin.SmallTypes.nextOf (.ref i1) >>= _) _ _ _
  refine wpAny_bind (D1.done { s with heap := h₁ } _ _ (D1.over st1 hs₁ S.zf1) fun h₂ e hs₂ he => ?_)
  exact hE h₂ e (fun c o c1 c2 x => hs₂ _ _ c2 (hs₁.extBut _ _ c1 x)) he
end
/-- a zip that has given i pairs that live on -/
def ZSt (h : Heap) (z TI TO i1 i2 S t l : Addr) (i : Nat) : Prop :=
  (∃ T f oT, IsZipHeld h z TI TO T f ∧ h.get? T = some oT ∧ T ≠ z ∧ T ≠ i1 ∧ T ≠ i2 ∧ T ≠ S ∨ IsZip h z TI TO .none ∧ T = 0 ∧ f = false ∧ oT = (default : Obj)) ∧
    IsTupOf2 h TI (.ref i1) (.ref i2) ∧ (∃ a b, IsTupOf2 h TO a b) ∧ h.IsTupleIter i1 t i ∧ h.IsListIter i2 l i
structure Ap (z TI TO i1 i2 S t l : Addr) : Prop where
  sep : ZipSep2 z TI TO i1 i2 [i1, t] [i2, l]
  t1 : t ≠ i1
  l2 : l ≠ i2
  lo : z < S ∧ TI < S ∧ TO < S ∧ i1 < S ∧ i2 < S ∧ t < S ∧ l < S
  tz : t ≠ z ∧ t ≠ TO ∧ t ≠ i2 ∧ l ≠ z ∧ l ≠ TO ∧ l ≠ i1
section
variable {prog : Program} {w : World} {A : Around} {E : Value → Shared → Prop} {s : Shared} {z TI TO i1 i2 S t l : Addr} {xs ys : Array Value} {i : Nat}
theorem nxt (a : Ap z TI TO i1 i2 S t l) (hh : A.handled = none) {Q : Option Value → Shared → Prop} (st : ZSt s.heap z TI TO i1 i2 S t l i) (ht : s.heap.IsTuple t xs) (hl : s.heap.IsList l ys) (h1 : i < xs.size) (h2 : i < ys.size) (hSl : S < s.heap.objs.size)
    (hQ : ∀ x1 x2 h' tk, xs[i]? = some x1 → ys[i]? = some x2 → ZSt h' z TI TO i1 i2 S t l (i + 1) → IsTupOf2 h' s.heap.objs.size x1 x2 → h'.objs.size = s.heap.objs.size + 1 →
      (∀ c o, c ≠ z → c ≠ TO → c ≠ i1 → c ≠ i2 → s.heap.get? c = some o → h'.get? c = some o) → Q (some (.ref s.heap.objs.size)) { s with heap := h', toks := tk }) :
    wpAny (model prog w) A (pyNext (.ref z)) Q E s := by
  obtain ⟨⟨T, f, oT, hz⟩, hTI, ⟨b1, b2, hTO⟩, s1, s2⟩ := st
  have D1 := Draws.tuple (prog := prog) (w := w) (A := A.in1) hh i1 t a.t1 xs
  have D2 := Draws.list (prog := prog) (w := w) (A := A.in1) hh i2 l a.l2 ys
  obtain ⟨z0, z1, z2, z3, z4, z5, z6⟩ := a.lo
  rcases hz with ⟨hz, hT, n1, n2, n3, n4⟩ | ⟨hz, _⟩
  · have hTy : s.TypeIs (.ref z) "zip" := ⟨_, hz, rfl⟩
    unfold pyNext
    refine wpAny_bind (wpAny_attempt (wpAny_callSpecial?_slot (name := Str.ofString "__next__") hTy F.slot_zip_next
      (wpAny_call_entry F.slot_zip_next hTy F.entry_zip_next
        (held_item a.sep D1 D2 hz hT hTI ⟨s1, ht⟩ ⟨s2, hl⟩ h1 h2 fun x1 x2 h' tk e1 e2 hz' st1' st2' hp hsz hk => wpAny_pure ?_) (F.args_zip_next_1 _))))
    exact hQ x1 x2 h' tk e1 e2 ⟨⟨T, true, oT, .inl ⟨hz', hk T oT n1 n2 n3 hT, n1, n2, n3, n4⟩⟩, hk _ _ a.sep.TIz a.sep.TIi1 a.sep.TIi2 hTI, ⟨b1, b2, hk _ _ a.sep.TOz a.sep.Ti1 a.sep.Ti2 hTO⟩, st1'.1, st2'.1⟩ hp hsz fun c o c1 _ c3 c4 e => hk c o c1 c3 c4 e
  · refine wpAny_pyNext_zipD2_item a.sep D1 D2 hz hTI hTO ⟨s1, ht⟩ ⟨s2, hl⟩ h1 h2 fun x1 x2 h' tk e1 e2 hz' hTO' st1' st2' hp hsz hk => ?_
    have gt : ∀ c, c < S → s.heap.objs.size ≠ c := fun c hc => Nat.ne_of_gt (Nat.lt_trans hc hSl)
    exact hQ x1 x2 h' tk e1 e2 ⟨⟨s.heap.objs.size, false, _, .inl ⟨hz', hp, gt _ z0, gt _ z3, gt _ z4, Nat.ne_of_gt hSl⟩⟩, hk _ _ a.sep.TIz a.sep.TITO a.sep.TIi1 a.sep.TIi2 hTI, ⟨_, _, hTO'⟩, st1'.1, st2'.1⟩ hp hsz hk
theorem fin (a : Ap z TI TO i1 i2 S t l) (hh : A.handled = none) {Q : Option Value → Shared → Prop} (st : ZSt s.heap z TI TO i1 i2 S t l i) (ht : s.heap.IsTuple t xs) (hl : s.heap.IsList l ys) (h1 : i = xs.size) (h2 : i ≤ ys.size)
    (hQ : ∀ h' tk, (∀ c o, c ≠ z → c ≠ TO → c ≠ i1 → c ≠ i2 → s.heap.get? c = some o → h'.get? c = some o) → Q none { s with heap := h', toks := tk }) :
    wpAny (model prog w) A (pyNext (.ref z)) Q E s := by
  obtain ⟨⟨T, f, oT, hz⟩, hTI, ⟨b1, b2, hTO⟩, s1, s2⟩ := st
  have D1 := Draws.tuple (prog := prog) (w := w) (A := A.in1) hh i1 t a.t1 xs
  have D2 := Draws.list (prog := prog) (w := w) (A := A.in1) hh i2 l a.l2 ys
  rcases hz with ⟨hz, hT, n1, n2, n3, n4⟩ | ⟨hz, _⟩
  · have hTy : s.TypeIs (.ref z) "zip" := ⟨_, hz, rfl⟩
    unfold pyNext
    refine wpAny_bind (wpAny_attempt (wpAny_callSpecial?_slot (name := Str.ofString "__next__") hTy F.slot_zip_next
      (wpAny_call_entry F.slot_zip_next hTy F.entry_zip_next
        (held_end a.sep D1 hz hT hTI (by rw [← h1]; exact ⟨s1, ht⟩) fun h' e hk he => ?_) (F.args_zip_next_1 _))))
    obtain ⟨o, ho, hc⟩ := he
    refine wpAny_bind (wpAny_isInstance (T := "StopIteration") (b := true) ⟨o, ho, hc⟩ isSubtype_stop ?_)
    exact wpAny_pure (hQ h' s.toks fun c o c1 _ c3 _ e => hk c o c1 c3 e)
  · exact wpAny_pyNext_zipD2_end a.sep D1 D2 hz hTI hTO ⟨s1, ht⟩ ⟨s2, hl⟩ (by omega) h2 (.inl h1) hQ
end
end HqJ
namespace L2
open PySem PySem.Spec PyProof.Rows HqJ
end L2
namespace Hq
open PySem L2 HqJ
end Hq
/-! ### a slice of a list or a tuple of ints that stands -/
namespace Hq
open PySem L2
end Hq
namespace Hq
open PySem L2
end Hq
namespace Hq
open PySem L2
end Hq
/-! ### a def within a def whose own names are taken by a comprehension in it (own cells beside the captured ones) -/
namespace HqLE
open PySem PySem.Spec PyProof.Rows
end HqLE
namespace Hq
open PySem L2 NdefX LamX HqLE
end Hq
/-! ### zip of a tuple and a list; tuples made here of anything; any -/
namespace HqLC
open PySem PySem.Spec PyProof.Rows L2
theorem sep {I a b : Addr} (ha : a < I) (hb : b < I) : ZipSep2 (I + 4) (I + 2) (I + 3) I (I + 1) [I, a] [I + 1, b] := by
  have ha : @LT.lt Nat _ a I := ha
  have hb : @LT.lt Nat _ b I := hb
  constructor <;> first
    | exact List.mem_cons_self
    | (intro e; have e : ((_ : Nat) = _) := e; omega)
    | (intro h
       rcases List.mem_cons.mp h with e | h
       · have e : ((_ : Nat) = _) := e
         omega
       · have e : ((_ : Nat) = _) := List.mem_singleton.mp h
         omega)
end HqLC
namespace Hq
open PySem L2 HqLC
end Hq
/-! ### rows and words that are lists or tuples, as values of any expression -/
namespace Hq
open PySem L2
end Hq
/-! ### tuples made here, of anything -/
namespace Hq
open PySem L2
end Hq
/-! ### xs + ys of lists that stand -/
namespace Hq
open PySem L2
end Hq
namespace Hq
open PySem L2
end Hq
namespace Hq
open PySem L2 HqA HqLC
end Hq
/-! ### t[:x] where x is one of several; (x,) with a drawn x -/
namespace Hq
open PySem L2
end Hq
/-! ### t > u of tuples of ints -/
namespace L2
open PySem PySem.Spec PyProof.Rows
end L2
namespace Hq
open PySem L2
end Hq
/-! ### a comprehension with three generators -/
namespace L2
open PySem PySem.Spec PyProof.Rows
end L2
namespace Hq
open PySem L2
end Hq
/-! ### tuples of tuples, sorted lists of tuples, lists of lists of which the inner ones come to rest -/
namespace Hq
open PySem L2
end Hq
namespace My
/-! ### letters, places: plain lists -/
abbrev Lets := List (List Int)
/-- the places of a letter -/
def pl (ls : Lets) (a : Int) : List Int := ls.getD a.toNat []
def disj (l m : List Int) : Bool := !(l.any fun x => decide (x ∈ m))
/-- two letters without a common place -/
def free (ls : Lets) (a b : Int) : Bool := disj (pl ls a) (pl ls b)
structure AlphaOk (k : Int) (ls : Lets) : Prop where
  k1 : 1 ≤ k
  k4 : k ≤ 4
  l1 : 1 ≤ ls.length
  l6 : ls.length ≤ 6
  ok : ∀ l ∈ ls, l ≠ [] ∧ l.Pairwise (· < ·) ∧ ∀ x ∈ l, 0 ≤ x ∧ x < k
/-- a word of the letters -/
def WordOk (ls : Lets) (w : List Int) : Prop := ∀ x ∈ w, 0 ≤ x ∧ x < (ls.length : Int)
theorem pl_get {ls : Lets} {a : Int} (h0 : 0 ≤ a) (h : a < (ls.length : Int)) : ls[a.toNat]? = some (pl ls a) := by
  unfold pl
  have : a.toNat < ls.length := by omega
  rw [List.getD_eq_getElem?_getD, List.getElem?_eq_getElem this]; rfl
theorem pl_mem {ls : Lets} {a : Int} (h0 : 0 ≤ a) (h : a < (ls.length : Int)) : pl ls a ∈ ls := List.mem_of_getElem? (pl_get h0 h)
theorem disj_filter (l m : List Int) : decide (((l.filter fun x => decide (x ∈ m)).length : Int) = 0) = disj l m := by
  unfold disj
  induction l with
  | nil => rfl
  | cons x l ih =>
    rw [List.filter_cons, List.any_cons]
    by_cases h : x ∈ m
    · simp [h]
      omega
    · simp only [h, decide_false, Bool.false_eq_true, if_false, Bool.false_or]
      exact ih
theorem disj_comm (l m : List Int) : disj l m = disj m l := by
  unfold disj
  congr 1
  rw [Bool.eq_iff_iff, List.any_eq_true, List.any_eq_true]
  simp only [decide_eq_true_eq]
  exact ⟨fun ⟨x, a, b⟩ => ⟨x, b, a⟩, fun ⟨x, a, b⟩ => ⟨x, b, a⟩⟩
theorem free_comm (ls : Lets) (a b : Int) : free ls a b = free ls b a := disj_comm _ _
theorem disj_iff {l m : List Int} : disj l m = true ↔ ∀ x ∈ l, x ∉ m := by
  unfold disj
  simp
theorem not_disj {l m : List Int} : disj l m = false ↔ ∃ x ∈ l, x ∈ m := by
  unfold disj
  simp
/-- the word of a place -/
def at_ (ls : Lets) (p : Int) (w : List Int) : List Int := w.filter fun a => decide (p ∈ pl ls a)
/-- swaps of independent neighbours -/
inductive Swp (ls : Lets) : List Int → List Int → Prop where
  | refl (w) : Swp ls w w
  | step {w u v a b} : Swp ls w (u ++ a :: b :: v) → free ls a b = true → Swp ls w (u ++ b :: a :: v)
theorem Swp.word {ls w w'} (h : Swp ls w w') (k : WordOk ls w) : WordOk ls w' ∧ w'.length = w.length := by
  induction h with
  | refl => exact ⟨k, rfl⟩
  | step h f ih =>
    obtain ⟨a, b⟩ := ih
    refine ⟨fun x hx => a x ?_, ?_⟩
    · simp only [List.mem_append, List.mem_cons] at hx ⊢
      rcases hx with h | h | h | h
      · exact .inl h
      · exact .inr (.inr (.inl h))
      · exact .inr (.inl h)
      · exact .inr (.inr (.inr h))
    · rw [← b]; simp
end My
namespace My
/-! ### sorted lists -/
theorem sorted_unique : ∀ {l m : List Int}, l.Perm m → l.Pairwise (· ≤ ·) → m.Pairwise (· ≤ ·) → l = m
  | [], m, p, _, _ => (List.Perm.nil_eq p)
  | a :: l, [], p, _, _ => absurd p.symm (by simp)
  | a :: l, b :: m, p, h1, h2 => by
    have hab : a = b := by
      have ha : a ∈ b :: m := p.subset List.mem_cons_self
      have hb : b ∈ a :: l := p.symm.subset List.mem_cons_self
      rcases List.mem_cons.mp ha with e | e
      · exact e
      · rcases List.mem_cons.mp hb with e2 | e2
        · exact e2.symm
        · have x := (List.pairwise_cons.mp h1).1 b e2
          have y := (List.pairwise_cons.mp h2).1 a e
          omega
    subst hab
    rw [sorted_unique (List.Perm.cons_inv p) (List.pairwise_cons.mp h1).2 (List.pairwise_cons.mp h2).2]
/-- the greatest of some numbers that are not negative -/
def top0 (l : List Int) : Int := l.foldr max 0
theorem top0_le {l : List Int} : ∀ y ∈ l, y ≤ top0 l := by
  induction l with
  | nil => intro y h; cases h
  | cons a l ih =>
    intro y h
    show y ≤ max a (top0 l)
    rcases List.mem_cons.mp h with e | e
    · subst e; omega
    · have := ih y e; omega
theorem top0_mem {l : List Int} (h : l ≠ []) (h0 : ∀ y ∈ l, 0 ≤ y) : top0 l ∈ l := by
  induction l with
  | nil => exact absurd rfl h
  | cons a l ih =>
    show max a (top0 l) ∈ a :: l
    by_cases e : l = []
    · subst e
      have := h0 a List.mem_cons_self
      have : max a (top0 []) = a := by show max a 0 = a; omega
      rw [this]; exact List.mem_cons_self
    · have := ih e fun y hy => h0 y (List.mem_cons_of_mem _ hy)
      by_cases c : a ≤ top0 l
      · rw [show max a (top0 l) = top0 l by omega]; exact List.mem_cons_of_mem _ this
      · rw [show max a (top0 l) = a by omega]; exact List.mem_cons_self
/-! ### layers: a turn for each letter -/
def setAll (hs : List Int) (ps : List Int) (v : Int) : List Int := ps.foldl (fun hs p => hs.set p.toNat v) hs
def addRow (rs : List (List Int)) (h : Nat) (a : Int) : List (List Int) := if h = rs.length then rs ++ [[a]] else rs.set h (rs.getD h [] ++ [a])
def hts (ls : Lets) (hs : List Int) (a : Int) : List Int := (pl ls a).map fun p => hs.getD p.toNat 0
def lstep (ls : Lets) (s : List Int × List (List Int)) (a : Int) : List Int × List (List Int) :=
  (setAll s.1 (pl ls a) (top0 (hts ls s.1 a) + 1), addRow s.2 (top0 (hts ls s.1 a)).toNat a)
def lay (ls : Lets) (k : Int) (w : List Int) : List Int × List (List Int) := w.foldl (lstep ls) (List.replicate k.toNat 0, [])
theorem setAll_len (ps : List Int) (v : Int) : ∀ hs : List Int, (setAll hs ps v).length = hs.length := by
  induction ps with
  | nil => intro hs; rfl
  | cons p ps ih =>
    intro hs
    show (setAll (hs.set p.toNat v) ps v).length = hs.length
    rw [ih, List.length_set]
theorem setAll_get {ps : List Int} {v : Int} (h0 : ∀ p ∈ ps, 0 ≤ p) {q : Nat} : ∀ {hs : List Int}, q < hs.length → (setAll hs ps v).getD q 0 = if (q : Int) ∈ ps then v else hs.getD q 0 := by
  induction ps with
  | nil => intro hs _; simp [setAll]
  | cons p ps ih =>
    intro hs hq
    show (setAll (hs.set p.toNat v) ps v).getD q 0 = _
    rw [ih (fun x hx => h0 x (List.mem_cons_of_mem _ hx)) (by rw [List.length_set]; exact hq)]
    have hp := h0 p List.mem_cons_self
    by_cases h1 : (q : Int) ∈ ps
    · rw [if_pos h1, if_pos (List.mem_cons_of_mem _ h1)]
    · rw [if_neg h1]
      by_cases h2 : p = q
      · subst h2
        rw [if_pos List.mem_cons_self]
        simp [List.getD_eq_getElem?_getD, hq]
      · rw [if_neg (by simp [h1]; omega)]
        have : p.toNat ≠ q := by omega
        simp [List.getD_eq_getElem?_getD, List.getElem?_set, this]
theorem addRow_len {rs : List (List Int)} {h : Nat} {a : Int} (hh : h ≤ rs.length) : (addRow rs h a).length = max rs.length (h + 1) := by
  unfold addRow
  split
  · rw [List.length_append, List.length_singleton]; omega
  · rw [List.length_set]; omega
theorem addRow_get {rs : List (List Int)} {h : Nat} {a : Int} (hh : h ≤ rs.length) (i : Nat) : (addRow rs h a).getD i [] = if i = h then rs.getD h [] ++ [a] else rs.getD i [] := by
  unfold addRow
  split
  · rename_i e
    subst e
    by_cases h1 : i < rs.length
    · rw [if_neg (by omega)]
      simp [List.getD_eq_getElem?_getD, List.getElem?_append_left h1]
    · by_cases h2 : i = rs.length
      · subst h2
        rw [if_pos rfl]
        simp [List.getD_eq_getElem?_getD]
      · rw [if_neg h2]
        have : rs.length ≤ i := by omega
        rw [List.getD_eq_getElem?_getD, List.getD_eq_getElem?_getD, List.getElem?_append_right this, List.getElem?_eq_none (by simp; omega), List.getElem?_eq_none (by omega)]
  · by_cases h2 : i = h
    · subst h2
      rw [if_pos rfl]
      simp [List.getD_eq_getElem?_getD, show i < rs.length by omega]
    · rw [if_neg h2]
      simp [List.getD_eq_getElem?_getD, List.getElem?_set, Ne.symm h2]
/-- what holds between the turns -/
structure LInv (ls : Lets) (k : Int) (w : List Int) (s : List Int × List (List Int)) : Prop where
  len : s.1.length = k.toNat
  hi : ∀ q : Nat, q < k.toNat → 0 ≤ s.1.getD q 0 ∧ s.1.getD q 0 ≤ s.2.length
  word : ∀ p, at_ ls p s.2.flatten = at_ ls p w
  above : ∀ (q : Nat) (i : Nat), q < k.toNat → s.1.getD q 0 ≤ i → at_ ls q (s.2.getD i []) = []
  apart : ∀ i, (s.2.getD i []).Pairwise fun a b => free ls a b = true
  rests : ∀ i a, a ∈ s.2.getD (i + 1) [] → ∃ b ∈ s.2.getD i [], free ls a b = false
  full : ∀ i, i < s.2.length → s.2.getD i [] ≠ []
  some : ∀ (q : Nat), q < k.toNat → 0 < s.1.getD q 0 → at_ ls q (s.2.getD ((s.1.getD q 0).toNat - 1) []) ≠ []
  ok : ∀ i, ∀ x ∈ s.2.getD i [], 0 ≤ x ∧ x < (ls.length : Int)
  cnt : s.2.length ≤ w.length
  few : ∀ i, (s.2.getD i []).length ≤ w.length
theorem at_append (ls : Lets) (p : Int) (u v : List Int) : at_ ls p (u ++ v) = at_ ls p u ++ at_ ls p v := List.filter_append ..
theorem at_flatten (ls : Lets) (p : Int) (rs : List (List Int)) : at_ ls p rs.flatten = (rs.map (at_ ls p)).flatten := by
  induction rs with
  | nil => rfl
  | cons r rs ih => rw [List.flatten_cons, at_append, ih]; rfl
theorem flat_nil {rs : List (List Int)} (h : ∀ r ∈ rs, r = []) : rs.flatten = [] := by
  induction rs with
  | nil => rfl
  | cons r rs ih => rw [List.flatten_cons, h r List.mem_cons_self, ih fun x hx => h x (List.mem_cons_of_mem _ hx)]; rfl
theorem addRow_at {ls : Lets} {rs : List (List Int)} {h : Nat} {a p : Int} (hh : h ≤ rs.length) (hp : p ∈ pl ls a → ∀ i, h ≤ i → at_ ls p (rs.getD i []) = []) : at_ ls p (addRow rs h a).flatten = at_ ls p rs.flatten ++ at_ ls p [a] := by
  unfold addRow
  split
  · rw [List.flatten_append, at_append]
    congr 1
  · have hlt : h < rs.length := by omega
    have e1 : rs.set h (rs.getD h [] ++ [a]) = rs.take h ++ (rs.getD h [] ++ [a]) :: rs.drop (h + 1) := by
      rw [List.set_eq_take_append_cons_drop, if_pos hlt]
    have e2 : rs = rs.take h ++ rs.getD h [] :: rs.drop (h + 1) := by
      conv => lhs; rw [← List.take_append_drop h rs, List.drop_eq_getElem_cons hlt]
      simp [List.getD_eq_getElem?_getD, hlt]
    rw [e1]
    conv => rhs; rw [e2]
    rw [List.flatten_append, List.flatten_cons, List.flatten_append, List.flatten_cons]
    simp only [at_append, List.append_assoc]
    congr 2
    by_cases hpa : p ∈ pl ls a
    · have hn := hp hpa
      have : at_ ls p (rs.drop (h + 1)).flatten = [] := by
        rw [at_flatten]
        apply flat_nil
        intro r hr
        obtain ⟨r0, hr0, rfl⟩ := List.mem_map.mp hr
        obtain ⟨n, hn2, e⟩ := List.getElem_of_mem hr0
        rw [List.getElem_drop] at e
        have := hn (h + 1 + n) (by omega)
        rw [← e]
        rw [List.length_drop] at hn2
        simpa [List.getD_eq_getElem?_getD, show h + 1 + n < rs.length by omega] using this
      rw [this]; simp
    · have : at_ ls p [a] = [] := by simp [at_, hpa]
      rw [this]; simp
theorem at_one {ls : Lets} {p a : Int} : at_ ls p [a] = if p ∈ pl ls a then [a] else [] := by
  by_cases h : p ∈ pl ls a <;> simp [at_, h]
theorem at_nil_iff {ls : Lets} {p : Int} {l : List Int} : at_ ls p l = [] ↔ ∀ x ∈ l, p ∉ pl ls x := by
  unfold at_
  rw [List.filter_eq_nil_iff]
  simp
theorem LInv.step {ls : Lets} {k : Int} {w : List Int} {s : List Int × List (List Int)} (A : AlphaOk k ls) (I : LInv ls k w s) {a : Int} (ha : 0 ≤ a ∧ a < (ls.length : Int)) : LInv ls k (w ++ [a]) (lstep ls s a) := by
  obtain ⟨hs, rs⟩ := s
  obtain ⟨pne, _, pok⟩ := A.ok _ (pl_mem ha.1 ha.2)
  have pin : ∀ p ∈ pl ls a, p.toNat < k.toNat ∧ ((p.toNat : Nat) : Int) = p := fun p hp => by have := pok p hp; omega
  -- the height
  have hmem : top0 (hts ls hs a) ∈ hts ls hs a := top0_mem (by simp [hts, pne]) fun y hy => by
    obtain ⟨p, hp, rfl⟩ := List.mem_map.mp hy
    exact (I.hi _ (pin p hp).1).1
  obtain ⟨p0, hp0, e0⟩ := List.mem_map.mp hmem
  have hge : ∀ p ∈ pl ls a, hs.getD p.toNat 0 ≤ top0 (hts ls hs a) := fun p hp => top0_le _ (List.mem_map_of_mem hp)
  have hb := I.hi _ (pin p0 hp0).1
  generalize hh : top0 (hts ls hs a) = h at *
  obtain ⟨n, rfl⟩ : ∃ n : Nat, h = n := ⟨h.toNat, by dsimp only at hb; omega⟩
  have hn : n ≤ rs.length := by dsimp only at hb; omega
  have E : lstep ls (hs, rs) a = (setAll hs (pl ls a) ((n : Int) + 1), addRow rs n a) := by
    show (setAll hs (pl ls a) (top0 (hts ls hs a) + 1), addRow rs (top0 (hts ls hs a)).toNat a) = _
    rw [hh]; rfl
  rw [E]
  have hl : hs.length = k.toNat := I.len
  have gs : ∀ q : Nat, q < k.toNat → (setAll hs (pl ls a) ((n : Int) + 1)).getD q 0 = if (q : Int) ∈ pl ls a then (n : Int) + 1 else hs.getD q 0 := fun q hq => setAll_get (fun p hp => (pok p hp).1) (by omega)
  have gr := addRow_get (a := a) hn
  have gl := addRow_len (a := a) hn
  have emp : ∀ p ∈ pl ls a, ∀ i, n ≤ i → at_ ls p (rs.getD i []) = [] := fun p hp i hi => by
    have := I.above p.toNat i (pin p hp).1 (by have := hge p hp; dsimp only; omega)
    rw [(pin p hp).2] at this
    exact this
  refine ⟨by rw [setAll_len]; exact hl, fun q hq => ?_, fun p => ?_, fun q i hq hi => ?_, fun i => ?_, fun i b hbm => ?_, fun i hi => ?_, fun q hq h0 => ?_, fun i x hx => ?_, by have := I.cnt; dsimp only at this ⊢; rw [gl, List.length_append, List.length_singleton]; omega, fun i => by
    have := I.few i
    have h2 := I.few n
    dsimp only at this h2 ⊢
    rw [gr, List.length_append, List.length_singleton]
    split
    · rw [List.length_append, List.length_singleton]; omega
    · omega⟩
  · dsimp only
    rw [gs q hq, gl]
    have := I.hi q hq
    dsimp only at this
    split <;> omega
  · dsimp only
    rw [addRow_at hn (fun hp => emp p hp), at_append, I.word p]
  · dsimp only at hi ⊢
    rw [gs q hq] at hi
    rw [gr]
    split at hi
    · rename_i hqa
      rw [if_neg (by omega)]
      exact emp _ hqa i (by omega)
    · rename_i hqa
      split
      · rename_i e
        subst e
        rw [at_append, at_one, if_neg hqa, I.above q i hq hi]; rfl
      · exact I.above q i hq hi
  · dsimp only
    rw [gr]
    split
    · rw [List.pairwise_append]
      refine ⟨I.apart n, List.pairwise_singleton _ _, fun b hb c hc => ?_⟩
      rw [List.mem_singleton.mp hc]
      refine disj_iff.mpr fun p hpb hpa => ?_
      exact at_nil_iff.mp (emp p hpa n (Nat.le_refl _)) b hb hpb
    · exact I.apart i
  · dsimp only at hbm ⊢
    rw [gr] at hbm
    have old : ∀ (c : Int), c ∈ rs.getD i [] → c ∈ (addRow rs n a).getD i [] := fun c hc => by
      rw [gr]
      split
      · rename_i e; subst e; exact List.mem_append_left _ hc
      · exact hc
    have fromold : b ∈ rs.getD (i + 1) [] → ∃ c ∈ (addRow rs n a).getD i [], free ls b c = false := fun h => by
      obtain ⟨c, hc, f⟩ := I.rests i b h
      exact ⟨c, old c hc, f⟩
    split at hbm
    · rename_i e
      rcases List.mem_append.mp hbm with h | h
      · exact fromold (by rw [e]; exact h)
      · rw [List.mem_singleton.mp h]
        have sm := I.some p0.toNat (pin p0 hp0).1 (by dsimp only; omega)
        dsimp only at sm
        rw [show (hs.getD p0.toNat 0).toNat - 1 = i by omega, (pin p0 hp0).2] at sm
        cases hat : at_ ls p0 (rs.getD i []) with
        | nil => exact absurd hat sm
        | cons c cs =>
          have hc : c ∈ at_ ls p0 (rs.getD i []) := by rw [hat]; exact List.mem_cons_self
          unfold at_ at hc
          obtain ⟨h1, h2⟩ := List.mem_filter.mp hc
          exact ⟨c, old c h1, not_disj.mpr ⟨p0, hp0, by simpa using h2⟩⟩
    · exact fromold hbm
  · dsimp only at hi ⊢
    rw [gr]
    rw [gl] at hi
    split
    · simp
    · exact I.full i (by dsimp only; omega)
  · dsimp only at h0 ⊢
    rw [gs q hq] at h0 ⊢
    split
    · rename_i hqa
      rw [show (((n : Int) + 1).toNat - 1) = n by omega, gr, if_pos rfl, at_append, at_one, if_pos hqa]
      simp
    · rename_i hqa
      rw [if_neg hqa] at h0
      have := I.some q hq h0
      dsimp only at this
      rw [gr]
      split
      · rename_i e
        rw [e] at this
        rw [at_append]
        intro z
        exact this (List.append_eq_nil_iff.mp z).1
      · exact this
  · dsimp only at hx
    rw [gr] at hx
    split at hx
    · rcases List.mem_append.mp hx with h | h
      · exact I.ok n x h
      · rw [List.mem_singleton.mp h]; exact ha
    · exact I.ok i x hx
theorem LInv.start {ls : Lets} {k : Int} : LInv ls k [] (List.replicate k.toNat 0, []) := by
  have g : ∀ q : Nat, (List.replicate k.toNat (0 : Int)).getD q 0 = 0 := fun q => by
    rw [List.getD_eq_getElem?_getD, List.getElem?_replicate]; split <;> rfl
  refine ⟨List.length_replicate, fun q _ => ?_, fun p => rfl, fun q i _ _ => rfl, fun i => List.Pairwise.nil, fun i a h => (by cases h), fun i h => (by cases h), fun q _ h => ?_, fun i x h => (by cases h), Nat.le_refl _, fun i => Nat.le_refl _⟩
  · dsimp only; rw [g]; exact ⟨Int.le_refl _, Int.le_refl _⟩
  · dsimp only at h; rw [g] at h; omega
/-! ### the order of free neighbours doesn't matter -/
structure Like (s t : List Int × List (List Int)) : Prop where
  hs : s.1 = t.1
  len : s.2.length = t.2.length
  row : ∀ i, (s.2.getD i []).Perm (t.2.getD i [])
theorem hgt_le {ls : Lets} {k : Int} {w : List Int} {s : List Int × List (List Int)} (A : AlphaOk k ls) (I : LInv ls k w s) {a : Int} (ha : 0 ≤ a ∧ a < (ls.length : Int)) : (top0 (hts ls s.1 a)).toNat ≤ s.2.length ∧ 0 ≤ top0 (hts ls s.1 a) := by
  obtain ⟨pne, _, pok⟩ := A.ok _ (pl_mem ha.1 ha.2)
  have hb : ∀ p ∈ pl ls a, 0 ≤ s.1.getD p.toNat 0 ∧ s.1.getD p.toNat 0 ≤ s.2.length := fun p hp => I.hi _ (by have := pok p hp; omega)
  have hmem : top0 (hts ls s.1 a) ∈ hts ls s.1 a := top0_mem (by simp [hts, pne]) fun y hy => by
    obtain ⟨p, hp, rfl⟩ := List.mem_map.mp hy
    exact (hb p hp).1
  obtain ⟨p, hp, e⟩ := List.mem_map.mp hmem
  have := hb p hp
  omega
theorem Like.step {ls : Lets} {k : Int} {w : List Int} {s t : List Int × List (List Int)} (A : AlphaOk k ls) (I : LInv ls k w s) (L : Like s t) {a : Int} (ha : 0 ≤ a ∧ a < (ls.length : Int)) : Like (lstep ls s a) (lstep ls t a) := by
  have h1 := (hgt_le A I ha).1
  have e : hts ls t.1 a = hts ls s.1 a := by rw [L.hs]
  refine ⟨?_, ?_, fun i => ?_⟩
  · show setAll s.1 _ (top0 (hts ls s.1 a) + 1) = setAll t.1 _ (top0 (hts ls t.1 a) + 1)
    rw [e, L.hs]
  · show (addRow s.2 _ a).length = (addRow t.2 (top0 (hts ls t.1 a)).toNat a).length
    rw [e, addRow_len h1, addRow_len (by rw [← L.len]; exact h1), L.len]
  · show ((addRow s.2 _ a).getD i []).Perm ((addRow t.2 (top0 (hts ls t.1 a)).toNat a).getD i [])
    rw [e, addRow_get h1, addRow_get (by rw [← L.len]; exact h1)]
    split
    · exact (L.row _).append_right _
    · exact L.row i
/-! ### what the law asks of the layers -/
end My
namespace My
/-! ### words of places, swaps, least forms -/
/-- the same words of all places -/
def Alk (ls : Lets) (k : Int) (u v : List Int) : Prop := ∀ p : Int, 0 ≤ p → p < k → at_ ls p u = at_ ls p v
theorem Alk.symm {ls k u v} (h : Alk ls k u v) : Alk ls k v u := fun p a b => (h p a b).symm
theorem Alk.trans {ls k u v x} (h : Alk ls k u v) (g : Alk ls k v x) : Alk ls k u x := fun p a b => (h p a b).trans (g p a b)
theorem AlphaOk.pl_ok {k : Int} {ls : Lets} (A : AlphaOk k ls) {a : Int} (ha : 0 ≤ a ∧ a < (ls.length : Int)) : pl ls a ≠ [] ∧ ∀ p ∈ pl ls a, 0 ≤ p ∧ p < k := by
  obtain ⟨h1, _, h3⟩ := A.ok _ (pl_mem ha.1 ha.2)
  exact ⟨h1, h3⟩
theorem AlphaOk.some {k : Int} {ls : Lets} (A : AlphaOk k ls) {a : Int} (ha : 0 ≤ a ∧ a < (ls.length : Int)) : ∃ p ∈ pl ls a, 0 ≤ p ∧ p < k := by
  obtain ⟨h1, h3⟩ := A.pl_ok ha
  obtain ⟨p, hp⟩ := List.exists_mem_of_ne_nil _ h1
  exact ⟨p, hp, h3 p hp⟩
/-- the letter comes next at each of its places -/
def rdy (ls : Lets) (r : List Int) (a : Int) : Bool := (pl ls a).all fun p => decide ((at_ ls p r).head? = some a)
theorem rdy_iff {ls : Lets} {r : List Int} {a : Int} : rdy ls r a = true ↔ ∀ p ∈ pl ls a, (at_ ls p r).head? = some a := by
  unfold rdy; simp
theorem at_cons_in {ls : Lets} {p a : Int} {r : List Int} (h : p ∈ pl ls a) : at_ ls p (a :: r) = a :: at_ ls p r := by
  unfold at_; rw [List.filter_cons, if_pos (by simpa using h)]
theorem at_cons_out {ls : Lets} {p a : Int} {r : List Int} (h : p ∉ pl ls a) : at_ ls p (a :: r) = at_ ls p r := by
  unfold at_; rw [List.filter_cons, if_neg (by simpa using h)]
theorem rdy_first {ls : Lets} {r : List Int} {a : Int} : rdy ls (a :: r) a = true := rdy_iff.mpr fun p hp => by rw [at_cons_in hp]; rfl
theorem WordOk.tail {ls : Lets} {a : Int} {r : List Int} (h : WordOk ls (a :: r)) : WordOk ls r := fun x hx => h x (List.mem_cons_of_mem _ hx)
theorem WordOk.erase {ls : Lets} {a : Int} {r : List Int} (h : WordOk ls r) : WordOk ls (r.erase a) := fun x hx => h x (List.mem_of_mem_erase hx)
theorem rdy_split {k : Int} {ls : Lets} (A : AlphaOk k ls) {a : Int} (ha : 0 ≤ a ∧ a < (ls.length : Int)) : ∀ {r : List Int}, rdy ls r a = true → ∃ r1 r2, r = r1 ++ a :: r2 ∧ a ∉ r1 ∧ (∀ b ∈ r1, free ls b a = true) ∧ r.erase a = r1 ++ r2
  | [], h => by
    obtain ⟨p, hp, _⟩ := A.some ha
    have := rdy_iff.mp h p hp
    simp [at_] at this
  | b :: r, h => by
    by_cases e : b = a
    · subst e
      exact ⟨[], r, rfl, by simp, (by simp), by simp⟩
    · have hp : ∀ p ∈ pl ls a, p ∉ pl ls b := fun p hp hb => by
        have := rdy_iff.mp h p hp
        rw [at_cons_in hb] at this
        exact e (by simpa using this)
      have h2 : rdy ls r a = true := rdy_iff.mpr fun p q => by
        have := rdy_iff.mp h p q
        rwa [at_cons_out (hp p q)] at this
      obtain ⟨r1, r2, e1, n1, f1, x1⟩ := rdy_split A ha h2
      refine ⟨b :: r1, r2, by rw [e1]; rfl, ?_, ?_, ?_⟩
      · intro hm
        rcases List.mem_cons.mp hm with hm | hm
        · exact e hm.symm
        · exact n1 hm
      · intro c hc
        rcases List.mem_cons.mp hc with rfl | hc
        · exact disj_iff.mpr fun p hpb hpa => hp p hpa hpb
        · exact f1 c hc
      · rw [List.erase_cons, if_neg (by simpa using e), x1]; rfl
theorem rdy_at {k : Int} {ls : Lets} (A : AlphaOk k ls) {a : Int} (ha : 0 ≤ a ∧ a < (ls.length : Int)) {r : List Int} (h : rdy ls r a = true) (p : Int) : at_ ls p r = at_ ls p (a :: r.erase a) := by
  obtain ⟨r1, r2, e1, n1, f1, x1⟩ := rdy_split A ha h
  rw [x1]
  by_cases hp : p ∈ pl ls a
  · have : at_ ls p r1 = [] := at_nil_iff.mpr fun b hb q => disj_iff.mp (f1 b hb) p q hp
    rw [at_cons_in hp, e1, at_append, at_append, this, at_cons_in hp]; rfl
  · rw [at_cons_out hp, e1, at_append, at_append, at_cons_out hp]
theorem rdy_mem {k : Int} {ls : Lets} (A : AlphaOk k ls) {a : Int} (ha : 0 ≤ a ∧ a < (ls.length : Int)) {r : List Int} (h : rdy ls r a = true) : a ∈ r := by
  obtain ⟨r1, r2, e1, _⟩ := rdy_split A ha h
  rw [e1]; simp
theorem Swp.trans1 {ls : Lets} {w u v : List Int} {a : Int} : ∀ {r : List Int}, Swp ls w (u ++ (r ++ a :: v)) → (∀ b ∈ r, free ls b a = true) → Swp ls w (u ++ a :: (r ++ v)) := by
  intro r
  induction r generalizing u with
  | nil => intro h _; exact h
  | cons b r ih =>
    intro h hf
    have h1 : Swp ls w ((u ++ [b]) ++ (r ++ a :: v)) := by simpa using h
    have h2 := ih h1 fun c hc => hf c (List.mem_cons_of_mem _ hc)
    have h3 : Swp ls w (u ++ b :: a :: (r ++ v)) := by simpa using h2
    exact .step h3 (hf b List.mem_cons_self)
theorem Alk.nil {k : Int} {ls : Lets} (A : AlphaOk k ls) {u : List Int} (hu : WordOk ls u) (h : Alk ls k u []) : u = [] := by
  cases u with
  | nil => rfl
  | cons a u =>
    obtain ⟨p, hp, h0, h1⟩ := A.some (hu a List.mem_cons_self)
    have := h p h0 h1
    rw [at_cons_in hp] at this
    cases this
theorem Alk.rdy {k : Int} {ls : Lets} (A : AlphaOk k ls) {u v : List Int} (h : Alk ls k u v) {a : Int} (ha : 0 ≤ a ∧ a < (ls.length : Int)) : rdy ls u a = rdy ls v a := by
  have := (A.pl_ok ha).2
  rw [Bool.eq_iff_iff, rdy_iff, rdy_iff]
  exact ⟨fun x p hp => by rw [← h p (this p hp).1 (this p hp).2]; exact x p hp, fun x p hp => by rw [h p (this p hp).1 (this p hp).2]; exact x p hp⟩
theorem Alk.tail {k : Int} {ls : Lets} {a : Int} {u v : List Int} (h : Alk ls k (a :: u) (a :: v)) : Alk ls k u v := fun p h0 h1 => by
  have := h p h0 h1
  by_cases hp : p ∈ pl ls a
  · rw [at_cons_in hp, at_cons_in hp] at this
    exact (List.cons.inj this).2
  · rwa [at_cons_out hp, at_cons_out hp] at this
theorem Alk.erase {k : Int} {ls : Lets} (A : AlphaOk k ls) {u v : List Int} (h : Alk ls k u v) {a : Int} (ha : 0 ≤ a ∧ a < (ls.length : Int)) (r : My.rdy ls u a = true) : Alk ls k (u.erase a) (v.erase a) := by
  have r2 : My.rdy ls v a = true := by rw [← h.rdy A ha]; exact r
  refine Alk.tail (a := a) fun p h0 h1 => ?_
  rw [← rdy_at A ha r, ← rdy_at A ha r2]
  exact h p h0 h1
theorem Alk.head {k : Int} {ls : Lets} (A : AlphaOk k ls) {u v : List Int} {a : Int} (h : Alk ls k u (a :: v)) (ha : 0 ≤ a ∧ a < (ls.length : Int)) : My.rdy ls u a = true ∧ Alk ls k (u.erase a) v := by
  have r : My.rdy ls u a = true := by rw [h.rdy A ha]; exact rdy_first
  have := h.erase A ha r
  rw [List.erase_cons_head] at this
  exact ⟨r, this⟩
theorem swp_of_alk {k : Int} {ls : Lets} (A : AlphaOk k ls) : ∀ {v u w x : List Int}, WordOk ls u → WordOk ls v → Alk ls k u v → Swp ls w (x ++ u) → Swp ls w (x ++ v)
  | [], u, w, x, hu, hv, h, s => by rw [h.nil A hu] at s; exact s
  | a :: v, u, w, x, hu, hv, h, s => by
    have ha := hv a List.mem_cons_self
    obtain ⟨r, h2⟩ := h.head A ha
    obtain ⟨r1, r2, e1, n1, f1, x1⟩ := rdy_split A ha r
    have s2 : Swp ls w (x ++ a :: (r1 ++ r2)) := by
      rw [e1] at s
      exact s.trans1 f1
    rw [← x1] at s2
    have s3 : Swp ls w ((x ++ [a]) ++ u.erase a) := by simpa using s2
    have := swp_of_alk A hu.erase hv.tail h2 s3
    simpa using this
theorem Alk.len {k : Int} {ls : Lets} (A : AlphaOk k ls) {u v : List Int} (hu : WordOk ls u) (hv : WordOk ls v) (h : Alk ls k u v) : v.length = u.length :=
  (swp_of_alk A (x := []) hu hv h (.refl u)).word hu |>.2
/-! least forms -/
def nxt (ls : Lets) (r : List Int) : Option Nat := ((List.range ls.length).filter fun a : Nat => rdy ls r a).head?
def lfN (ls : Lets) : Nat → List Int → List Int
  | 0, _ => []
  | n + 1, r => match nxt ls r with
    | none => []
    | some a => (a : Int) :: lfN ls n (r.erase a)
def lf (ls : Lets) (w : List Int) : List Int := lfN ls w.length w
/-! lists of swaps -/
end My
namespace My
/-! ### swaps counted -/
def tot : List Int → List Int → Nat
  | _, [] => 0
  | x, a :: v => x.idxOf a + tot (x.erase a) v
/-- how often the letter at e stands before e -/
def occ (u : List Int) (e : Nat) : Nat := (u.take e).count (u.getD e 0)
def num (u : List Int) : List (Int × Int) := (List.range u.length).map fun e => (u.getD e 0, (occ u e : Int))
def pk (u : List Int) : List Int → List Int → List Nat
  | _, [] => []
  | pre, a :: v => (num u).idxOf (a, (pre.count a : Int)) :: pk u (pre ++ [a]) v
/-- a run: each time one of what is left is taken -/
inductive Run : List Nat → List Nat → Nat → Prop where
  | nil : Run [] [] 0
  | cons {r1 r2 P e t} : Run (r1 ++ r2) P t → Run (r1 ++ e :: r2) (e :: P) (r1.length + t)
def inv : List Nat → Nat
  | [] => 0
  | e :: P => (P.filter fun p => decide (p < e)).length + inv P
theorem Run.ok {r P t} (h : Run r P t) : r.Pairwise (· < ·) → r.Perm P ∧ t = inv P := by
  induction h with
  | nil => exact fun _ => ⟨.refl _, rfl⟩
  | @cons r1 r2 P e t h ih =>
    intro hp
    have hs : List.Sublist (r1 ++ r2) (r1 ++ e :: r2) := List.Sublist.append_left (List.sublist_cons_self _ _) _
    obtain ⟨p1, p2⟩ := ih (hp.sublist hs)
    refine ⟨List.perm_middle.trans (.cons e p1), ?_⟩
    have hf : (P.filter fun p => decide (p < e)).length = r1.length := by
      rw [← (p1.filter _).length_eq, List.filter_append]
      obtain ⟨q1, q2, q3⟩ := List.pairwise_append.mp hp
      rw [List.filter_eq_self.mpr fun x hx => decide_eq_true (q3 x hx e List.mem_cons_self), List.filter_eq_nil_iff.mpr fun x hx => by
        have := (List.pairwise_cons.mp q2).1 x hx
        simp; omega]
      simp
    unfold inv
    rw [hf, p2]
end My
namespace My
/-! ### all orders of a word, found breadth first -/
def ins (a : Int) : List Int → List (List Int)
  | [] => [[a]]
  | b :: l => (a :: b :: l) :: (ins a l).map (b :: ·)
theorem nodup_le {α : Type} [DecidableEq α] : ∀ {l m : List α}, l.Nodup → (∀ x ∈ l, x ∈ m) → l.length ≤ m.length
  | [], m, _, _ => Nat.zero_le _
  | x :: l, m, h, s => by
    obtain ⟨h1, h2⟩ := List.nodup_cons.mp h
    have hx := s x List.mem_cons_self
    have := nodup_le (l := l) (m := m.erase x) h2 fun y hy => by
      have hne : y ≠ x := fun e => h1 (e ▸ hy)
      exact (List.mem_erase_of_ne hne).mpr (s y (List.mem_cons_of_mem _ hy))
    rw [List.length_erase_of_mem hx] at this
    have := List.length_pos_of_mem hx
    rw [List.length_cons]; omega
end My
namespace My
/-- the words of all places -/
def pws (ls : Lets) (k : Int) (wd : List Int) : List (List Int) := (List.range k.toNat).map fun p : Nat => at_ ls p wd
end My
namespace My
/-! ### queues -/
abbrev Qs := List (List Int)
def qat (Q : Qs) (p : Int) : List Int := Q.getD p.toNat []
/-- the letter comes next in the queue of each of its places -/
def rdyR (ls : Lets) (Q : Qs) (a : Int) : Bool := (pl ls a).all fun p => decide ((qat Q p).head? = some a)
theorem rdyR_iff {ls : Lets} {Q : Qs} {a : Int} : rdyR ls Q a = true ↔ ∀ p ∈ pl ls a, (qat Q p).head? = some a := by
  unfold rdyR; simp
def nxtR (ls : Lets) (Q : Qs) : Option Nat := ((List.range ls.length).filter fun a : Nat => rdyR ls Q a).head?
/-- the letter taken off -/
def mvQ (ls : Lets) (a : Int) (Q : Qs) : Qs := (List.range Q.length).map fun p : Nat => if (p : Int) ∈ pl ls a then (qat Q p).tail else qat Q p
def totQ (Q : Qs) : Nat := (Q.map List.length).sum
def tkN (ls : Lets) : Nat → Qs → List Int
  | 0, _ => []
  | n + 1, Q => match nxtR ls Q with
    | none => []
    | some a => (a : Int) :: tkN ls n (mvQ ls a Q)
/-- the letters that happen if always the first ready one does -/
def tk (ls : Lets) (Q : Qs) : List Int := tkN ls (totQ Q) Q
theorem mvQ_len {ls : Lets} {a : Int} {Q : Qs} : (mvQ ls a Q).length = Q.length := by unfold mvQ; simp
theorem qat_map {n : Nat} {f : Nat → List Int} {p : Nat} (h : p < n) : qat ((List.range n).map f) (p : Int) = f p := by
  unfold qat
  rw [Int.toNat_natCast, List.getD_eq_getElem?_getD, List.getElem?_map, List.getElem?_range h]; rfl
theorem qat_mv {ls : Lets} {a : Int} {Q : Qs} {p : Nat} (h : p < Q.length) : qat (mvQ ls a Q) (p : Int) = if (p : Int) ∈ pl ls a then (qat Q p).tail else qat Q p := by
  unfold mvQ
  rw [qat_map h]
theorem qs_eq {Q : Qs} : Q = (List.range Q.length).map fun p : Nat => qat Q p := by
  apply List.ext_getElem
  · simp
  · intro i h1 h2
    simp only [List.getElem_map, List.getElem_range]
    unfold qat
    rw [Int.toNat_natCast, List.getD_eq_getElem?_getD, List.getElem?_eq_getElem h1]; rfl
theorem qs_ext {Q R : Qs} (hl : Q.length = R.length) (h : ∀ p : Nat, p < Q.length → qat Q p = qat R p) : Q = R := by
  rw [qs_eq (Q := Q), qs_eq (Q := R), ← hl]
  exact List.map_congr_left fun p hp => h p (List.mem_range.mp hp)
theorem totQ_eq {Q : Qs} : totQ Q = ((List.range Q.length).map fun p : Nat => (qat Q p).length).sum := by
  unfold totQ
  conv => lhs; rw [qs_eq (Q := Q), List.map_map]
  rfl
theorem sum_le {l : List Nat} {f g : Nat → Nat} (h : ∀ x ∈ l, f x ≤ g x) : (l.map f).sum ≤ (l.map g).sum := by
  induction l with
  | nil => exact Nat.le_refl _
  | cons a l ih =>
    have := h a List.mem_cons_self
    have := ih fun x hx => h x (List.mem_cons_of_mem _ hx)
    simp only [List.map_cons, List.sum_cons]; omega
theorem sum_lt {l : List Nat} {f g : Nat → Nat} (h : ∀ x ∈ l, f x ≤ g x) {y : Nat} (hy : y ∈ l) (hlt : f y < g y) : (l.map f).sum < (l.map g).sum := by
  induction l with
  | nil => cases hy
  | cons a l ih =>
    have h1 := h a List.mem_cons_self
    have h2 := sum_le fun x hx => h x (List.mem_cons_of_mem _ hx)
    simp only [List.map_cons, List.sum_cons]
    rcases List.mem_cons.mp hy with rfl | hy
    · omega
    · have := ih (fun x hx => h x (List.mem_cons_of_mem _ hx)) hy; omega
theorem totQ_mv {k : Int} {ls : Lets} (A : AlphaOk k ls) {Q : Qs} (hQ : Q.length = k.toNat) {a : Int} (ha : 0 ≤ a ∧ a < (ls.length : Int)) (r : rdyR ls Q a = true) : totQ (mvQ ls a Q) < totQ Q := by
  obtain ⟨p, hp, p0, pk⟩ := A.some ha
  obtain ⟨n, rfl⟩ := Int.eq_ofNat_of_zero_le p0
  have hn : n < Q.length := by omega
  rw [totQ_eq, totQ_eq (Q := Q), mvQ_len]
  refine sum_lt (fun x hx => ?_) (List.mem_range.mpr hn) ?_
  · rw [qat_mv (List.mem_range.mp hx)]
    split
    · rw [List.length_tail]; omega
    · exact Nat.le_refl _
  · rw [qat_mv hn, if_pos hp, List.length_tail]
    have := rdyR_iff.mp r _ hp
    cases e : qat Q (n : Int) with
    | nil => rw [e] at this; cases this
    | cons b l => simp
/-! heads -/
def rq (qs : Qs) (hs : List Int) : Qs := (List.range qs.length).map fun p : Nat => (qat qs p).drop (hs.getD p 0).toNat
def mvH (ls : Lets) (a : Int) (hs : List Int) : List Int := hs.zipIdx.map fun z => z.1 + if (z.2 : Int) ∈ pl ls a then 1 else 0
structure QOk (k : Int) (qs : Qs) (hs : List Int) : Prop where
  ql : qs.length = k.toNat
  hl : hs.length = k.toNat
  h0 : ∀ x ∈ hs, 0 ≤ x
theorem rq_len {qs : Qs} {hs : List Int} : (rq qs hs).length = qs.length := by unfold rq; simp
theorem qat_rq {qs : Qs} {hs : List Int} {p : Nat} (h : p < qs.length) : qat (rq qs hs) (p : Int) = (qat qs p).drop (hs.getD p 0).toNat := qat_map h
theorem mvH_get {ls : Lets} {a : Int} {hs : List Int} {p : Nat} (h : p < hs.length) : (mvH ls a hs).getD p 0 = hs.getD p 0 + if (p : Int) ∈ pl ls a then 1 else 0 := by
  unfold mvH
  rw [List.getD_eq_getElem?_getD, List.getElem?_map, List.getElem?_zipIdx, List.getElem?_eq_getElem h, List.getD_eq_getElem?_getD, List.getElem?_eq_getElem h]
  simp
theorem getD_mem {hs : List Int} {p : Nat} (h : p < hs.length) : hs.getD p 0 ∈ hs := by
  rw [List.getD_eq_getElem?_getD, List.getElem?_eq_getElem h]; exact List.getElem_mem h
theorem QOk.mv {k : Int} {qs : Qs} {hs : List Int} (h : QOk k qs hs) {ls : Lets} {a : Int} : QOk k qs (mvH ls a hs) := by
  refine ⟨h.ql, by unfold mvH; rw [List.length_map, List.length_zipIdx]; exact h.hl, fun x hx => ?_⟩
  unfold mvH at hx
  obtain ⟨z, hz, rfl⟩ := List.mem_map.mp hx
  have := h.h0 z.1 (by
    have := List.mem_zipIdx hz
    rw [this.2.2]; exact List.getElem_mem _)
  split <;> omega
theorem rq_mv {k : Int} {qs : Qs} {hs : List Int} (h : QOk k qs hs) {ls : Lets} {a : Int} : rq qs (mvH ls a hs) = mvQ ls a (rq qs hs) := by
  have hl := h.hl; have ql := h.ql
  refine qs_ext (by rw [mvQ_len, rq_len, rq_len]) fun p hp => ?_
  rw [rq_len] at hp
  rw [qat_rq hp, qat_mv (by rw [rq_len]; exact hp), qat_rq hp, mvH_get (by omega)]
  have := h.h0 _ (getD_mem (hs := hs) (p := p) (by omega))
  split
  · rw [show (hs.getD p 0 + 1).toNat = (hs.getD p 0).toNat + 1 by omega, List.tail_drop]
  · rw [Int.add_zero]
theorem rq_zero {k : Int} {qs : Qs} (h : qs.length = k.toNat) : QOk k qs (List.replicate k.toNat 0) ∧ rq qs (List.replicate k.toNat 0) = qs := by
  refine ⟨⟨h, by simp, fun x hx => by rw [List.eq_of_mem_replicate hx]; exact Int.le_refl _⟩, ?_⟩
  refine qs_ext (by rw [rq_len]) fun p hp => ?_
  rw [rq_len] at hp
  rw [qat_rq hp, List.getD_eq_getElem?_getD, List.getElem?_replicate]
  split <;> rfl
/-! queues of a word -/
def QW (ls : Lets) (k : Int) (Q : Qs) (r : List Int) : Prop := Q.length = k.toNat ∧ ∀ p : Nat, (p : Int) < k → qat Q p = at_ ls p r
theorem QW.rdy {k : Int} {ls : Lets} (A : AlphaOk k ls) {Q : Qs} {r : List Int} (h : QW ls k Q r) {a : Int} (ha : 0 ≤ a ∧ a < (ls.length : Int)) : rdyR ls Q a = rdy ls r a := by
  have pk := (A.pl_ok ha).2
  rw [Bool.eq_iff_iff, rdyR_iff, rdy_iff]
  have key : ∀ p ∈ pl ls a, qat Q p = at_ ls p r := fun p hp => by
    obtain ⟨h0, h1⟩ := pk p hp
    obtain ⟨n, rfl⟩ := Int.eq_ofNat_of_zero_le h0
    exact h.2 n h1
  exact ⟨fun x p hp => by rw [← key p hp]; exact x p hp, fun x p hp => by rw [key p hp]; exact x p hp⟩
theorem QW.mv {k : Int} {ls : Lets} (A : AlphaOk k ls) {Q : Qs} {r : List Int} (h : QW ls k Q r) {a : Int} (ha : 0 ≤ a ∧ a < (ls.length : Int)) (rd : My.rdy ls r a = true) : QW ls k (mvQ ls a Q) (r.erase a) := by
  refine ⟨by rw [mvQ_len]; exact h.1, fun p hp => ?_⟩
  have hq := h.1
  rw [qat_mv (by omega), h.2 p hp, rdy_at A ha rd p]
  split
  · rename_i hm; rw [at_cons_in hm]; rfl
  · rename_i hm; rw [at_cons_out hm]
end My
namespace My
/-! ### runs of queues in any order -/
structure Sch (k : Int) (ls : Lets) (qs : Qs) (f hs : List Int) : Prop where
  q : QOk k qs hs
  wf : WordOk ls f
  hp : ∀ p : Nat, (p : Int) < k → hs.getD p 0 = ((at_ ls p f).length : Int) ∧ at_ ls p f ++ qat (rq qs hs) p = qat qs p
  tot : f.length + totQ (rq qs hs) ≤ totQ qs
  of : ∀ w, WordOk ls w → QW ls k qs w → ∃ r, WordOk ls r ∧ QW ls k (rq qs hs) r
theorem Sch.start {k : Int} {ls : Lets} {qs : Qs} (h : qs.length = k.toNat) : Sch k ls qs [] (List.replicate k.toNat 0) := by
  obtain ⟨z1, z2⟩ := rq_zero (qs := qs) h
  refine ⟨z1, fun x hx => (by cases hx), fun p hp => ⟨?_, by rw [z2]; rfl⟩, by rw [z2]; simp, fun w hw hq => ⟨w, hw, by rw [z2]; exact hq⟩⟩
  rw [List.getD_eq_getElem?_getD, List.getElem?_replicate]
  split <;> rfl
theorem Sch.step {k : Int} {ls : Lets} (A : AlphaOk k ls) {qs : Qs} {f hs : List Int} (h : Sch k ls qs f hs) {a : Int} (ha : 0 ≤ a ∧ a < (ls.length : Int)) (rd : rdyR ls (rq qs hs) a = true) : Sch k ls qs (f ++ [a]) (mvH ls a hs) := by
  have hl := h.q.hl; have ql := h.q.ql
  have mv := rq_mv h.q (ls := ls) (a := a)
  have lt := totQ_mv A (Q := rq qs hs) (by rw [rq_len]; exact ql) ha rd
  refine ⟨h.q.mv, fun x hx => ?_, fun p hp => ?_, ?_, fun w hw hq => ?_⟩
  · rcases List.mem_append.mp hx with hx | hx
    · exact h.wf x hx
    · rw [List.mem_singleton.mp hx]; exact ha
  · obtain ⟨h1, h2⟩ := h.hp p hp
    have hpn : p < qs.length := by omega
    rw [mvH_get (by omega), mv, qat_mv (by rw [rq_len]; exact hpn), at_append]
    by_cases hm : (p : Int) ∈ pl ls a
    · rw [if_pos hm, if_pos hm, at_cons_in hm]
      have hd := rdyR_iff.mp rd _ hm
      cases e : qat (rq qs hs) (p : Int) with
      | nil => rw [e] at hd; cases hd
      | cons b t =>
        rw [e] at hd h2
        have hb : b = a := by simpa using hd
        subst hb
        refine ⟨?_, ?_⟩
        · rw [h1, show at_ ls (p : Int) [] = [] from rfl, List.length_append]; simp
        · rw [← h2]
          simp only [show at_ ls (p : Int) [] = [] from rfl, List.tail_cons, List.append_assoc, List.cons_append, List.nil_append]
    · rw [if_neg hm, if_neg hm, at_cons_out hm, Int.add_zero, show at_ ls (p : Int) [] = [] from rfl, List.append_nil]
      exact ⟨h1, h2⟩
  · rw [mv, List.length_append]; simp only [List.length_singleton]
    have := h.tot
    omega
  · obtain ⟨r, hr, qr⟩ := h.of w hw hq
    rw [qr.rdy A ha] at rd
    exact ⟨r.erase a, hr.erase, by rw [mv]; exact qr.mv A ha rd⟩
end My
namespace My
/-! ### prefixes up to order -/
/-- what is left of a word behind the letters of another one -/
def dif (w u : List Int) : List Int := u.foldl (fun w a => w.erase a) w
theorem dif_cons {w u : List Int} {a : Int} : dif w (a :: u) = dif (w.erase a) u := rfl
def Pre (ls : Lets) (k : Int) (u w : List Int) : Prop := ∀ p : Int, 0 ≤ p → p < k → at_ ls p u <+: at_ ls p w
theorem Pre.head {k : Int} {ls : Lets} (A : AlphaOk k ls) {a : Int} {u w : List Int} (ha : 0 ≤ a ∧ a < (ls.length : Int)) (h : Pre ls k (a :: u) w) : rdy ls w a = true ∧ Pre ls k u (w.erase a) := by
  have pk := (A.pl_ok ha).2
  have r : rdy ls w a = true := rdy_iff.mpr fun p hp => by
    obtain ⟨t, e⟩ := h p (pk p hp).1 (pk p hp).2
    rw [at_cons_in hp] at e
    rw [← e]; rfl
  refine ⟨r, fun p h0 h1 => ?_⟩
  have q := h p h0 h1
  rw [rdy_at A ha r p] at q
  by_cases hp : p ∈ pl ls a
  · rw [at_cons_in hp, at_cons_in hp] at q
    exact (List.cons_prefix_cons.mp q).2
  · rw [at_cons_out hp, at_cons_out hp] at q
    exact q
theorem pre_dif {k : Int} {ls : Lets} (A : AlphaOk k ls) : ∀ {u w : List Int}, WordOk ls u → WordOk ls w → Pre ls k u w → WordOk ls (dif w u) ∧ (dif w u).length + u.length = w.length ∧ ∀ p : Int, 0 ≤ p → p < k → at_ ls p u ++ at_ ls p (dif w u) = at_ ls p w
  | [], w, _, hw, _ => ⟨hw, rfl, fun p _ _ => rfl⟩
  | a :: u, w, hu, hw, h => by
    have ha := hu a List.mem_cons_self
    obtain ⟨r, h2⟩ := h.head A ha
    obtain ⟨i1, i2, i3⟩ := pre_dif A hu.tail hw.erase h2
    have hm := rdy_mem A ha r
    have := List.length_erase_of_mem hm
    have := List.length_pos_of_mem hm
    refine ⟨i1, by rw [dif_cons, List.length_cons]; omega, fun p h0 h1 => ?_⟩
    rw [dif_cons, rdy_at A ha r p]
    by_cases hp : p ∈ pl ls a
    · rw [at_cons_in hp, at_cons_in hp, List.cons_append, i3 p h0 h1]
    · rw [at_cons_out hp, at_cons_out hp, i3 p h0 h1]
theorem Pre.rdy {k : Int} {ls : Lets} (A : AlphaOk k ls) {u w : List Int} (h : Pre ls k u w) {a : Int} (ha : 0 ≤ a ∧ a < (ls.length : Int)) (r : My.rdy ls u a = true) : My.rdy ls w a = true := rdy_iff.mpr fun p hp => by
  obtain ⟨h0, h1⟩ := (A.pl_ok ha).2 p hp
  have := rdy_iff.mp r p hp
  obtain ⟨t, e⟩ := h p h0 h1
  rw [← e]
  cases z : at_ ls p u with
  | nil => rw [z] at this; cases this
  | cons b l => rw [z] at this; exact this
/-! the greatest common prefix -/
/-! without, by counts -/
def inc (ts : List Int) (a : Int) : List Int := ts.set a.toNat (ts.getD a.toNat 0 + 1)
def ebN : List Int → List Int → Nat → List Nat
  | _, [], _ => []
  | ts, x :: w, i => if 0 < ts.getD x.toNat 0 then ebN (ts.set x.toNat (ts.getD x.toNat 0 - 1)) w (i + 1) else i :: ebN ts w (i + 1)
def cnts (ls : Lets) (u : List Int) : List Int := u.foldl inc (List.replicate ls.length 0)
def eb (ls : Lets) (w u : List Int) : List Nat := ebN (cnts ls u) w 0
theorem getD_set {ts : List Int} {i j : Nat} {x : Int} (h : i < ts.length) : (ts.set i x).getD j 0 = if i = j then x else ts.getD j 0 := by
  rw [List.getD_eq_getElem?_getD, List.getElem?_set, List.getD_eq_getElem?_getD]
  by_cases e : i = j
  · subst e; simp [h]
  · simp [e]
end My
namespace My
/-! ### cuts -/
/-! the cut of a prefix -/
/-! the greatest common prefix is the greatest -/
theorem Pre.len {k : Int} {ls : Lets} (A : AlphaOk k ls) {u w : List Int} (hu : WordOk ls u) (hw : WordOk ls w) (h : Pre ls k u w) : u.length ≤ w.length := by
  have := (pre_dif A hu hw h).2.1
  omega
end My
namespace My
/-! ### lines of places, heads, least cuts -/
def lineQ (ls : Lets) (wd : List Int) (p : Int) : List Int := ((List.range wd.length).filter fun e : Nat => decide (p ∈ pl ls (wd.getD e 0))).map fun e : Nat => (e : Int)
def unm (cs : List (List Int)) (l : List Int) : Int := match (List.range l.length).find? fun p => !decide (l.getD p 0 ∈ cs.getD p []) with
  | some p => (p : Int)
  | none => -1
/-! heads of a cut -/
def lastL (qs : List (List Int)) (hs : List Int) : List Int := (qs.zip hs).map fun z => if z.2 > 0 then z.1.getD (z.2 - 1).toNat 0 else -1
/-- what the heads hs take -/
def tkn2 (ls : Lets) (wd hs : List Int) (p : Nat) : List Int := (lineQ ls wd p).take (hs.getD p 0).toNat
def Full (ls : Lets) (wd hs : List Int) (e : Int) : Prop := ∀ q : Nat, (q : Int) ∈ pl ls (wd.getD e.toNat 0) → e ∈ tkn2 ls wd hs q
theorem tkn2_mono {ls : Lets} {wd hs : List Int} {p q : Nat} {h : Nat} (hp : p < hs.length) (hh : hs.getD p 0 = (h : Int)) {x : Int} (hx : x ∈ tkn2 ls wd hs q) : x ∈ tkn2 ls wd (hs.set p ((h : Int) + 1)) q := by
  unfold tkn2 at hx ⊢
  rw [getD_set hp]
  by_cases e : p = q
  · subst e
    rw [if_pos rfl]
    rw [hh, Int.toNat_natCast] at hx
    rw [show ((h : Int) + 1).toNat = h + 1 by omega]
    exact (List.take_sublist_take_left (by omega)).subset hx
  · rw [if_neg e]; exact hx
theorem Full.mono {ls : Lets} {wd hs : List Int} {p : Nat} {h : Nat} (hp : p < hs.length) (hh : hs.getD p 0 = (h : Int)) {x : Int} (f : Full ls wd hs x) : Full ls wd (hs.set p ((h : Int) + 1)) x := fun q hq => tkn2_mono hp hh (f q hq)
/-! the last letters -/
/-! least cuts in which the conditions hold -/
end My
namespace My
open Hq
/-! ### beginnings of orders, told by their heads; the least of them that avoids some heads -/
def hdF (ls : Lets) (k : Int) (u : List Int) : List Int := u.foldl (fun h a => mvH ls a h) (List.replicate k.toNat 0)
def Bg (ls : Lets) (k : Int) (wd u : List Int) : Prop := WordOk ls u ∧ ∃ r, WordOk ls r ∧ Alk ls k wd (u ++ r)
/-! #### lists of pairs with each first part once -/
/-! #### the rounds -/
def bad (cs qs : List (List Int)) (h : List Int) : Bool := decide (unm cs (lastL qs h) < 0)
def Av (ls : Lets) (k : Int) (wd : List Int) (cs : List (List Int)) (u : List Int) : Prop := ∀ m, m ≤ u.length → bad cs (pws ls k wd) (hdF ls k (u.take m)) = false
structure Dl (ls : Lets) (k : Int) (wd : List Int) (cs : List (List Int)) (r : Nat) (Pr : List Int → Int → Prop) (L : List (List Int × List Int)) : Prop where
  nd : (L.map (·.1)).Nodup
  ok : ∀ z ∈ L, z.2.length = r + 1 ∧ Bg ls k wd z.2 ∧ hdF ls k z.2 = z.1 ∧ Av ls k wd cs z.2
  le : ∀ (o : List Int) (a : Int), Pr o a → bad cs (pws ls k wd) (mvH ls a (hdF ls k o)) = false → ∃ z ∈ L, z.1 = mvH ls a (hdF ls k o) ∧ z.2 ≤ o ++ [a]
theorem Dl.mono {ls k wd cs r Pr Pr' L} (h : Dl ls k wd cs r Pr L) (hp : ∀ o a, Pr' o a → Pr o a) : Dl ls k wd cs r Pr' L := ⟨h.nd, h.ok, fun o a p => h.le o a (hp o a p)⟩
theorem Dl.skip {ls k wd cs r Pr L} (h : Dl ls k wd cs r Pr L) {o : List Int} {a : Int} (hb : bad cs (pws ls k wd) (mvH ls a (hdF ls k o)) = true) : Dl ls k wd cs r (fun o' a' => Pr o' a' ∨ (o' = o ∧ a' = a)) L :=
  ⟨h.nd, h.ok, fun o' a' p hb' => by
    rcases p with p | ⟨rfl, rfl⟩
    · exact h.le o' a' p hb'
    · rw [hb] at hb'; cases hb'⟩
/-! #### last letters -/
end My
namespace My
/-! ### the order of events -/
/-- event j of the word depends on event k -/
def dep (ls : Lets) (w : List Int) (j k : Nat) : Bool := !free ls (w.getD j 0) (w.getD k 0)
inductive Bel (d : Nat → Nat → Bool) : Nat → Nat → Prop where
  | refl (i : Nat) : Bel d i i
  | step {i j k : Nat} : Bel d i j → j < k → d j k = true → Bel d i k
theorem Bel.le {d : Nat → Nat → Bool} {i k : Nat} (h : Bel d i k) : i ≤ k := by
  induction h with
  | refl => exact Nat.le_refl _
  | step _ h _ ih => omega
theorem Bel.cons {d : Nat → Nat → Bool} {i j k : Nat} (h : d i j = true) (l : i < j) (b : Bel d j k) : Bel d i k := by
  induction b with
  | refl => exact .step (.refl i) l h
  | step _ l2 h2 ih => exact .step ih l2 h2
theorem Bel.first {d : Nat → Nat → Bool} {i k : Nat} (b : Bel d i k) : i = k ∨ ∃ j, i < j ∧ d i j = true ∧ Bel d j k := by
  induction b with
  | refl => exact .inl rfl
  | @step j k b l h ih =>
    rcases ih with e | ⟨m, h1, h2, h3⟩
    · subst e; exact .inr ⟨k, l, h, .refl k⟩
    · exact .inr ⟨m, h1, h2, .step h3 l h⟩
theorem Bel.last {d : Nat → Nat → Bool} {i k : Nat} : Bel d i k ↔ i = k ∨ ∃ j, j < k ∧ d j k = true ∧ Bel d i j := by
  constructor
  · intro b
    cases b with
    | refl => exact .inl rfl
    | step b l h => exact .inr ⟨_, l, h, b⟩
  · rintro (e | ⟨j, l, h, b⟩)
    · subst e; exact .refl i
    · exact .step b l h
/-- a table of truth values at a place -/
def cell (m : List (List Bool)) (r c : Nat) : Bool := (m.getD r []).getD c false
def Sized (m : List (List Bool)) (n : Nat) : Prop := m.length = n ∧ ∀ r, r < n → (m.getD r []).length = n
def setCell (m : List (List Bool)) (r c : Nat) : List (List Bool) := m.set r ((m.getD r []).set c true)
theorem cell_set {m : List (List Bool)} {n r c r' c' : Nat} (s : Sized m n) (hr : r < n) (hc : c < n) : cell (setCell m r c) r' c' = if r' = r ∧ c' = c then true else cell m r' c' := by
  unfold cell setCell
  have h1 := s.1
  have h2 := s.2 r hr
  by_cases e : r' = r
  · subst e
    have : (m.set r' ((m.getD r' []).set c true)).getD r' [] = (m.getD r' []).set c true := by simp [List.getD_eq_getElem?_getD, h1, hr]
    rw [this]
    by_cases e2 : c' = c
    · subst e2
      rw [if_pos ⟨rfl, rfl⟩]
      simp only [List.getD_eq_getElem?_getD] at h2 ⊢
      simp [h2, hc]
    · rw [if_neg (fun z => e2 z.2)]
      simp [List.getD_eq_getElem?_getD, List.getElem?_set, Ne.symm e2]
  · rw [if_neg (fun z => e z.1)]
    simp [List.getD_eq_getElem?_getD, List.getElem?_set, Ne.symm e]
theorem sized_set {m : List (List Bool)} {n r c : Nat} (s : Sized m n) : Sized (setCell m r c) n := by
  unfold setCell
  refine ⟨by rw [List.length_set]; exact s.1, fun r' h => ?_⟩
  by_cases e : r' = r
  · subst e
    have h1 := s.1
    have : (m.set r' ((m.getD r' []).set c true)).getD r' [] = (m.getD r' []).set c true := by simp [List.getD_eq_getElem?_getD, h1, h]
    rw [this, List.length_set]; exact s.2 r' h
  · have := s.2 r' h
    simp only [List.getD_eq_getElem?_getD] at this ⊢
    rw [List.getElem?_set, if_neg (Ne.symm e)]; exact this
/-! ### masks -/
/-- the bits of a mask are the places of the letter -/
def MaskOf (m : Nat) (l : List Int) : Prop := ∀ p : Nat, m.testBit p = true ↔ (p : Int) ∈ l
theorem mask_add {m : Nat} {l : List Int} {p : Nat} (h : MaskOf m l) : MaskOf (m ||| 2 ^ p) (l ++ [(p : Int)]) := by
  intro q
  rw [Nat.testBit_or, Bool.or_eq_true, h q, Nat.testBit_two_pow, List.mem_append, List.mem_singleton, decide_eq_true_iff]
  constructor
  · rintro (h | h)
    · exact .inl h
    · subst h; exact .inr rfl
  · rintro (h | h)
    · exact .inl h
    · exact .inr (by omega)
theorem mask_meet {m n : Nat} : (m &&& n ≠ 0) ↔ ∃ p, m.testBit p = true ∧ n.testBit p = true := by
  constructor
  · intro h
    obtain ⟨p, hp⟩ := Nat.exists_testBit_of_ne_zero h
    rw [Nat.testBit_and, Bool.and_eq_true] at hp
    exact ⟨p, hp⟩
  · rintro ⟨p, h1, h2⟩ e
    have : (m &&& n).testBit p = true := by rw [Nat.testBit_and, h1, h2]; rfl
    rw [e, Nat.zero_testBit] at this
    cases this
theorem band_nat (m n : Nat) : PySem.Builtin.bitAnd (m : Int) (n : Int) = ((m &&& n : Nat) : Int) := by
  have := PyProof.Rows.bitAnd_pp (x := (m : Int)) (y := (n : Int)) (by omega) (by omega)
  simpa using this
theorem bor_nat (m n : Nat) : PySem.Builtin.bitOr (m : Int) (n : Int) = ((m ||| n : Nat) : Int) := by
  have := Bits.bitOr_pp (x := (m : Int)) (y := (n : Int)) (by omega) (by omega)
  simpa using this
theorem nz_true {x : Nat} (h : true = !decide ((x : Int) = 0)) : x ≠ 0 := by
  intro e; subst e; simp at h
theorem nz_false {x : Nat} (h : false = !decide ((x : Int) = 0)) : ¬ x ≠ 0 := by
  intro e
  simp at h
  exact e h
end My
namespace My
/-! ### what is_below, view and newest say -/
noncomputable def bel (d : Nat → Nat → Bool) (i k : Nat) : Bool := @decide (Bel d i k) (Classical.propDecidable _)
theorem bel_iff {d : Nat → Nat → Bool} {i k : Nat} : bel d i k = true ↔ Bel d i k := by
  unfold bel
  exact @decide_eq_true_iff _ (Classical.propDecidable _)
/-- two letters that share a place -/
theorem dep_iff {ls : Lets} {w : List Int} {j k : Nat} : dep ls w j k = true ↔ ∃ p, p ∈ pl ls (w.getD j 0) ∧ p ∈ pl ls (w.getD k 0) := by
  unfold dep free
  rw [Bool.not_eq_true', not_disj]
/-- the table of the law between its turns: event k in progress, events j below it looked at, rows i of this turn done -/
structure TabOk (d : Nat → Nat → Bool) (n k j i : Nat) (m : List (List Bool)) : Prop where
  sz : Sized m n
  old : ∀ r c, r < n → c < n → c < k → (cell m r c = true ↔ Bel d r c)
  now : ∀ r, r < n → k < n → (cell m r k = true ↔ r = k ∨ (∃ j', j' < j ∧ d j' k = true ∧ Bel d r j') ∨ (r < i ∧ d j k = true ∧ Bel d r j))
  new : ∀ r c, r < n → c < n → k < c → (cell m r c = true ↔ r = c)
def idTab (n : Nat) : List (List Bool) := (List.range n).map fun j => (List.range n).map fun k => decide (j = k)
theorem cell_id {n r c : Nat} (hr : r < n) (hc : c < n) : cell (idTab n) r c = decide (r = c) := by
  unfold cell idTab
  simp [List.getD_eq_getElem?_getD, List.getElem?_map, List.getElem?_range, hr, hc]
theorem tab_start {d : Nat → Nat → Bool} {n : Nat} : TabOk d n 0 0 0 (idTab n) := by
  refine ⟨⟨by simp [idTab], fun r hr => by simp [idTab, List.getD_eq_getElem?_getD, List.getElem?_map, List.getElem?_range, hr]⟩, fun r c _ _ h => absurd h (Nat.not_lt_zero _), fun r hr hn => ?_, fun r c hr hc _ => ?_⟩
  · rw [cell_id hr hn, decide_eq_true_iff]
    constructor
    · exact .inl
    · rintro (h | ⟨j, h, _⟩ | ⟨h, _⟩)
      · exact h
      · exact absurd h (Nat.not_lt_zero _)
      · exact absurd h (Nat.not_lt_zero _)
  · rw [cell_id hr hc, decide_eq_true_iff]
/-- the turn of an event is over -/
theorem tab_next {d : Nat → Nat → Bool} {n k : Nat} {m : List (List Bool)} (T : TabOk d n k k 0 m) : TabOk d n (k + 1) 0 0 m := by
  refine ⟨T.sz, fun r c hr hc h => ?_, fun r hr hk => ?_, fun r c hr hc h => T.new r c hr hc (by omega)⟩
  · by_cases e : c = k
    · subst e
      rw [T.now r hr hc, Bel.last]
      constructor
      · rintro (h | ⟨j, h1, h2, h3⟩ | ⟨h1, _⟩)
        · exact .inl h
        · exact .inr ⟨j, h1, h2, h3⟩
        · exact absurd h1 (Nat.not_lt_zero _)
      · rintro (h | h)
        · exact .inl h
        · exact .inr (.inl h)
    · exact T.old r c hr hc (by omega)
  · rw [T.new r (k + 1) hr hk (by omega)]
    constructor
    · exact .inl
    · rintro (h | ⟨j, h1, _⟩ | ⟨h1, _⟩)
      · exact h
      · exact absurd h1 (Nat.not_lt_zero _)
      · exact absurd h1 (Nat.not_lt_zero _)
/-- an event below it without a common place -/
theorem tab_skip {d : Nat → Nat → Bool} {n k j : Nat} {m : List (List Bool)} (T : TabOk d n k j 0 m) (h : d j k = false) : TabOk d n k (j + 1) 0 m := by
  refine ⟨T.sz, T.old, fun r hr hk => ?_, T.new⟩
  rw [T.now r hr hk]
  constructor
  · rintro (h1 | ⟨j', h1, h2, h3⟩ | ⟨h1, _⟩)
    · exact .inl h1
    · exact .inr (.inl ⟨j', by omega, h2, h3⟩)
    · exact absurd h1 (Nat.not_lt_zero _)
  · rintro (h1 | ⟨j', h1, h2, h3⟩ | ⟨h1, _⟩)
    · exact .inl h1
    · by_cases e : j' = j
      · subst e; rw [h] at h2; cases h2
      · exact .inr (.inl ⟨j', by omega, h2, h3⟩)
    · exact absurd h1 (Nat.not_lt_zero _)
/-- all rows of a turn are done -/
theorem tab_done {d : Nat → Nat → Bool} {n k j : Nat} {m : List (List Bool)} (T : TabOk d n k j n m) : TabOk d n k (j + 1) 0 m := by
  refine ⟨T.sz, T.old, fun r hr hk => ?_, T.new⟩
  rw [T.now r hr hk]
  constructor
  · rintro (h1 | ⟨j', h1, h2, h3⟩ | ⟨_, h2, h3⟩)
    · exact .inl h1
    · exact .inr (.inl ⟨j', by omega, h2, h3⟩)
    · exact .inr (.inl ⟨j, by omega, h2, h3⟩)
  · rintro (h1 | ⟨j', h1, h2, h3⟩ | ⟨h1, _⟩)
    · exact .inl h1
    · by_cases e : j' = j
      · subst e; exact .inr (.inr ⟨hr, h2, h3⟩)
      · exact .inr (.inl ⟨j', by omega, h2, h3⟩)
    · exact absurd h1 (Nat.not_lt_zero _)
/-- one row -/
theorem tab_row {d : Nat → Nat → Bool} {n k j i : Nat} {m : List (List Bool)} (T : TabOk d n k j i m) (hd : d j k = true) (hj : j < k) (hk : k < n) (hi : i < n) : TabOk d n k j (i + 1) (if cell m i j = true then setCell m i k else m) := by
  have cj : cell m i j = true ↔ Bel d i j := T.old i j hi (by omega) hj
  by_cases c : cell m i j = true
  · rw [if_pos c]
    have gs := fun {r c : Nat} => cell_set (r' := r) (c' := c) T.sz hi hk
    refine ⟨sized_set T.sz, fun r c hr hc h => ?_, fun r hr hk2 => ?_, fun r c hr hc h => ?_⟩
    · rw [gs, if_neg (by omega)]; exact T.old r c hr hc h
    · rw [gs]
      by_cases e : r = i
      · subst e
        rw [if_pos ⟨rfl, rfl⟩]
        simp only [true_iff]
        exact .inr (.inr ⟨by omega, hd, cj.mp c⟩)
      · rw [if_neg (fun z => e z.1), T.now r hr hk2]
        constructor
        · rintro (h1 | h1 | ⟨h1, h2, h3⟩)
          · exact .inl h1
          · exact .inr (.inl h1)
          · exact .inr (.inr ⟨by omega, h2, h3⟩)
        · rintro (h1 | h1 | ⟨h1, h2, h3⟩)
          · exact .inl h1
          · exact .inr (.inl h1)
          · exact .inr (.inr ⟨by omega, h2, h3⟩)
    · rw [gs, if_neg (by omega)]; exact T.new r c hr hc h
  · rw [if_neg c]
    refine ⟨T.sz, T.old, fun r hr hk2 => ?_, T.new⟩
    rw [T.now r hr hk2]
    constructor
    · rintro (h1 | h1 | ⟨h1, h2, h3⟩)
      · exact .inl h1
      · exact .inr (.inl h1)
      · exact .inr (.inr ⟨by omega, h2, h3⟩)
    · rintro (h1 | h1 | ⟨h1, h2, h3⟩)
      · exact .inl h1
      · exact .inr (.inl h1)
      · by_cases e : r = i
        · subst e; exact absurd (cj.mpr h3) c
        · exact .inr (.inr ⟨by omega, h2, h3⟩)
end My
namespace My
open Hq
/-! ### facts about words, by views -/
inductive Fact where
  | cnt (l t : Int)
  | neg (f : Fact)
  | both (f g : Fact)
  | kn (p : Int) (f : Fact)
  | com (f : Fact)
def Fact.dep : Fact → Nat
  | .cnt _ _ => 1
  | .neg f => f.dep + 1
  | .both f g => max f.dep g.dep + 1
  | .kn _ f => f.dep + 1
  | .com f => f.dep + 1
/-- its places are there -/
def Fact.ok (k : Int) : Fact → Prop
  | .cnt _ _ => True
  | .neg f => f.ok k
  | .both f g => f.ok k ∧ g.ok k
  | .kn p f => (0 ≤ p ∧ p < k) ∧ f.ok k
  | .com f => f.ok k
end My
namespace My
open Hq
/-! ### the greatest event of a kind; claims about events -/
open Classical in
noncomputable def mx (P : Nat → Prop) : Nat → Int
  | 0 => -1
  | n + 1 => if P n then (n : Int) else mx P n
theorem mx_ge {P : Nat → Prop} : ∀ {n e : Nat}, e < n → P e → (e : Int) ≤ mx P n
  | n + 1, e, h, p => by
    unfold mx
    split
    · omega
    · rcases Nat.lt_succ_iff_lt_or_eq.mp h with h | rfl
      · exact mx_ge h p
      · contradiction
theorem mx_in {P : Nat → Prop} : ∀ {n e : Nat}, mx P n = (e : Int) → e < n ∧ P e
  | 0, e, h => by unfold mx at h; omega
  | n + 1, e, h => by
    unfold mx at h
    split at h
    · have : n = e := by omega
      subst this
      exact ⟨by omega, by assumption⟩
    · have := mx_in h
      exact ⟨by omega, this.2⟩
theorem mx_of {P : Nat → Prop} {n e : Nat} (h1 : e < n) (h2 : P e) (h3 : ∀ e', e' < n → P e' → e' ≤ e) : mx P n = (e : Int) := by
  have a := mx_ge h1 h2
  obtain ⟨m, hm⟩ := Int.eq_ofNat_of_zero_le (show 0 ≤ mx P n by omega)
  obtain ⟨b, c⟩ := mx_in hm
  have := h3 m b c
  omega
theorem Bel.trans {d : Nat → Nat → Bool} {i j k : Nat} (h : Bel d i j) (h2 : Bel d j k) : Bel d i k := by
  induction h2 with
  | refl => exact h
  | step _ l e ih => exact .step ih l e
theorem dep_comm {ls : Lets} {w : List Int} {j k : Nat} : dep ls w j k = dep ls w k j := by unfold dep; rw [free_comm]
/-- the newest event at q strictly below event k -/
noncomputable def nwk (ls : Lets) (w : List Int) (q : Int) (k : Nat) : Int := mx (fun e => Bel (dep ls w) e k ∧ q ∈ pl ls (w.getD e 0)) k
inductive Clm where
  | letter (l : Int)
  | neg (c : Clm)
  | once (c : Clm)
  | known (p : Int) (c : Clm)
  | both (c d : Clm)
  | chain (c d : Clm)
deriving DecidableEq
def Clm.dep : Clm → Nat
  | .letter _ => 1
  | .neg c => c.dep + 1
  | .once c => c.dep + 1
  | .known _ c => c.dep + 1
  | .both c d => max c.dep d.dep + 1
  | .chain c d => max c.dep d.dep + 1
def Clm.ok (k : Int) : Clm → Prop
  | .letter _ => True
  | .neg c => c.ok k
  | .once c => c.ok k
  | .known p c => (0 ≤ p ∧ p < k) ∧ c.ok k
  | .both c d => c.ok k ∧ d.ok k
  | .chain c d => c.ok k ∧ d.ok k
inductive ChW (ls : Lets) (w : List Int) (f g : Nat → Prop) : Nat → Prop
  | now {k} : f k → ChW ls w f g k
  | prev {k j : Nat} {p : Int} : g k → p ∈ pl ls (w.getD k 0) → nwk ls w p k = (j : Int) → ChW ls w f g j → ChW ls w f g k
/-- words of which events answer one another -/
structure Iso (ls : Lets) (w w' : List Int) (π σ : Nat → Nat) : Prop where
  len : w'.length = w.length
  a : ∀ k, k < w.length → π k < w.length ∧ σ (π k) = k ∧ w'.getD (π k) 0 = w.getD k 0 ∧ occ w' (π k) = occ w k
  b : ∀ k, k < w.length → σ k < w.length ∧ π (σ k) = k
  o : ∀ j k, j < k → k < w.length → dep ls w j k = true → π j < π k
theorem Iso.dep {ls w w' π σ} (I : Iso ls w w' π σ) {j k : Nat} (hj : j < w.length) (hk : k < w.length) : dep ls w' (π j) (π k) = dep ls w j k := by
  unfold My.dep; rw [(I.a j hj).2.2.1, (I.a k hk).2.2.1]
theorem Iso.symm {ls w w' π σ} (I : Iso ls w w' π σ) : Iso ls w' w σ π where
  len := I.len.symm
  a := fun k hk => by
    rw [I.len] at hk ⊢
    obtain ⟨h1, h2⟩ := I.b k hk
    obtain ⟨_, _, h3, h4⟩ := I.a _ h1
    rw [h2] at h3 h4
    exact ⟨h1, h2, h3.symm, h4.symm⟩
  b := fun k hk => by
    rw [I.len] at hk ⊢
    obtain ⟨h1, h2, _⟩ := I.a k hk
    exact ⟨h1, h2⟩
  o := fun j k hjk hk hd => by
    rw [I.len] at hk
    obtain ⟨j1, j2⟩ := I.b j (by omega)
    obtain ⟨k1, k2⟩ := I.b k hk
    rcases Nat.lt_trichotomy (σ j) (σ k) with h | h | h
    · exact h
    · have := congrArg π h; omega
    · have := I.o _ _ h j1 (by
        rw [← I.dep k1 j1, j2, k2, dep_comm]; exact hd)
      omega
theorem Iso.bel {ls w w' π σ} (I : Iso ls w w' π σ) {j k : Nat} (hk : k < w.length) (h : Bel (My.dep ls w) j k) : Bel (My.dep ls w') (π j) (π k) := by
  induction h with
  | refl => exact .refl _
  | @step j k b l d ih => exact .step (ih (by omega)) (I.o _ _ l hk d) (by rw [I.dep (by omega) hk]; exact d)
theorem Iso.nwk {ls w w' π σ} (I : Iso ls w w' π σ) {j k : Nat} {q : Int} (hk : k < w.length) (h : nwk ls w q k = (j : Int)) : nwk ls w' q (π k) = (π j : Nat) := by
  obtain ⟨h1, h2, h3⟩ := mx_in h
  obtain ⟨ka, kb, kc, _⟩ := I.a k hk
  obtain ⟨ja, jb, jc, _⟩ := I.a j (by omega)
  have bj := I.bel hk h2
  refine mx_of ?_ ⟨bj, by rw [jc]; exact h3⟩ ?_
  · rcases Nat.eq_or_lt_of_le bj.le with e | e
    · rw [e] at jb; omega
    · exact e
  · rintro e he ⟨b, hq⟩
    have el : e < w.length := by omega
    have b2 := I.symm.bel (by rw [I.len]; exact ka) b
    rw [kb] at b2
    obtain ⟨e1, e2⟩ := I.b e el
    obtain ⟨_, _, ec, _⟩ := I.a (σ e) e1
    rw [e2] at ec
    have lt : σ e < k := by
      rcases Nat.eq_or_lt_of_le b2.le with z | z
      · rw [z] at e2; omega
      · exact z
    have := mx_ge (P := fun e => Bel (My.dep ls w) e k ∧ q ∈ pl ls (w.getD e 0)) lt ⟨b2, by rw [← ec]; exact hq⟩
    have h' : mx (fun e => Bel (My.dep ls w) e k ∧ q ∈ pl ls (w.getD e 0)) k = (j : Int) := h
    rw [h'] at this
    rcases Nat.eq_or_lt_of_le (show σ e ≤ j by omega) with z | z
    · rw [z] at e2; omega
    · have := I.o _ _ z (by omega) (dep_iff.mpr ⟨q, by rw [← ec]; exact hq, h3⟩)
      omega
theorem Iso.chain {ls w w' π σ} (I : Iso ls w w' π σ) {f g f' g' : Nat → Prop} (hf : ∀ k, k < w.length → f k → f' (π k)) (hg : ∀ k, k < w.length → g k → g' (π k)) {k : Nat} (hk : k < w.length) (h : ChW ls w f g k) : ChW ls w' f' g' (π k) := by
  induction h with
  | now h => exact .now (hf _ hk h)
  | @prev k j p h1 h2 h3 _ ih => exact .prev (hg _ hk h1) (by rw [(I.a k hk).2.2.1]; exact h2) (I.nwk hk h3) (ih (by have := (mx_in h3).1; omega))
theorem Iso.refl {ls : Lets} {w : List Int} : Iso ls w w id id := ⟨rfl, fun k hk => ⟨hk, rfl, rfl, rfl⟩, fun k hk => ⟨hk, rfl⟩, fun _ _ h _ _ => h⟩
end My
/-! MathMa: chains and antichains (Koenig): partners, searches for a way, steps along it. -/
namespace My
open Hq
/-- the i-th of a list of numbers, -1 for none -/
abbrev at1 (l : List Int) (e : Nat) : Int := l.getD e (-1)
theorem at1_set {l : List Int} {e f : Nat} {v : Int} (h : e < l.length) : at1 (l.set e v) f = if f = e then v else at1 l f := by
  unfold at1
  rw [List.getD_eq_getElem?_getD, List.getD_eq_getElem?_getD, List.getElem?_set]
  by_cases z : f = e
  · subst z; simp [h]
  · rw [if_neg z, if_neg (fun c => z c.symm)]
/-- partners: b the one above, a the one below -/
structure Mt (n : Nat) (lt : Nat → Nat → Prop) (b a : List Int) : Prop where
  lb : b.length = n
  la : a.length = n
  bk : ∀ e, e < n → at1 b e = -1 ∨ ∃ f, f < n ∧ at1 b e = (f : Int) ∧ lt e f ∧ at1 a f = (e : Int)
  ah : ∀ f, f < n → at1 a f = -1 ∨ ∃ e, e < n ∧ at1 a f = (e : Int) ∧ at1 b e = (f : Int)
/-- those with none above -/
def tops (n : Nat) (b : List Int) : List Nat := (List.range n).filter fun e => decide (at1 b e < 0)
theorem mem_tops {n : Nat} {b : List Int} {e : Nat} : e ∈ tops n b ↔ e < n ∧ at1 b e < 0 := by
  unfold tops; rw [List.mem_filter, List.mem_range]; simp
theorem tops_nd {n : Nat} {b : List Int} : (tops n b).Nodup := List.Nodup.sublist List.filter_sublist List.nodup_range
section
variable {n : Nat} {lt : Nat → Nat → Prop} {b a : List Int}
theorem Mt.bI (m : Mt n lt b a) {e : Nat} {v : Int} (he : e < n) (h : at1 b e = v) (h0 : ¬ v < 0) : ∃ f, f < n ∧ v = (f : Int) ∧ lt e f ∧ at1 a f = (e : Int) := by
  rcases m.bk e he with z | ⟨f, h1, h2, h3, h4⟩
  · omega
  · exact ⟨f, h1, h.symm.trans h2, h3, h4⟩
theorem Mt.aI (m : Mt n lt b a) {f : Nat} {v : Int} (hf : f < n) (h : at1 a f = v) (h0 : ¬ v < 0) : ∃ e, e < n ∧ v = (e : Int) ∧ at1 b e = (f : Int) := by
  rcases m.ah f hf with z | ⟨e, h1, h2, h3⟩
  · omega
  · exact ⟨e, h1, h.symm.trans h2, h3⟩
/-! the search -/
/-- what a search has: S the sources, D the pairs (visited, from), V = the visited -/
structure Sd (n : Nat) (lt : Nat → Nat → Prop) (b a : List Int) (D : List (Nat × Nat)) : Prop where
  nd : (D.map Prod.fst).Nodup
  ok : ∀ p ∈ D, p.1 < n ∧ p.2 < n ∧ lt p.2 p.1
  od : ∀ (k : Nat) (p : Nat × Nat), D[k]? = some p → p.2 ∈ tops n b ∨ ∃ (j : Nat) (q : Nat × Nat), j < k ∧ D[j]? = some q ∧ at1 a q.1 = (p.2 : Int)
/-- the sources: those with none above, and those below what was visited -/
def srcs (n : Nat) (b a : List Int) (D : List (Nat × Nat)) : List Nat := tops n b ++ D.map fun p => (at1 a p.1).toNat
/-- all that was visited has one below -/
def FulD (a : List Int) (D : List (Nat × Nat)) : Prop := ∀ p ∈ D, ¬ at1 a p.1 < 0
theorem Sd.nil : Sd n lt b a [] := ⟨List.nodup_nil, (fun _ h => by cases h), (fun _ _ h => by cases h)⟩
theorem Sd.add {D : List (Nat × Nat)} (s : Sd n lt b a D) {f e : Nat} (hf : f < n) (he : e < n) (hl : lt e f) (nw : f ∉ D.map Prod.fst) (fl : FulD a D) (hs : e ∈ srcs n b a D) : Sd n lt b a (D ++ [(f, e)]) := by
  refine ⟨?_, fun p hp => ?_, fun k p hk => ?_⟩
  · rw [List.map_append, List.nodup_append]
    refine ⟨s.nd, by simp, fun x hx y hy c => nw ?_⟩
    have e1 : y = f := by simpa using hy
    rw [← e1, ← c]; exact hx
  · rcases List.mem_append.mp hp with z | z
    · exact s.ok p z
    · rw [List.mem_singleton.mp z]; exact ⟨hf, he, hl⟩
  · rcases Nat.lt_or_ge k D.length with z | z
    · rw [List.getElem?_append_left z] at hk
      rcases s.od k p hk with q | ⟨j, q, h1, h2, h3⟩
      · exact .inl q
      · exact .inr ⟨j, q, h1, by rw [List.getElem?_append_left (by omega)]; exact h2, h3⟩
    · rw [List.getElem?_append_right z] at hk
      have h0 : k - D.length = 0 := by
        rcases Nat.eq_zero_or_pos (k - D.length) with c | c
        · exact c
        · rw [List.getElem?_eq_none (show [(f, e)].length ≤ k - D.length from c)] at hk; cases hk
      rw [h0] at hk
      obtain rfl : (f, e) = p := Option.some.inj hk
      rcases List.mem_append.mp hs with q | q
      · exact .inl q
      · obtain ⟨q, hq, e2⟩ := List.mem_map.mp q
        obtain ⟨j, hj, e3⟩ := List.mem_iff_getElem.mp hq
        refine .inr ⟨j, q, by omega, by rw [List.getElem?_append_left hj, List.getElem?_eq_getElem hj, e3], ?_⟩
        have := fl q hq
        show at1 a q.1 = (e : Int)
        omega
theorem srcs_add {D : List (Nat × Nat)} {f e x : Nat} (h : at1 a f = (x : Int)) : srcs n b a (D ++ [(f, e)]) = srcs n b a D ++ [x] := by
  unfold srcs
  rw [List.map_append, ← List.append_assoc]
  show _ ++ [(at1 a f).toNat] = _
  rw [h]; rfl
theorem srcs_lt (m : Mt n lt b a) {D : List (Nat × Nat)} (s : Sd n lt b a D) (fl : FulD a D) : ∀ x ∈ srcs n b a D, x < n := fun x hx => by
  rcases List.mem_append.mp hx with z | z
  · exact (mem_tops.mp z).1
  · obtain ⟨p, hp, rfl⟩ := List.mem_map.mp z
    obtain ⟨e, h1, h2, _⟩ := m.aI (s.ok p hp).1 rfl (fl p hp)
    rw [h2]; exact h1
theorem srcs_nd (m : Mt n lt b a) {D : List (Nat × Nat)} (s : Sd n lt b a D) (fl : FulD a D) : (srcs n b a D).Nodup := by
  unfold srcs
  rw [List.nodup_append]
  refine ⟨tops_nd, ?_, fun x hx y hy c => ?_⟩
  · have key : ∀ L : List (Nat × Nat), (∀ p ∈ L, p ∈ D) → (L.map Prod.fst).Nodup → (L.map fun p => (at1 a p.1).toNat).Nodup := by
      intro L
      induction L with
      | nil => intros; simp
      | cons p L ih =>
        intro h1 h2
        rw [List.map_cons, List.nodup_cons] at h2 ⊢
        refine ⟨fun c => ?_, ih (fun q hq => h1 q (List.mem_cons_of_mem _ hq)) h2.2⟩
        obtain ⟨q, hq, e⟩ := List.mem_map.mp c
        have hp := h1 p List.mem_cons_self
        have hq2 := h1 q (List.mem_cons_of_mem _ hq)
        obtain ⟨x, _, x2, x3⟩ := m.aI (s.ok p hp).1 rfl (fl p hp)
        obtain ⟨y, _, y2, y3⟩ := m.aI (s.ok q hq2).1 rfl (fl q hq2)
        rw [x2, y2] at e
        have : x = y := by omega
        subst this
        have : q.1 = p.1 := by omega
        exact h2.1 (List.mem_map.mpr ⟨q, hq, this⟩)
    exact key D (fun _ h => h) s.nd
  · obtain ⟨p, hp, rfl⟩ := List.mem_map.mp hy
    obtain ⟨e, _, h2, h3⟩ := m.aI (s.ok p hp).1 rfl (fl p hp)
    have := (mem_tops.mp hx).2
    rw [c, h2] at this
    simp only [Int.toNat_natCast] at this
    omega
/-- the end of a search without a way -/
structure Shut (n : Nat) (lt : Nat → Nat → Prop) (b a : List Int) (D : List (Nat × Nat)) : Prop where
  sd : Sd n lt b a D
  fl : FulD a D
  cl : ∀ e ∈ srcs n b a D, ∀ f, f < n → lt e f → f ∈ D.map Prod.fst
/-- the antichain -/
def apt (n : Nat) (b a : List Int) (D : List (Nat × Nat)) : List Nat := (srcs n b a D).filter fun e => !decide (e ∈ D.map Prod.fst)
theorem Shut.sub (m : Mt n lt b a) {D : List (Nat × Nat)} (s : Shut n lt b a D) (tr : ∀ x y z, lt x y → lt y z → lt x z) : ∀ f ∈ D.map Prod.fst, f ∈ srcs n b a D := fun f hf => by
  obtain ⟨p, hp, rfl⟩ := List.mem_map.mp hf
  obtain ⟨h1, h2, h3⟩ := s.sd.ok p hp
  rcases m.bk p.1 h1 with z | ⟨g, g1, g2, g3, g4⟩
  · exact List.mem_append_left _ (mem_tops.mpr ⟨h1, by omega⟩)
  · have hps : p.2 ∈ srcs n b a D := by
      obtain ⟨k, hk, e⟩ := List.mem_iff_getElem.mp hp
      rcases s.sd.od k p (by rw [List.getElem?_eq_getElem hk, e]) with q | ⟨j, q, q1, q2, q3⟩
      · exact List.mem_append_left _ q
      · exact List.mem_append_right _ (List.mem_map.mpr ⟨q, List.mem_of_getElem? q2, by show (at1 a q.1).toNat = _; rw [q3]; rfl⟩)
    obtain ⟨q, hq, e⟩ := List.mem_map.mp (s.cl _ hps g g1 (tr _ _ _ h3 g3))
    exact List.mem_append_right _ (List.mem_map.mpr ⟨q, hq, by show (at1 a q.1).toNat = _; rw [e, g4]; rfl⟩)
theorem filter_not_len {α : Type} [DecidableEq α] {V S : List α} (hS : S.Nodup) (hV : V.Nodup) (h : ∀ x ∈ V, x ∈ S) : (S.filter fun e => !decide (e ∈ V)).length + V.length = S.length := by
  have p : (S.filter fun e => decide (e ∈ V)).Perm V := by
    refine (List.perm_ext_iff_of_nodup (hS.sublist List.filter_sublist) hV).mpr fun x => ?_
    rw [List.mem_filter]
    exact ⟨fun q => by simpa using q.2, fun q => ⟨h x q, by simpa using q⟩⟩
  have key : ∀ L : List α, (L.filter fun e => !decide (e ∈ V)).length + (L.filter fun e => decide (e ∈ V)).length = L.length := fun L => by
    induction L with
    | nil => rfl
    | cons x L ih => by_cases z : x ∈ V <;> simp [z] <;> omega
  have l := key S
  rw [p.length_eq] at l
  exact l
theorem Shut.len (m : Mt n lt b a) {D : List (Nat × Nat)} (s : Shut n lt b a D) (tr : ∀ x y z, lt x y → lt y z → lt x z) : (apt n b a D).length = (tops n b).length := by
  have := filter_not_len (srcs_nd m s.sd s.fl) s.sd.nd (s.sub m tr)
  have e : (srcs n b a D).length = (tops n b).length + D.length := by unfold srcs; rw [List.length_append, List.length_map]
  have e2 : (D.map Prod.fst).length = D.length := List.length_map _
  unfold apt
  omega
theorem Shut.anti {D : List (Nat × Nat)} (m : Mt n lt b a) (s : Shut n lt b a D) {e f : Nat} (he : e ∈ apt n b a D) (hf : f ∈ apt n b a D) : ¬ lt e f := fun c => by
  have h1 := (List.mem_filter.mp he).1
  have h2 := List.mem_filter.mp hf
  have := s.cl e h1 f (srcs_lt m s.sd s.fl f h2.1) c
  simp [this] at h2
end
end My
/-! MathMb: first rows, steps along a way, chains. -/
namespace My
open Hq
section
variable {n k : Nat} {lt : Nat → Nat → Prop} {b a t : List Int}
theorem Mt.link (m : Mt n lt b a) {e f : Nat} (he : e < n) (hf : f < n) (hl : lt e f) (be : at1 b e = -1) (af : at1 a f = -1) : Mt n lt (b.set e f) (a.set f e) := by
  have lb := m.lb; have la := m.la
  refine ⟨by rw [List.length_set]; exact lb, by rw [List.length_set]; exact la, fun x hx => ?_, fun y hy => ?_⟩
  · rw [at1_set (by omega)]
    by_cases z : x = e
    · subst z
      exact .inr ⟨f, hf, by rw [if_pos rfl], hl, by rw [at1_set (by omega), if_pos rfl]⟩
    · rw [if_neg z]
      rcases m.bk x hx with q | ⟨g, g1, g2, g3, g4⟩
      · exact .inl q
      · refine .inr ⟨g, g1, g2, g3, ?_⟩
        rw [at1_set (by omega), if_neg (fun c => by subst c; omega)]; exact g4
  · rw [at1_set (by omega)]
    by_cases z : y = f
    · subst z
      exact .inr ⟨e, he, by rw [if_pos rfl], by rw [at1_set (by omega), if_pos rfl]⟩
    · rw [if_neg z]
      rcases m.ah y hy with q | ⟨x, x1, x2, x3⟩
      · exact .inl q
      · refine .inr ⟨x, x1, x2, ?_⟩
        rw [at1_set (by omega), if_neg (fun c => by subst c; omega)]; exact x3
/-- the first rows, when the first i events are in -/
structure Fs (n k : Nat) (fp : Nat → Nat) (lt : Nat → Nat → Prop) (i : Nat) (b a t : List Int) : Prop where
  mt : Mt n lt b a
  rs : ∀ e, i ≤ e → e < n → at1 b e = -1 ∧ at1 a e = -1
  lt : t.length = k
  la : ∀ p, p < k → at1 t p = -1 ∨ ∃ e, e < i ∧ at1 t p = (e : Int) ∧ at1 b e = -1 ∧ fp e = p
theorem at1_rep {n x : Nat} (h : x < n) : at1 (List.replicate n (-1)) x = -1 := by
  unfold at1
  rw [List.getD_eq_getElem?_getD, List.getElem?_replicate]; simp [h]
theorem Fs.start {fp : Nat → Nat} : Fs n k fp lt 0 (List.replicate n (-1)) (List.replicate n (-1)) (List.replicate k (-1)) :=
  ⟨⟨by simp, by simp, fun e he => .inl (at1_rep he), fun e he => .inl (at1_rep he)⟩, fun e _ he => ⟨at1_rep he, at1_rep he⟩, by simp, fun p hp => .inl (at1_rep hp)⟩
theorem Fs.skip {fp : Nat → Nat} {i : Nat} (s : Fs n k fp lt i b a t) (hi : i < n) (hp : fp i < k) (h : at1 t (fp i) = -1) : Fs n k fp lt (i + 1) b a (t.set (fp i) i) := by
  have lt' := s.lt
  refine ⟨s.mt, fun e h1 h2 => s.rs e (by omega) h2, by rw [List.length_set]; exact s.lt, fun p hp2 => ?_⟩
  rw [at1_set (by omega)]
  by_cases z : p = fp i
  · rw [if_pos z]
    exact .inr ⟨i, by omega, rfl, (s.rs i (Nat.le_refl _) hi).1, z.symm⟩
  · rw [if_neg z]
    rcases s.la p hp2 with q | ⟨e, h1, h2⟩
    · exact .inl q
    · exact .inr ⟨e, by omega, h2⟩
theorem Fs.step {fp : Nat → Nat} {i e : Nat} (s : Fs n k fp lt i b a t) (hi : i < n) (hp : fp i < k) (he : e < i) (h : at1 t (fp i) = (e : Int)) (hl : fp e = fp i → lt e i) : Fs n k fp lt (i + 1) (b.set e i) (a.set i e) (t.set (fp i) i) := by
  have lt' := s.lt; have lb := s.mt.lb; have la := s.mt.la
  have hb : at1 b e = -1 ∧ fp e = fp i := by
    rcases s.la _ hp with q | ⟨e', _, h2, h3, h4⟩
    · omega
    · have : e' = e := by omega
      subst this; exact ⟨h3, h4⟩
  refine ⟨s.mt.link (by omega) hi (hl hb.2) hb.1 (s.rs i (Nat.le_refl _) hi).2, fun x h1 h2 => ?_, by rw [List.length_set]; exact s.lt, fun p hp2 => ?_⟩
  · rw [at1_set (by omega), at1_set (by omega), if_neg (by omega), if_neg (by omega)]
    exact s.rs x (by omega) h2
  · rw [at1_set (by omega)]
    by_cases z : p = fp i
    · rw [if_pos z]
      exact .inr ⟨i, by omega, rfl, by rw [at1_set (by omega), if_neg (by omega)]; exact (s.rs i (Nat.le_refl _) hi).1, z.symm⟩
    · rw [if_neg z]
      rcases s.la p hp2 with q | ⟨x, h1, h2, h3, h4⟩
      · exact .inl q
      · refine .inr ⟨x, by omega, h2, ?_, h4⟩
        rw [at1_set (by omega), if_neg (fun c => by subst c; exact z (h4.symm.trans hb.2))]; exact h3
/-! the steps -/
/-- partners but for f, which nobody has above -/
structure Ho (n : Nat) (lt : Nat → Nat → Prop) (b a : List Int) (f : Nat) : Prop where
  lb : b.length = n
  la : a.length = n
  bk : ∀ e, e < n → at1 b e = -1 ∨ ∃ g, g < n ∧ at1 b e = (g : Int) ∧ lt e g ∧ at1 a g = (e : Int) ∧ g ≠ f
  ah : ∀ g, g < n → g ≠ f → at1 a g = -1 ∨ ∃ e, e < n ∧ at1 a g = (e : Int) ∧ at1 b e = (g : Int)
theorem Mt.ho (m : Mt n lt b a) {f : Nat} (h : at1 a f < 0) : Ho n lt b a f :=
  ⟨m.lb, m.la, fun e he => (m.bk e he).imp id fun ⟨g, g1, g2, g3, g4⟩ => ⟨g, g1, g2, g3, g4, fun c => by subst c; omega⟩, fun g hg _ => m.ah g hg⟩
theorem Ho.fin {f e : Nat} (m : Ho n lt b a f) (he : e < n) (hf : f < n) (hl : lt e f) (be : at1 b e = -1) : Mt n lt (b.set e f) (a.set f e) := by
  have lb := m.lb; have la := m.la
  refine ⟨by rw [List.length_set]; exact lb, by rw [List.length_set]; exact la, fun x hx => ?_, fun y hy => ?_⟩
  · rw [at1_set (by omega)]
    by_cases z : x = e
    · subst z
      exact .inr ⟨f, hf, by rw [if_pos rfl], hl, by rw [at1_set (by omega), if_pos rfl]⟩
    · rw [if_neg z]
      rcases m.bk x hx with q | ⟨g, g1, g2, g3, g4, g5⟩
      · exact .inl q
      · exact .inr ⟨g, g1, g2, g3, by rw [at1_set (by omega), if_neg g5]; exact g4⟩
  · rw [at1_set (by omega)]
    by_cases z : y = f
    · subst z
      exact .inr ⟨e, he, by rw [if_pos rfl], by rw [at1_set (by omega), if_pos rfl]⟩
    · rw [if_neg z]
      rcases m.ah y hy z with q | ⟨x, x1, x2, x3⟩
      · exact .inl q
      · refine .inr ⟨x, x1, x2, ?_⟩
        rw [at1_set (by omega), if_neg (fun c => by subst c; omega)]; exact x3
theorem Ho.step {f e g : Nat} (m : Ho n lt b a f) (he : e < n) (hf : f < n) (hl : lt e f) (be : at1 b e = (g : Int)) : Ho n lt (b.set e f) (a.set f e) g := by
  have lb := m.lb; have la := m.la
  obtain ⟨g', g1, g2, g3, g4, g5⟩ := (m.bk e he).resolve_left (by omega)
  have : g' = g := by omega
  subst this
  refine ⟨by rw [List.length_set]; exact lb, by rw [List.length_set]; exact la, fun x hx => ?_, fun y hy hyg => ?_⟩
  · rw [at1_set (by omega)]
    by_cases z : x = e
    · subst z
      exact .inr ⟨f, hf, by rw [if_pos rfl], hl, by rw [at1_set (by omega), if_pos rfl], fun c => g5 c.symm⟩
    · rw [if_neg z]
      rcases m.bk x hx with q | ⟨h, h1, h2, h3, h4, h5⟩
      · exact .inl q
      · exact .inr ⟨h, h1, h2, h3, by rw [at1_set (by omega), if_neg h5]; exact h4, fun c => by subst c; omega⟩
  · rw [at1_set (by omega)]
    by_cases z : y = f
    · subst z
      exact .inr ⟨e, he, by rw [if_pos rfl], by rw [at1_set (by omega), if_pos rfl]⟩
    · rw [if_neg z]
      rcases m.ah y hy z with q | ⟨x, x1, x2, x3⟩
      · exact .inl q
      · refine .inr ⟨x, x1, x2, ?_⟩
        rw [at1_set (by omega), if_neg (fun c => by subst c; omega)]; exact x3
/-- on the way, at the j-th of what was visited -/
structure Pth (n : Nat) (lt : Nat → Nat → Prop) (b0 a0 : List Int) (D : List (Nat × Nat)) (j : Nat) (b a : List Int) : Prop where
  ho : ∀ p, D[j]? = some p → Ho n lt b a p.1
  jl : j < D.length
  un : ∀ e, e ∈ tops n b0 ∨ (∃ (i : Nat) (q : Nat × Nat), i < j ∧ D[i]? = some q ∧ at1 a0 q.1 = (e : Int)) → at1 b e = at1 b0 e
  tp : ∀ e, e < n → (at1 b e < 0 ↔ at1 b0 e < 0)
theorem key_inj {D : List (Nat × Nat)} (h : (D.map Prod.fst).Nodup) {i j : Nat} {p q : Nat × Nat} (hi : D[i]? = some p) (hj : D[j]? = some q) (e : p.1 = q.1) : i = j := by
  have h1 : (D.map Prod.fst)[i]? = some p.1 := by rw [List.getElem?_map, hi]; rfl
  have h2 : (D.map Prod.fst)[j]? = some p.1 := by rw [List.getElem?_map, hj, e]; rfl
  have l1 : i < (D.map Prod.fst).length := (List.getElem?_eq_some_iff.mp h1).1
  exact (List.getElem?_inj l1 h).mp (h1.trans h2.symm)
theorem Pth.start {D : List (Nat × Nat)} (m : Mt n lt b a) {p : Nat × Nat} (hp : D[D.length - 1]? = some p) (hf : at1 a p.1 < 0) : Pth n lt b a D (D.length - 1) b a := by
  refine ⟨fun q hq => ?_, (List.getElem?_eq_some_iff.mp hp).1, fun _ _ => rfl, fun _ _ => Iff.rfl⟩
  obtain rfl : p = q := Option.some.inj (hp.symm.trans hq)
  exact m.ho hf
/-- one step: to the end, or to one visited before -/
theorem Pth.step {b0 a0 : List Int} {D : List (Nat × Nat)} {j : Nat} (m : Mt n lt b0 a0) (s : Sd n lt b0 a0 D) (h : Pth n lt b0 a0 D j b a) {p : Nat × Nat} (hp : D[j]? = some p) :
    (at1 b p.2 = -1 ∧ Mt n lt (b.set p.2 p.1) (a.set p.1 p.2) ∧ (tops n (b.set p.2 p.1)).length < (tops n b0).length) ∨
    ∃ i q, i < j ∧ D[i]? = some q ∧ at1 b p.2 = ((q.1 : Nat) : Int) ∧ Pth n lt b0 a0 D i (b.set p.2 p.1) (a.set p.1 p.2) := by
  obtain ⟨p1, p2, pl⟩ := s.ok p (List.mem_of_getElem? hp)
  have ho := h.ho p hp
  have lb := ho.lb
  have od := s.od j p hp
  have eb := h.un p.2 od
  rcases od with q | ⟨i, q, q1, q2, q3⟩
  · have b0n := (mem_tops.mp q).2
    have bn : at1 b p.2 = -1 := by
      rcases ho.bk p.2 p2 with z | ⟨g, _, z, _⟩ <;> omega
    refine .inl ⟨bn, ho.fin p2 p1 pl bn, ?_⟩
    have e : tops n (b.set p.2 p.1) = (tops n b0).filter fun x => decide (x ≠ p.2) := by
      unfold tops
      rw [List.filter_filter]
      refine List.filter_congr fun x hx => ?_
      have hx := List.mem_range.mp hx
      rw [at1_set (by omega)]
      by_cases z : x = p.2
      · rw [if_pos z]; simp [z]
      · rw [if_neg z, Bool.eq_iff_iff]; simp [z]; exact h.tp x hx
    rw [e]
    have : (List.filter (fun x => decide (x ≠ p.2)) (tops n b0)).length ≠ (tops n b0).length := fun c => by
      have := List.length_filter_eq_length_iff.mp c p.2 q
      simp at this
    have := List.length_filter_le (fun x => decide (x ≠ p.2)) (tops n b0)
    omega
  · obtain ⟨q4, _, _⟩ := s.ok q (List.mem_of_getElem? q2)
    obtain ⟨x, x1, x2, x3⟩ := m.aI q4 q3 (by omega)
    have : x = p.2 := by omega
    subst this
    have hb : at1 b p.2 = ((q.1 : Nat) : Int) := eb.trans x3
    refine .inr ⟨i, q, q1, q2, hb, fun r hr => ?_, (List.getElem?_eq_some_iff.mp q2).1, fun y hy => ?_, fun y hy => ?_⟩
    · obtain rfl : q = r := Option.some.inj (q2.symm.trans hr)
      exact ho.step p2 p1 pl hb
    · have ne : y ≠ p.2 := fun c => by
        subst c
        rcases hy with z | ⟨i', r, r1, r2, r3⟩
        · have := (mem_tops.mp z).2; omega
        · obtain ⟨r4, _, _⟩ := s.ok r (List.mem_of_getElem? r2)
          obtain ⟨y, y1, y2, y3⟩ := m.aI r4 r3 (by omega)
          have : y = p.2 := by omega
          subst this
          have := key_inj s.nd r2 q2 (by omega)
          omega
      rw [at1_set (by omega), if_neg ne]
      exact h.un y (hy.imp id fun ⟨i', r, r1, r2⟩ => ⟨i', r, by omega, r2⟩)
    · rw [at1_set (by omega)]
      by_cases z : y = p.2
      · rw [if_pos z, z]; omega
      · rw [if_neg z]; exact h.tp y hy
end
end My
/-! MathMc: the search turn by turn; the rows. -/
namespace My
open Hq
/-- the dict of a search -/
def dk (D : List (Nat × Nat)) (x : Int) : Option Int := (D.find? fun p => decide ((p.1 : Int) = x)).map fun p => (p.2 : Int)
theorem dk_add {D : List (Nat × Nat)} {f e : Nat} (h : f ∉ D.map Prod.fst) : (fun y => if y = (f : Int) then some (e : Int) else dk D y) = dk (D ++ [(f, e)]) := funext fun y => by
  unfold dk
  rw [List.find?_append]
  by_cases z : y = (f : Int)
  · rw [if_pos z]
    have : D.find? (fun p => decide ((p.1 : Int) = y)) = none := List.find?_eq_none.mpr fun p hp => by
      have : p.1 ≠ f := fun c => h (List.mem_map.mpr ⟨p, hp, c⟩)
      rw [z]; simp; omega
    rw [this, z]; simp
  · rw [if_neg z]
    have : [(f, e)].find? (fun p => decide ((p.1 : Int) = y)) = none := List.find?_eq_none.mpr fun p hp => by
      rw [List.mem_singleton.mp hp]; simp; exact fun c => z c.symm
    rw [this, Option.or_none]
theorem dk_some {D : List (Nat × Nat)} (h : (D.map Prod.fst).Nodup) {p : Nat × Nat} (hp : p ∈ D) : dk D (p.1 : Int) = some (p.2 : Int) := by
  unfold dk
  cases e : D.find? (fun q => decide ((q.1 : Int) = (p.1 : Int))) with
  | none =>
    have := List.find?_eq_none.mp e p hp
    simp at this
  | some q =>
    have h1 : q.1 = p.1 := by have := List.find?_some e; simp at this; omega
    obtain ⟨i, hi, e1⟩ := List.mem_iff_getElem.mp (List.mem_of_find?_eq_some e)
    obtain ⟨j, hj, e2⟩ := List.mem_iff_getElem.mp hp
    have := key_inj h (by rw [List.getElem?_eq_getElem hi, e1] : D[i]? = some q) (by rw [List.getElem?_eq_getElem hj, e2] : D[j]? = some p) h1
    subst this
    rw [← e1, e2]; rfl
theorem dk_isSome {D : List (Nat × Nat)} {x : Nat} : (dk D (x : Int)).isSome = decide (x ∈ D.map Prod.fst) := by
  unfold dk
  rw [Option.isSome_map, Bool.eq_iff_iff, decide_eq_true_iff, List.find?_isSome]
  constructor
  · rintro ⟨p, hp, e⟩
    exact List.mem_map.mpr ⟨p, hp, by simp at e; omega⟩
  · intro h
    obtain ⟨p, hp, e⟩ := List.mem_map.mp h
    exact ⟨p, hp, by simp; omega⟩
section
variable {n : Nat} {lt : Nat → Nat → Prop} {b a : List Int}
/-- the search, the sources before the t-th done -/
structure Srh (n : Nat) (lt : Nat → Nat → Prop) (b a : List Int) (t : Nat) (D : List (Nat × Nat)) (left : Nat) : Prop where
  sd : Sd n lt b a D
  fl : FulD a D
  lf : ∀ c, left.testBit c = true ↔ c < n ∧ c ∉ D.map Prod.fst
  cl : ∀ j e, j < t → (srcs n b a D)[j]? = some e → ∀ f, f < n → lt e f → f ∈ D.map Prod.fst
  tl : t ≤ (srcs n b a D).length
theorem Srh.start : Srh n lt b a 0 [] (2 ^ n - 1) :=
  ⟨.nil, (fun _ h => by cases h), (fun c => by rw [Nat.testBit_two_pow_sub_one]; simp), fun j e h => absurd h (Nat.not_lt_zero _), Nat.zero_le _⟩
theorem srcs_len (m : Mt n lt b a) {D : List (Nat × Nat)} (s : Sd n lt b a D) (fl : FulD a D) : (srcs n b a D).length ≤ n := by
  have := nodup_le (srcs_nd m s fl) (m := List.range n) fun x hx => List.mem_range.mpr (srcs_lt m s fl x hx)
  rwa [List.length_range] at this
theorem Sd.len {D : List (Nat × Nat)} (s : Sd n lt b a D) : D.length ≤ n := by
  have := nodup_le s.nd (m := List.range n) fun x hx => by
    obtain ⟨p, hp, rfl⟩ := List.mem_map.mp hx
    exact List.mem_range.mpr (s.ok p hp).1
  rwa [List.length_range, List.length_map] at this
theorem Srh.shut {t : Nat} {D : List (Nat × Nat)} {left : Nat} (s : Srh n lt b a t D left) (h : ¬ t < (srcs n b a D).length) : Shut n lt b a D := by
  refine ⟨s.sd, s.fl, fun e he f hf hl => ?_⟩
  obtain ⟨j, hj, e1⟩ := List.mem_iff_getElem.mp he
  have := s.tl
  exact s.cl j e (by omega) (by rw [List.getElem?_eq_getElem hj, e1]) f hf hl
/-- within a turn: L the bits that the source e gives, the first i of them in -/
structure Tur (n : Nat) (lt : Nat → Nat → Prop) (b a : List Int) (D : List (Nat × Nat)) (e : Nat) (L : List Nat) (i : Nat) : Prop where
  sd : Sd n lt b a (D ++ (L.take i).map fun f => (f, e))
  fl : FulD a (D ++ (L.take i).map fun f => (f, e))
theorem srcs_pre {D D' : List (Nat × Nat)} : srcs n b a (D ++ D') = srcs n b a D ++ D'.map fun p => (at1 a p.1).toNat := by
  unfold srcs; rw [List.map_append, List.append_assoc]
theorem tak {L : List Nat} {i f e : Nat} (h : L[i]? = some f) : (L.take (i + 1)).map (fun f => (f, e)) = (L.take i).map (fun f => (f, e)) ++ [(f, e)] := by
  rw [List.take_add_one, h, Option.toList_some, List.map_append]; rfl
theorem Tur.nw {D : List (Nat × Nat)} {e i f : Nat} {L : List Nat} (nd : L.Nodup) (hL : ∀ f ∈ L, f ∉ D.map Prod.fst) (h : L[i]? = some f) : f ∉ (D ++ (L.take i).map fun f => (f, e)).map Prod.fst := fun c => by
  rw [List.map_append, List.mem_append] at c
  rcases c with z | z
  · exact hL f (List.mem_of_getElem? h) z
  · rw [List.map_map] at z
    obtain ⟨g, hg, e2⟩ := List.mem_map.mp z
    have e2 : g = f := e2
    subst e2
    obtain ⟨j, hj, e3⟩ := List.mem_iff_getElem.mp hg
    have hj2 : j < i ∧ j < L.length := by rw [List.length_take] at hj; omega
    rw [List.getElem_take] at e3
    have := (List.getElem?_inj hj2.2 nd).mp (by rw [List.getElem?_eq_getElem hj2.2, e3, h] : L[j]? = L[i]?)
    omega
theorem Tur.sd1 {D : List (Nat × Nat)} {e i f : Nat} {L : List Nat} (s : Tur n lt b a D e L i) (nd : L.Nodup) (hL : ∀ f ∈ L, f ∉ D.map Prod.fst ∧ f < n ∧ lt e f) (he : e < n) (hs : e ∈ srcs n b a D) (h : L[i]? = some f) :
    Sd n lt b a (D ++ (L.take (i + 1)).map fun f => (f, e)) := by
  obtain ⟨_, h2, h3⟩ := hL f (List.mem_of_getElem? h)
  rw [tak h, ← List.append_assoc]
  exact s.sd.add h2 he h3 (Tur.nw nd (fun f hf => (hL f hf).1) h) s.fl (by rw [srcs_pre]; exact List.mem_append_left _ hs)
theorem Tur.fl1 {D : List (Nat × Nat)} {e i f : Nat} {L : List Nat} (s : Tur n lt b a D e L i) (h : L[i]? = some f) (hf : ¬ at1 a f < 0) : FulD a (D ++ (L.take (i + 1)).map fun f => (f, e)) := by
  rw [tak h, ← List.append_assoc]
  intro p hp
  rcases List.mem_append.mp hp with z | z
  · exact s.fl p z
  · rw [List.mem_singleton.mp z]; exact hf
theorem Srh.next {t e left left' : Nat} {D : List (Nat × Nat)} {L : List Nat} (s : Srh n lt b a t D left) (he : (srcs n b a D)[t]? = some e) (hL : ∀ f, f ∈ L ↔ f < n ∧ lt e f ∧ f ∉ D.map Prod.fst) (u : Tur n lt b a D e L L.length)
    (hl : ∀ c, left'.testBit c = true ↔ left.testBit c = true ∧ c ∉ L) : Srh n lt b a (t + 1) (D ++ L.map fun f => (f, e)) left' := by
  have u1 := u.sd; have u2 := u.fl
  rw [List.take_length] at u1 u2
  have km : ∀ c, c ∈ (D ++ L.map fun f => (f, e)).map Prod.fst ↔ c ∈ D.map Prod.fst ∨ c ∈ L := fun c => by
    rw [List.map_append, List.mem_append, List.map_map]
    refine or_congr_right ?_
    rw [List.mem_map]
    exact ⟨fun ⟨x, hx, e⟩ => by have e : x = c := e; exact e ▸ hx, fun h => ⟨c, h, rfl⟩⟩
  have tl : t < (srcs n b a D).length := (List.getElem?_eq_some_iff.mp he).1
  refine ⟨u1, u2, fun c => ?_, fun j x hj hx f hf hlt => ?_, by rw [srcs_pre, List.length_append]; omega⟩
  · rw [hl c, s.lf c, km]
    exact ⟨fun ⟨⟨h1, h2⟩, h3⟩ => ⟨h1, fun c => c.elim h2 h3⟩, fun ⟨h1, h2⟩ => ⟨⟨h1, fun c => h2 (.inl c)⟩, fun c => h2 (.inr c)⟩⟩
  · rw [km]
    rw [srcs_pre, List.getElem?_append_left (by omega)] at hx
    rcases Nat.lt_or_ge j t with z | z
    · exact .inl (s.cl j x z hx f hf hlt)
    · have : j = t := by omega
      subst this
      obtain rfl : e = x := Option.some.inj (he.symm.trans hx)
      by_cases q : f ∈ D.map Prod.fst
      · exact .inl q
      · exact .inr ((hL f).mpr ⟨hf, hlt, q⟩)
/-! the rows -/
def chn (b : List Int) : Nat → Nat → List Nat
  | 0, _ => []
  | m + 1, e => e :: if at1 b e < 0 then [] else chn b m (at1 b e).toNat
theorem chn_ok (mt : Mt n lt b a) (hlt : ∀ e f, lt e f → e < f) : ∀ (m e : Nat), e < n → n ≤ e + m → chn b m e ≠ [] ∧ (∀ x ∈ chn b m e, x < n ∧ e ≤ x) ∧ (chn b m e).Pairwise (· < ·) ∧ (∀ (i x y : Nat), (chn b m e)[i]? = some x → (chn b m e)[i + 1]? = some y → lt x y)
  | 0, e, he, hm => by omega
  | m + 1, e, he, hm => by
    unfold chn
    by_cases z : at1 b e < 0
    · rw [if_pos z]
      exact ⟨by simp, fun x hx => by rw [List.mem_singleton.mp hx]; exact ⟨he, Nat.le_refl _⟩, by simp, fun i x y _ h => by simp at h⟩
    · rw [if_neg z]
      obtain ⟨f, f1, f2, f3, f4⟩ := mt.bI he rfl z
      have fe := hlt _ _ f3
      rw [f2, Int.toNat_natCast]
      obtain ⟨i1, i2, i3, i4⟩ := chn_ok mt hlt m f f1 (by omega)
      refine ⟨by simp, fun x hx => ?_, List.pairwise_cons.mpr ⟨fun x hx => by have := i2 x hx; omega, i3⟩, fun i x y h1 h2 => ?_⟩
      · rcases List.mem_cons.mp hx with q | q
        · rw [q]; exact ⟨he, Nat.le_refl _⟩
        · have := i2 x q; exact ⟨this.1, by omega⟩
      · cases i with
        | zero =>
          have h1 : e = x := by simpa using h1
          have h2 : (chn b m f)[0]? = some y := by simpa using h2
          subst h1
          cases m with
          | zero => simp [chn] at h2
          | succ m =>
            have h2 : f = y := by simpa [chn] using h2
            exact h2 ▸ f3
        | succ i => exact i4 i x y (by simpa using h1) (by simpa using h2)
theorem chn_next (mt : Mt n lt b a) (hlt : ∀ e f, lt e f → e < f) {x f : Nat} (hb : at1 b x = (f : Int)) : ∀ (m e : Nat), e < n → n ≤ e + m → x ∈ chn b m e → f ∈ chn b m e
  | 0, e, he, hm, h => by omega
  | m + 1, e, he, hm, h => by
    unfold chn at h ⊢
    by_cases z : at1 b e < 0
    · rw [if_pos z] at h
      rw [List.mem_singleton.mp h] at hb
      omega
    · rw [if_neg z] at h ⊢
      obtain ⟨g, f1, f2, f3, f4⟩ := mt.bI he rfl z
      have fe := hlt _ _ f3
      rw [f2, Int.toNat_natCast] at h ⊢
      rcases List.mem_cons.mp h with q | q
      · subst q
        have : g = f := by omega
        subst this
        cases m with
        | zero => omega
        | succ m => unfold chn; simp
      · exact List.mem_cons_of_mem _ (chn_next mt hlt hb m g f1 (by omega) q)
theorem chn_prev (mt : Mt n lt b a) (hlt : ∀ e f, lt e f → e < f) : ∀ (m e x : Nat), e < n → n ≤ e + m → x ∈ chn b m e → x = e ∨ ∃ y ∈ chn b m e, y < n ∧ at1 b y = (x : Int)
  | 0, e, x, he, hm, h => by omega
  | m + 1, e, x, he, hm, h => by
    unfold chn at h ⊢
    rcases List.mem_cons.mp h with q | q
    · exact .inl q
    · by_cases z : at1 b e < 0
      · rw [if_pos z] at q; cases q
      · rw [if_neg z] at q ⊢
        obtain ⟨g, f1, f2, f3, f4⟩ := mt.bI he rfl z
        have fe := hlt _ _ f3
        rw [f2, Int.toNat_natCast] at q ⊢
        rcases chn_prev mt hlt m g x f1 (by omega) q with w | ⟨y, y1, y2, y3⟩
        · exact .inr ⟨e, List.mem_cons_self, he, by rw [f2, w]⟩
        · exact .inr ⟨y, List.mem_cons_of_mem _ y1, y2, y3⟩
theorem chn_mem (mt : Mt n lt b a) (hlt : ∀ e f, lt e f → e < f) (e : Nat) (he : e < n) : ∃ h ∈ tops n a, e ∈ chn b n h := by
  induction e using Nat.strongRecOn with
  | _ e ih =>
    by_cases z : at1 a e < 0
    · refine ⟨e, mem_tops.mpr ⟨he, z⟩, ?_⟩
      cases n with
      | zero => omega
      | succ n => unfold chn; simp
    · obtain ⟨x, x1, x2, x3⟩ := mt.aI he rfl z
      obtain ⟨f, _, f2, f3, _⟩ := mt.bI x1 x3 (by omega)
      have : f = e := by omega
      subst this
      obtain ⟨h, h1, h2⟩ := ih x (hlt _ _ f3) x1
      exact ⟨h, h1, chn_next mt hlt x3 n h (mem_tops.mp h1).1 (by omega) h2⟩
theorem chn_uniq (mt : Mt n lt b a) (hlt : ∀ e f, lt e f → e < f) {h h' : Nat} (hh : h ∈ tops n a) (hh' : h' ∈ tops n a) (x : Nat) : x ∈ chn b n h → x ∈ chn b n h' → h = h' := by
  induction x using Nat.strongRecOn with
  | _ x ih =>
    intro h1 h2
    obtain ⟨a1, a2⟩ := mem_tops.mp hh
    obtain ⟨b1, b2⟩ := mem_tops.mp hh'
    have bk : ∀ {y : Nat}, y < n → at1 b y = (x : Int) → at1 a x = (y : Int) ∧ y < x := fun hy e => by
      obtain ⟨f, _, f2, f3, f4⟩ := mt.bI hy e (by omega)
      have : f = x := by omega
      subst this
      exact ⟨f4, hlt _ _ f3⟩
    rcases chn_prev mt hlt n h x a1 (by omega) h1 with q | ⟨y, y1, y2, y3⟩
    · rcases chn_prev mt hlt n h' x b1 (by omega) h2 with w | ⟨y, y1, y2, y3⟩
      · exact q.symm.trans w
      · have := (bk y2 y3).1; rw [q] at this; omega
    · have k := bk y2 y3
      rcases chn_prev mt hlt n h' x b1 (by omega) h2 with w | ⟨y', z1, z2, z3⟩
      · have := k.1; rw [w] at this; omega
      · have k' := bk z2 z3
        have : y' = y := by have := k.1; have := k'.1; omega
        subst this
        exact ih y' k.2 y1 z1
/-- the rows hold each event once -/
theorem rows_perm (mt : Mt n lt b a) (hlt : ∀ e f, lt e f → e < f) : (((tops n a).map fun h => chn b n h).flatten).Perm (List.range n) := by
  have ok := fun h (hh : h ∈ tops n a) => chn_ok mt hlt n h (mem_tops.mp hh).1 (by omega)
  refine (List.perm_ext_iff_of_nodup ?_ List.nodup_range).mpr fun x => ?_
  · refine List.pairwise_flatten.mpr ⟨fun l hl => ?_, ?_⟩
    · obtain ⟨h, hh, rfl⟩ := List.mem_map.mp hl
      exact (ok h hh).2.2.1.imp fun q => Nat.ne_of_lt q
    · rw [List.pairwise_map]
      have nd : (tops n a).Pairwise (· ≠ ·) := tops_nd
      refine List.Pairwise.imp_of_mem (fun hx hy ne x h1 y h2 c => ?_) nd
      subst c
      exact ne (chn_uniq mt hlt hx hy x h1 h2)
  · rw [List.mem_flatten, List.mem_range]
    constructor
    · rintro ⟨l, hl, hx⟩
      obtain ⟨h, hh, rfl⟩ := List.mem_map.mp hl
      exact ((ok h hh).2.1 x hx).1
    · intro hx
      obtain ⟨h, h1, h2⟩ := chn_mem mt hlt x hx
      exact ⟨_, List.mem_map.mpr ⟨h, h1, rfl⟩, h2⟩
theorem rest_le {b a : List Int} (h : ∀ e, e < n → ¬ at1 b e < 0 → ∃ f, f < n ∧ at1 b e = (f : Int) ∧ at1 a f = (e : Int)) : ((List.range n).filter fun e => !decide (at1 b e < 0)).length ≤ ((List.range n).filter fun e => !decide (at1 a e < 0)).length := by
  have key : ∀ L : List Nat, L.Nodup → (∀ x ∈ L, x < n ∧ ¬ at1 b x < 0) → (L.map fun e => (at1 b e).toNat).Nodup := by
    intro L
    induction L with
    | nil => intros; simp
    | cons x L ih =>
      intro nd hx
      rw [List.nodup_cons] at nd
      rw [List.map_cons, List.nodup_cons]
      refine ⟨fun c => ?_, ih nd.2 fun y hy => hx y (List.mem_cons_of_mem _ hy)⟩
      obtain ⟨y, hy, e⟩ := List.mem_map.mp c
      obtain ⟨p1, p2⟩ := hx x List.mem_cons_self
      obtain ⟨q1, q2⟩ := hx y (List.mem_cons_of_mem _ hy)
      obtain ⟨f, _, f2, f3⟩ := h x p1 p2
      obtain ⟨g, _, g2, g3⟩ := h y q1 q2
      rw [f2, g2] at e
      have : g = f := by omega
      subst this
      have : x = y := by omega
      subst this
      exact nd.1 hy
  have mm : ∀ x ∈ (List.range n).filter fun e => !decide (at1 b e < 0), x < n ∧ ¬ at1 b x < 0 := fun x hx => by
    obtain ⟨h1, h2⟩ := List.mem_filter.mp hx
    exact ⟨List.mem_range.mp h1, by simpa using h2⟩
  have := nodup_le (key _ (List.nodup_range.sublist List.filter_sublist) mm) (m := (List.range n).filter fun e => !decide (at1 a e < 0)) fun y hy => by
    obtain ⟨x, hx, e⟩ := List.mem_map.mp hy
    obtain ⟨p1, p2⟩ := mm x hx
    obtain ⟨f, f1, f2, f3⟩ := h x p1 p2
    have : y = f := by rw [← e, f2]; rfl
    subst this
    exact List.mem_filter.mpr ⟨List.mem_range.mpr f1, by rw [decide_eq_false (by omega)]; rfl⟩
  rwa [List.length_map] at this
theorem tops_len (mt : Mt n lt b a) : (tops n b).length = (tops n a).length := by
  have h1 := rest_le (n := n) (b := b) (a := a) fun e he h => by
    obtain ⟨f, f1, f2, _, f4⟩ := mt.bI he rfl h
    exact ⟨f, f1, f2, f4⟩
  have h2 := rest_le (n := n) (b := a) (a := b) fun e he h => by
    obtain ⟨f, f1, f2, f3⟩ := mt.aI he rfl h
    exact ⟨f, f1, f2, f3⟩
  have key : ∀ l : List Int, (tops n l).length + ((List.range n).filter fun e => !decide (at1 l e < 0)).length = n := fun l => by
    have : ∀ L : List Nat, (L.filter fun e => decide (at1 l e < 0)).length + (L.filter fun e => !decide (at1 l e < 0)).length = L.length := fun L => by
      induction L with
      | nil => rfl
      | cons x L ih =>
        by_cases z : at1 l x < 0
        · have z' : decide (at1 l x < 0) = true := decide_eq_true z
          rw [List.filter_cons, List.filter_cons, if_pos z', if_neg (by rw [z']; decide), List.length_cons, List.length_cons]; omega
        · have z' : decide (at1 l x < 0) = false := decide_eq_false z
          rw [List.filter_cons, List.filter_cons, if_neg (by rw [z']; decide), if_pos (by rw [z']; rfl), List.length_cons, List.length_cons]; omega
    have := this (List.range n)
    rwa [List.length_range] at this
  have k1 := key b
  have k2 := key a
  omega
end
end My
namespace My
open PySem L2 Hq
/-! ### the text by places -/
def top (i : Nat) : Stmt := PySem.Challenge.pw_placewords_k56_whole_widths.main.body.getD i (.Pass ⟨0, 0, 0, 0⟩)
abbrev s_bits_of : Stmt := top 1
abbrev s_mask_of : Stmt := top 2
abbrev s_Alphabet_init : Stmt := inClass (top 9) 0
abbrev s__check_letter : Stmt := top 10
abbrev s_place_masks : Stmt := top 11
abbrev s_widest : Stmt := top 13
abbrev s__masks_above : Stmt := top 14
abbrev s__first_rows : Stmt := top 15
abbrev s__searched : Stmt := top 16
abbrev s__take_steps : Stmt := top 17
abbrev s__row : Stmt := top 18
abbrev s__law_draws : Stmt := top 20
abbrev s__law_take : Stmt := top 21
abbrev s__law_is_integer : Stmt := top 22
abbrev s__law_alphabet : Stmt := top 23
abbrev s__law_free : Stmt := top 24
abbrev s__law_word : Stmt := top 25
abbrev s__law_below : Stmt := top 26
abbrev s_law : Stmt := top 27
set_option maxHeartbeats 0 in
structure Txt (K : PySem.W.Frag) (mg : Str → Option Value) where
  f_bits_of : Addr
  d_bits_of : FuncData
  F_bits_of : Fun K "bits_of" "bits_of" s_bits_of f_bits_of d_bits_of
  m_bits_of : mg "bits_of" = some (.ref f_bits_of)
  b_bits_of : Binds K d_bits_of ["number"] []
  f_mask_of : Addr
  d_mask_of : FuncData
  F_mask_of : Fun K "mask_of" "mask_of" s_mask_of f_mask_of d_mask_of
  m_mask_of : mg "mask_of" = some (.ref f_mask_of)
  b_mask_of : Binds K d_mask_of ["bits"] []
  f_Alphabet_init : Addr
  d_Alphabet_init : FuncData
  F_Alphabet_init : Fun K "__init__" "Alphabet.__init__" s_Alphabet_init f_Alphabet_init d_Alphabet_init
  b_Alphabet_init : Binds K d_Alphabet_init ["self", "places", "letters"] []
  f__check_letter : Addr
  d__check_letter : FuncData
  F__check_letter : Fun K "_check_letter" "_check_letter" s__check_letter f__check_letter d__check_letter
  m__check_letter : mg "_check_letter" = some (.ref f__check_letter)
  b__check_letter : Binds K d__check_letter ["places", "row"] []
  f_place_masks : Addr
  d_place_masks : FuncData
  F_place_masks : Fun K "place_masks" "place_masks" s_place_masks f_place_masks d_place_masks
  m_place_masks : mg "place_masks" = some (.ref f_place_masks)
  b_place_masks : Binds K d_place_masks ["alphabet"] []
  f_widest : Addr
  d_widest : FuncData
  F_widest : Fun K "widest" "widest" s_widest f_widest d_widest
  m_widest : mg "widest" = some (.ref f_widest)
  b_widest : Binds K d_widest ["alphabet", "word"] []
  f__masks_above : Addr
  d__masks_above : FuncData
  F__masks_above : Fun K "_masks_above" "_masks_above" s__masks_above f__masks_above d__masks_above
  m__masks_above : mg "_masks_above" = some (.ref f__masks_above)
  b__masks_above : Binds K d__masks_above ["alphabet", "word"] []
  f__first_rows : Addr
  d__first_rows : FuncData
  F__first_rows : Fun K "_first_rows" "_first_rows" s__first_rows f__first_rows d__first_rows
  m__first_rows : mg "_first_rows" = some (.ref f__first_rows)
  b__first_rows : Binds K d__first_rows ["alphabet", "word"] []
  f__searched : Addr
  d__searched : FuncData
  F__searched : Fun K "_searched" "_searched" s__searched f__searched d__searched
  m__searched : mg "_searched" = some (.ref f__searched)
  b__searched : Binds K d__searched ["above", "behind", "ahead"] []
  f__take_steps : Addr
  d__take_steps : FuncData
  F__take_steps : Fun K "_take_steps" "_take_steps" s__take_steps f__take_steps d__take_steps
  m__take_steps : mg "_take_steps" = some (.ref f__take_steps)
  b__take_steps : Binds K d__take_steps ["behind", "ahead", "came_from", "end"] []
  f__row : Addr
  d__row : FuncData
  F__row : Fun K "_row" "_row" s__row f__row d__row
  m__row : mg "_row" = some (.ref f__row)
  b__row : Binds K d__row ["behind", "first"] []
  f__law_draws : Addr
  d__law_draws : FuncData
  F__law_draws : Fun K "_law_draws" "_law_draws" s__law_draws f__law_draws d__law_draws
  m__law_draws : mg "_law_draws" = some (.ref f__law_draws)
  b__law_draws : Binds K d__law_draws ["script", "count"] []
  f__law_take : Addr
  d__law_take : FuncData
  F__law_take : Fun K "_law_take" "_law_take" s__law_take f__law_take d__law_take
  m__law_take : mg "_law_take" = some (.ref f__law_take)
  b__law_take : Binds K d__law_take ["draws", "limit"] []
  f__law_is_integer : Addr
  d__law_is_integer : FuncData
  F__law_is_integer : Fun K "_law_is_integer" "_law_is_integer" s__law_is_integer f__law_is_integer d__law_is_integer
  m__law_is_integer : mg "_law_is_integer" = some (.ref f__law_is_integer)
  b__law_is_integer : Binds K d__law_is_integer ["actual"] []
  f__law_alphabet : Addr
  d__law_alphabet : FuncData
  F__law_alphabet : Fun K "_law_alphabet" "_law_alphabet" s__law_alphabet f__law_alphabet d__law_alphabet
  m__law_alphabet : mg "_law_alphabet" = some (.ref f__law_alphabet)
  b__law_alphabet : Binds K d__law_alphabet ["draws", "places", "most"] []
  f__law_free : Addr
  d__law_free : FuncData
  F__law_free : Fun K "_law_free" "_law_free" s__law_free f__law_free d__law_free
  m__law_free : mg "_law_free" = some (.ref f__law_free)
  b__law_free : Binds K d__law_free ["letters", "first", "second"] []
  f__law_word : Addr
  d__law_word : FuncData
  F__law_word : Fun K "_law_word" "_law_word" s__law_word f__law_word d__law_word
  m__law_word : mg "_law_word" = some (.ref f__law_word)
  b__law_word : Binds K d__law_word ["draws", "letters", "most"] []
  f__law_below : Addr
  d__law_below : FuncData
  F__law_below : Fun K "_law_below" "_law_below" s__law_below f__law_below d__law_below
  m__law_below : mg "_law_below" = some (.ref f__law_below)
  b__law_below : Binds K d__law_below ["letters", "word"] []
  f_law : Addr
  d_law : FuncData
  F_law : Fun K "law" "law" s_law f_law d_law
  m_law : mg "law" = some (.ref f_law)
  b_law : Binds K d_law ["script"] []
  c_Alphabet : Addr
  mc_Alphabet : mg "Alphabet" = some (.ref c_Alphabet)
  mk_Alphabet : PySem.W.makesIn K c_Alphabet = true
  in_Alphabet : PySem.W.findIn K (.ref c_Alphabet) "__init__" = some (some (.ref f_Alphabet_init))
  if_Alphabet : PySem.W.isFn K (.ref f_Alphabet_init) = true
  kc_Alphabet : PySem.W.keepIn K (.ref c_Alphabet) = true
  cl_Alphabet : Cls K c_Alphabet
  na_Alphabet_places : NoAttr K c_Alphabet "places"
  na_Alphabet_letters : NoAttr K c_Alphabet "letters"
  z_bool : mg "bool" = none
  z_enumerate : mg "enumerate" = none
  z_int : mg "int" = none
  z_isinstance : mg "isinstance" = none
  z_len : mg "len" = none
  z_list : mg "list" = none
  z_range : mg "range" = none
  z_reversed : mg "reversed" = none
  z_set : mg "set" = none
  z_sorted : mg "sorted" = none
  z_tuple : mg "tuple" = none
  t_MOST_LETTERS : Tok
  v_MOST_LETTERS : mg "MOST_LETTERS" = some (.int 6 t_MOST_LETTERS)
  t_MOST_PLACES : Tok
  v_MOST_PLACES : mg "MOST_PLACES" = some (.int 4 t_MOST_PLACES)
local macro_rules | `(tactic| trivial) => `(tactic| omega)
theorem pin_le {K : PySem.W.Frag} {lo hi x : Int} (h : lo ≤ x ∧ x < hi) : (D K (.int x)).le (PIn K lo hi) := MP.le_trans (PAn.in h) (PEx.in (R := fun x : Int => PAn (lo ≤ x ∧ x < hi) (D K (.int x))) x)
end My
namespace My
open PySem L2 Hq
local macro_rules | `(tactic| trivial) => `(tactic| omega)
section
variable {P : Program} {wo : World} {K : PySem.W.Frag} {mg : Str → Option Value} {base : Heap}
/-! ### _law_take -/
theorem sc__law_take : FnScope ["draws", "limit"] ["draws", "limit"] (defScope s__law_take) := ⟨rfl, rfl, rfl, by decide +kernel, rfl, by decide +kernel, by decide +kernel⟩
def sp__law_take (T : Txt K mg) : Sp := fun vs H Q _ => ∃ (d : Addr) (n : Int), 0 < n ∧ Prom [Own d, D K (.int n)] [(d, MDr K)] (PIn K 0 n) [(d, MDr K)] vs H Q
theorem sp__law_take_len {T : Txt K mg} {vs H Q E} (h : sp__law_take T vs H Q E) : vs.length = 2 := by obtain ⟨d, n, _, h⟩ := h; exact h.len
set_option maxHeartbeats 4000000 in
theorem ok__law_take (T : Txt K mg) : FnOk P wo K mg base CX0 1 T.f__law_take T.d__law_take ["draws", "limit"] (sp__law_take T) := by
  have nd := (sc__law_take).nd
  refine T.F__law_take.ok sc__law_take (fun vs H Q E h => (sp__law_take_len h)) (fun cdv A outer s H vs Q E hr h => ?_)
  obtain ⟨d, n, hn, F, w, p, k⟩ := h
  refine ⟨_, (pss_cons (ps_if (pt_cmpR op_eq (pe_callB (c_len (K := K) rfl) (by rfl) T.z_len PySem.boot_len (pa_cons (pv 0) pa_nil)) pe_int (nomark _)) (pss_one (ps_ret pe_int)) pss_nil)
    (pss_one (ps_ret (pe_op op_mod (pe_callTy call_int1 (by rfl) T.z_int (by decide +kernel) (pa_cons (pe_bm0 PySem.F.plainAttrs_list PySem.F.slot_list_pop PySem.F.type_list_pop mt_pop (pv 0)) pa_nil)) (pv 1))))), ?_⟩
  refine go_start w p (Γ := [some (Own d), some (D K (.int n))]) rfl ?_
  refine nx_exM (j := 0) rfl fun ns => nx_anM (j := 0) rfl fun hl => ?_
  show Nx _ _ [(d, MInts K ns)] _
  have k2 : ∀ ns' : List Int, ns'.length ≤ 1000 → Rt ⟨F, H, keys [(d, MDr K)]⟩ [(d, MInts K ns')] (PIn K 0 n) Q := fun ns' h => Rt.to (j := 0) (O' := MDr K) k rfl (fun F o q => ⟨ns', h, q⟩) rfl
  refine (q_if (et_test (ev_op (ev_cb (ea_cons (ev_var rfl) ea_nil) (rc_lenO (j := 0) rfl)) (ev_int (K := K)) rv_eqI)) (fun _ => go_ret Le.refl (ev_int (K := K)) (Rt.weak (pin_le (by omega)) (k2 ns hl))) fun hz => go_next ?_)
  have hz : ns ≠ [] := by intro e; subst e; simp at hz
  have hlast : (ns.map fun n => D K (.int n))[(ns.map fun n => D K (.int n)).length - 1]? = some (D K (.int (ns.getLast hz))) := by rw [List.length_map, List.getElem?_map, ← List.getLast?_eq_getElem?, List.getLast?_eq_some_getLast hz]; rfl
  have hd : (ns.map fun n => D K (.int n)).dropLast = ns.dropLast.map fun n => D K (.int n) := by rw [List.map_dropLast]
  refine go_ret Le.refl (ev_op (ev_cb (ea_cons (ev_pop (j := 0) (ev_var rfl) rfl hlast) ea_nil) rc_int) (ev_var rfl) (rv_ic (by trivial))) (Rt.weak (pin_le ⟨Int.emod_nonneg _ (by omega), Int.emod_lt_of_pos _ hn⟩) ?_)
  rw [hd]
  exact k2 _ (by rw [List.length_dropLast]; omega)
theorem use__law_take {T : Txt K mg} {tr : TA} {Γ : Gm} {M M1 : Ms} {d : Addr} {n : Int} {j : Nat} {X : XK} (h : EvA tr Γ M [Own d, D K (.int n)] M1) (hn : 0 < n) (e : M1[j]? = some (d, MDr K)) : Ev (tCall (sp__law_take T) [] X tr) Γ M (PIn K 0 n) M1 :=
  call1 h e fun vs H Q z => ⟨d, n, hn, z⟩
/-! ### _law_draws -/
theorem sc__law_draws : FnScope ["script", "count", "cells", "found", "mixed", "k", "j", "cell", "again"] ["script", "count"] (defScope s__law_draws) := ⟨rfl, rfl, rfl, by decide +kernel, rfl, by decide +kernel, by decide +kernel⟩
def sp__law_draws (T : Txt K mg) : Sp := fun vs H Q _ => ∃ (ns : List Int) (c : Int), 0 ≤ c ∧ c ≤ 1000 ∧ ns.length ≤ 1000 ∧ PromN [PLi K (ns.map fun n => D K (.int n)), D K (.int c)] [] (MDr K) [] vs H Q
theorem sp__law_draws_len {T : Txt K mg} {vs H Q E} (h : sp__law_draws T vs H Q E) : vs.length = 2 := by obtain ⟨_, _, _, _, _, h⟩ := h; exact h.len
set_option maxHeartbeats 4000000 in
theorem ok__law_draws (T : Txt K mg) : FnOk P wo K mg base CX0 1 T.f__law_draws T.d__law_draws ["script", "count"] (sp__law_draws T) := by
  have nd := (sc__law_draws).nd
  refine T.F__law_draws.ok sc__law_draws (fun vs H Q E h => (sp__law_draws_len h)) (fun cdv A outer s H vs Q E hr h => ?_)
  obtain ⟨ns, cnt, c0, c1, nl, F, w, p, k⟩ := h
  refine ⟨_, (pss_cons (ps_set (i := 2) nd rfl (Or.inl rfl) (pe_callTy (c_list (K := K) rfl) (by rfl) T.z_list (by decide +kernel) (pa_cons (pv 0) pa_nil)))
    (Evl.pss_cut (ps_if (pt_cmpR op_eq (pe_callB (c_len (K := K) rfl) (by rfl) T.z_len PySem.boot_len (pa_cons (pv 2) pa_nil)) pe_int (nomark _)) (pss_one (ps_set (i := 2) nd rfl (Or.inl rfl) (pe_lst (pa_cons pe_int pa_nil)))) pss_nil)
    (pss_cons (ps_set (i := 3) nd rfl (Or.inl rfl) (pe_lst pa_nil))
    (pss_cons (ps_set (i := 4) nd rfl (Or.inl rfl) pe_int)
    (pss_cons (ps_for PassesOwn.never rfl (pi_range1 (by rfl) T.z_range (pa_cons (pv 1) pa_nil)) (pg_name (i := 5) nd rfl (by first | exact Or.inl rfl | exact Or.inr rfl))
     (pss_cons (ps_set (i := 6) nd rfl (Or.inl rfl) (pe_op op_mod (pv 5) (pe_callB (c_len (K := K) rfl) (by rfl) T.z_len PySem.boot_len (pa_cons (pv 2) pa_nil))))
     (pss_cons (ps_set (i := 7) nd rfl (Or.inl rfl) (pe_ix (c_ix (K := K) rfl) (pv 2) (pv 6) (fun _ _ => rfl)))
     (pss_cons (ps_set (i := 4) nd rfl (Or.inl rfl) (pe_op op_mod (pe_callTy call_int1 (by rfl) T.z_int (by decide +kernel) (pa_cons (pe_op op_add (pe_op op_add (pe_op op_add (pe_op op_mul (pv 4) pe_int) (pe_op op_mul (pe_op op_mod (pe_callTy call_int1 (by rfl) T.z_int (by decide +kernel) (pa_cons (pv 7) pa_nil)) pe_int) pe_int)) (pe_op op_mul (pv 5) pe_int)) pe_int) pa_nil)) pe_int))
     (pss_cons (ps_set (i := 8) nd rfl (Or.inl rfl) (pe_op op_mod (pe_callTy call_int1 (by rfl) T.z_int (by decide +kernel) (pa_cons (pe_op op_add (pe_op op_add (pe_op op_mul (pv 4) (pv 4)) (pe_op op_mul pe_int (pv 4))) (pv 5)) pa_nil)) pe_int))
     (pss_one (ps_if (pt_cmpR op_ge (pv 7) (pe_op op_pow pe_int pe_int) (nomark _)) (pss_cons (ps_expr (pe_bm PySem.F.plainAttrs_list PySem.F.slot_list_append PySem.F.type_list_append mt_append (pv 3) (pa_cons (pe_op op_mod (pe_callTy call_int1 (by rfl) T.z_int (by decide +kernel) (pa_cons (pv 7) pa_nil)) pe_int) pa_nil)))
      (pss_one (ps_asg (pe_op op_fdiv (pv 7) pe_int) (pg_sub (pv 2) (pv 6) set_list)))) (pss_one (ps_expr (pe_bm PySem.F.plainAttrs_list PySem.F.slot_list_append PySem.F.type_list_append mt_append (pv 3) (pa_cons (pe_op op_mod (pe_callTy call_int1 (by rfl) T.z_int (by decide +kernel) (pa_cons (pv 8) pa_nil)) pe_int) pa_nil)))))))))))
    (pss_cons (ps_expr (pe_bm0 PySem.F.plainAttrs_list PySem.F.slot_list_reverse PySem.F.type_list_reverse mt_reverse (pv 3)))
    (pss_one (ps_ret (pv 3))))))))), ?_⟩
  refine go_start w p (Γ := [some (PLi K (ns.map fun n => D K (.int n))), some (D K (.int cnt)), none, none, none, none, none, none, none]) rfl ?_
  refine (q_asgN (evn_cb (ea_cons (ev_var rfl) ea_nil) rcn_listL) fun c hc => ?_)
  show Nx _ _ [(c, MInts K ns)] _
  refine go_cut (fun Γ M => ∃ (c : Addr) (cs : List Int), Γ = [some (PLi K (ns.map fun n => D K (.int n))), some (D K (.int cnt)), some (Own c), none, none, none, none, none, none] ∧ M = [(c, MInts K cs)] ∧ cs ≠ [] ∧ cs.length ≤ 1000) ?_ ?rest
  · refine go_if (et_test (ev_op (ev_cb (ea_cons (ev_var rfl) ea_nil) (rc_lenO (j := 0) rfl)) (ev_int (K := K)) rv_eqI)) (fun _ => ?_) fun hz => go_next (JA.of ⟨c, ns, rfl, rfl, by intro e; subst e; simp at hz, nl⟩)
    refine go_asgN (evn_lst (ea_cons (ev_int (K := K)) ea_nil) (by simp)) fun c2 h2 => ?_
    exact nx_drop (List.Sublist.cons₂ _ (List.nil_sublist _)) (JA.of ⟨c2, [7], rfl, rfl, by decide, by decide⟩)
  case rest =>
    rintro _ _ ⟨c, cs, rfl, rfl, hne, hlen⟩
    have lpos : 0 < cs.length := List.length_pos_iff.mpr hne
    refine (q_asgN (evn_lst ea_nil (by decide)) fun f hf => ?_)
    show Nx _ _ [(f, MInts K []), (c, MInts K cs)] _
    refine (q_asg (ev_int (K := K)) ?_)
    refine (q_forR (ea_cons (ev_var rfl) ea_nil) (by omega) (by omega) (fun n Γ M => ∃ (zs fs : List Int) (m : Int) (g5 g6 g7 g8 : Option MP), Γ = [some (PLi K (ns.map fun n => D K (.int n))), some (D K (.int cnt)), some (Own c), some (Own f), some (D K (.int m)), g5, g6, g7, g8] ∧
      M = [(f, MInts K fs), (c, MInts K zs)] ∧ zs.length = cs.length ∧ fs.length = n ∧ 0 ≤ m ∧ m < 2147483647) ⟨cs, [], 12345, none, none, none, none, rfl, rfl, rfl, rfl, by decide, by decide⟩ ?_ ?_)
    · rintro n hn _ _ ⟨zs, fs, m, g5, g6, g7, g8, rfl, rfl, hz, hfl, m0, m1⟩
      show Nx _ [some (PLi K (ns.map fun n => D K (.int n))), some (D K (.int cnt)), some (Own c), some (Own f), some (D K (.int m)), some (D K (.int n)), g6, g7, g8] _ _
      have hL : ((zs.map fun n => D K (.int n)).length : Int) = (cs.length : Int) := by rw [List.length_map, hz]
      have hj0 : 0 ≤ (n : Int) % ((zs.map fun n => D K (.int n)).length : Int) := Int.emod_nonneg _ (by omega)
      have hj1 : (n : Int) % ((zs.map fun n => D K (.int n)).length : Int) < zs.length := by rw [hL, ← hz]; exact Int.emod_lt_of_pos _ (by omega)
      refine (q_asg (ev_op (ev_var rfl) (ev_cb (ea_cons (ev_var rfl) ea_nil) (rc_lenO (j := 1) rfl)) (rv_ic (show (0 : Int) < _ by omega))) ?_)
      generalize (n : Int) % ((zs.map fun n => D K (.int n)).length : Int) = jj at hj0 hj1
      obtain ⟨jn, rfl⟩ := Int.eq_ofNat_of_zero_le hj0
      have hjn : jn < zs.length := by omega
      refine (q_asg (ev_op (ev_var rfl) (ev_var rfl) (rv_ixO (j := 1) rfl (by omega) (show (zs.map fun n => D K (.int n))[((jn : Int)).toNat]? = some (D K (.int zs[jn])) by rw [Int.toNat_natCast, List.getElem?_map, List.getElem?_eq_getElem hjn]; rfl))) ?_)
      refine (q_asg (ev_op (ev_cb (ea_cons (ev_op (ev_op (ev_op (ev_op (ev_var rfl) (ev_int (K := K)) (rv_ic (.inr ⟨by decide, by decide⟩))) (ev_op (ev_op (ev_cb (ea_cons (ev_var rfl) ea_nil) rc_int) (ev_int (K := K)) (rv_ic (by trivial))) (ev_int (K := K)) (rv_ic (.inr ⟨by decide, by decide⟩))) rv_i0) (ev_op (ev_var rfl) (ev_int (K := K)) (rv_ic (.inr ⟨by decide, by decide⟩))) rv_i0) (ev_int (K := K)) rv_i0) ea_nil) rc_int) (ev_int (K := K)) (rv_ic (by trivial))) ?_)
      refine (q_asg (ev_op (ev_cb (ea_cons (ev_op (ev_op (ev_op (ev_var rfl) (ev_var rfl) (rv_ic (.inl ⟨?_, ?_⟩))) (ev_op (ev_int (K := K)) (ev_var rfl) (rv_ic (.inl ⟨by decide, by decide⟩))) rv_i0) (ev_var rfl) rv_i0) ea_nil) rc_int) (ev_int (K := K)) (rv_ic (by trivial))) ?_)
      · have := Int.emod_nonneg (m * 48271 + zs[jn] % 1000003 * 69621 + (n : Int) * 7919 + 11) (by decide : (2147483647 : Int) ≠ 0)
        exact Int.lt_of_lt_of_le (by decide) this
      · have := Int.emod_lt_of_pos (m * 48271 + zs[jn] % 1000003 * 69621 + (n : Int) * 7919 + 11) (by decide : (0 : Int) < 2147483647)
        exact Int.lt_trans this (by decide)
      have fin : ∀ (zs' fs' : List Int) (m' : Int) (g5 g6 g7 g8 : Option MP) (Γ : Gm) (M : Ms), Γ = [some (PLi K (ns.map fun n => D K (.int n))), some (D K (.int cnt)), some (Own c), some (Own f), some (D K (.int m')), g5, g6, g7, g8] → M = [(f, MInts K fs'), (c, MInts K zs')] → zs'.length = cs.length → fs'.length = n + 1 → 0 ≤ m' → m' < 2147483647 → Nx ⟨F, H, keys []⟩ Γ M (JA ⟨F, H, keys []⟩ fun Γ M => ∃ (zs fs : List Int) (m : Int) (g5 g6 g7 g8 : Option MP), Γ = [some (PLi K (ns.map fun n => D K (.int n))), some (D K (.int cnt)), some (Own c), some (Own f), some (D K (.int m)), g5, g6, g7, g8] ∧
        M = [(f, MInts K fs), (c, MInts K zs)] ∧ zs.length = cs.length ∧ fs.length = n + 1 ∧ 0 ≤ m ∧ m < 2147483647) := fun zs' fs' m' g5 g6 g7 g8 Γ M e1 e2 e3 e4 e5 e6 => JA.of ⟨zs', fs', m', g5, g6, g7, g8, e1, e2, e3, e4, e5, e6⟩
      have mm0 := Int.emod_nonneg (m * 48271 + zs[jn] % 1000003 * 69621 + (n : Int) * 7919 + 11) (by decide : (2147483647 : Int) ≠ 0)
      have mm1 := Int.emod_lt_of_pos (m * 48271 + zs[jn] % 1000003 * 69621 + (n : Int) * 7919 + 11) (by decide : (0 : Int) < 2147483647)
      refine go_if (et_test (ev_op (ev_var rfl) (ev_op (ev_int (K := K)) (ev_int (K := K)) (rv_ic ⟨by decide, by decide, by decide⟩)) rv_b0)) (fun _ => ?_) fun _ => ?_
      · refine (q_app (j := 0) (ev_var rfl) (ev_op (ev_cb (ea_cons (ev_var rfl) ea_nil) rc_int) (ev_int (K := K)) (rv_ic (by trivial))) rfl rfl (by rw [List.length_map]; omega) ?_)
        refine go_setL (j := 1) (ev_op (ev_var rfl) (ev_int (K := K)) (rv_ic ⟨by decide, by decide⟩)) (ev_var rfl) (ev_var rfl) rfl (by omega) (by rw [List.length_map]; omega) ?_
        exact fin (zs.set jn (zs[jn] / 1000)) (fs ++ [zs[jn] % 1000]) _ _ _ _ _ _ _ rfl (by simp [MInts, List.map_set]) (by rw [List.length_set]; exact hz) (by rw [List.length_append, hfl]; rfl) mm0 mm1
      · refine go_app (j := 0) (ev_var rfl) (ev_op (ev_cb (ea_cons (ev_var rfl) ea_nil) rc_int) (ev_int (K := K)) (rv_ic (by trivial))) rfl rfl (by rw [List.length_map]; omega) ?_
        exact fin zs (fs ++ [_]) _ _ _ _ _ _ _ rfl (by simp [MInts]; rfl) hz (by rw [List.length_append, hfl]; rfl) mm0 mm1
    · rintro _ _ ⟨zs, fs, m, g5, g6, g7, g8, rfl, rfl, hz, hfl, m0, m1⟩
      refine (q_rev (j := 0) (ev_var rfl) rfl ?_)
      refine nx_drop (List.Sublist.cons₂ _ (List.nil_sublist _)) ?_
      refine go_retO Le.refl (ev_var rfl) hf rfl (RtN.to k fun F o h => ⟨fs.reverse, by rw [List.length_reverse]; omega, ?_⟩)
      rw [← List.map_reverse] at h
      exact h
theorem use__law_draws {T : Txt K mg} {tr : TA} {Γ : Gm} {M M1 : Ms} {ns : List Int} {c : Int} {X : XK} (h : EvA tr Γ M [PLi K (ns.map fun n => D K (.int n)), D K (.int c)] M1) (h0 : 0 ≤ c) (h1 : c ≤ 1000) (h2 : ns.length ≤ 1000) : EvN (tCall (sp__law_draws T) [] X tr) Γ M (MDr K) M1 :=
  calln0 h fun vs H Q z => ⟨ns, c, h0, h1, h2, z⟩
/-! ### _check_letter -/
theorem sc__check_letter : FnScope ["places", "row", "place", "index"] ["places", "row"] (defScope s__check_letter) := ⟨rfl, rfl, rfl, by decide +kernel, rfl, by decide +kernel, by decide +kernel⟩
def sp__check_letter (T : Txt K mg) : Sp := fun vs H Q _ => ∃ (k : Int) (l : List Int), (l ≠ [] ∧ l.Pairwise (· < ·) ∧ (∀ x ∈ l, 0 ≤ x ∧ x < k) ∧ l.length ≤ 1000) ∧ Prom [D K (.int k), D K (dT l)] [] (D K .none) [] vs H Q
theorem sp__check_letter_len {T : Txt K mg} {vs H Q E} (h : sp__check_letter T vs H Q E) : vs.length = 2 := by obtain ⟨_, _, _, h⟩ := h; exact h.len
set_option maxHeartbeats 4000000 in
theorem ok__check_letter (T : Txt K mg) : FnOk P wo K mg base CX0 1 T.f__check_letter T.d__check_letter ["places", "row"] (sp__check_letter T) := by
  have nd := (sc__check_letter).nd
  refine T.F__check_letter.ok sc__check_letter (fun vs H Q E h => (sp__check_letter_len h)) (fun cdv A outer s H vs Q E hr h => ?_)
  obtain ⟨n, l, ⟨h1, h2, h3, h4⟩, F, w, p, k⟩ := h
  refine ⟨_, (pss_cons (ps_if (pt_cmpR op_eq (pe_callB (c_len (K := K) rfl) (by rfl) T.z_len PySem.boot_len (pa_cons (pv 1) pa_nil)) pe_int (nomark _)) (pss_one ps_never) pss_nil)
    (pss_cons (ps_for PassesOwn.never rfl (pi_tupK (K := K) rfl (pv 1)) (pg_name (i := 2) nd rfl (by first | exact Or.inl rfl | exact Or.inr rfl))
     (pss_one (ps_if (pt_not (pt_chain op_le op_lt pe_int (pv 2) (pv 0))) (pss_one ps_never) pss_nil)))
    (pss_one (ps_for PassesOwn.never rfl (pi_range2 (by rfl) T.z_range (pa_cons pe_int (pa_cons (pe_callB (c_len (K := K) rfl) (by rfl) T.z_len PySem.boot_len (pa_cons (pv 1) pa_nil)) pa_nil))) (pg_name (i := 3) nd rfl (by first | exact Or.inl rfl | exact Or.inr rfl))
     (pss_one (ps_if (pt_cmpR op_ge (pe_ix (c_ix (K := K) rfl) (pv 1) (pe_op op_sub (pv 3) pe_int) (fun _ _ => rfl)) (pe_ix (c_ix (K := K) rfl) (pv 1) (pv 3) (fun _ _ => rfl)) (nomark _)) (pss_one ps_never) pss_nil)))))), ?_⟩
  refine go_start w p (Γ := [some (D K (.int n)), some (D K (dT l)), none, none]) rfl ?_
  have hlen : 0 < l.length := List.length_pos_iff.mpr h1
  have evlen : ∀ {Γ : Gm}, Γ[1]? = some (some (D K (dT l))) → Ev (tCB (fun xs H Q => ∃ p ys, xs = [.ref p] ∧ (SqL K H p ys ∨ SqT K H p ys) ∧ Q (.int ys.length) H) (tCons (tVar 1) tNil)) Γ [] (D K (.int l.length)) [] := fun e => by
    have := ev_cb (ea_cons (ev_var e) ea_nil) (rc_lenDT (K := K) (ds := l.map PyData.int) (M := []))
    rw [List.length_map] at this
    exact this
  refine (q_if (et_test (ev_op (evlen rfl) (ev_int (K := K)) rv_eqI)) (fun hz => absurd hz (by simp; omega)) fun _ => go_next ?_)
  refine (q_forT ((ev_var rfl).weak le_dT) (fun _ Γ M => ∃ g2 g3 : Option MP, Γ = [some (D K (.int n)), some (D K (dT l)), g2, g3] ∧ M = []) ⟨none, none, rfl, rfl⟩ ?_ ?_)
  · rintro E' hE i P hP _ _ ⟨g2, g3, rfl, rfl⟩
    rw [List.getElem?_map] at hP
    obtain ⟨x, hx, rfl⟩ := Option.map_eq_some_iff.mp hP
    have hr := h3 x (List.mem_of_getElem? hx)
    refine go_if (et_not (et_test (ev_chain (ev_int (K := K)) (ev_var rfl) rv_b0 (fun _ => (ev_var rfl)) rv_b0))) (fun hz => absurd hz (by simp; omega)) fun _ => go_next (JA.of ⟨_, _, rfl, rfl⟩)
  · rintro _ _ ⟨g2, g3, rfl, rfl⟩
    refine go_forR2 (ea_cons (ev_int (K := K)) (ea_cons (evlen rfl) ea_nil)) (by omega) (fun _ Γ M => ∃ g2 g3 : Option MP, Γ = [some (D K (.int n)), some (D K (dT l)), g2, g3] ∧ M = []) ⟨g2, g3, rfl, rfl⟩ ?_ ?_
    · rintro i hi _ _ ⟨g2, g3, rfl, rfl⟩
      have a1 : i + 1 < l.length := by omega
      have e1 : (l.map PyData.int)[((1 + (i : Int)) - 1).toNat]? = some (.int l[i]) := by
        rw [show ((1 + (i : Int)) - 1).toNat = i by omega, List.getElem?_map, List.getElem?_eq_getElem (by omega)]; rfl
      have e2 : (l.map PyData.int)[(1 + (i : Int)).toNat]? = some (.int l[i + 1]) := by
        rw [show (1 + (i : Int)).toNat = i + 1 by omega, List.getElem?_map, List.getElem?_eq_getElem a1]; rfl
      have lt : l[i] < l[i + 1] := List.pairwise_iff_getElem.mp h2 i (i + 1) (by omega) a1 (by omega)
      refine go_if (et_test (ev_op (ev_op (ev_var rfl) (ev_op (ev_var rfl) (ev_int (K := K)) rv_i0) (rv_ixDT (by omega) e1)) (ev_op (ev_var rfl) (ev_var rfl) (rv_ixDT (by omega) e2)) rv_b0)) (fun hz => absurd hz (by simp; omega)) fun _ => go_next (JA.of ⟨_, _, rfl, rfl⟩)
    · rintro _ _ ⟨g2, g3, rfl, rfl⟩
      exact fun σ H' ⟨F', a, b⟩ => k .non F' H' a .non
theorem use__check_letter {T : Txt K mg} {tr : TA} {Γ : Gm} {M M1 : Ms} {k : Int} {l : List Int} {X : XK} (h : EvA tr Γ M [D K (.int k), D K (dT l)] M1) (hl : l ≠ [] ∧ l.Pairwise (· < ·) ∧ (∀ x ∈ l, 0 ≤ x ∧ x < k) ∧ l.length ≤ 1000) : Ev (tCall (sp__check_letter T) [] X tr) Γ M (D K .none) M1 :=
  call0 h fun vs H Q z => ⟨k, l, hl, z⟩
/-! ### Alphabet.__init__ -/
theorem sc_Alphabet_init : FnScope ["self", "places", "letters", "rows", "row"] ["self", "places", "letters"] (defScope s_Alphabet_init) := ⟨rfl, rfl, rfl, by decide +kernel, rfl, by decide +kernel, by decide +kernel⟩
abbrev alF (K : PySem.W.Frag) (k : Int) (ls : Lets) : List (Str × MP) := [("letters", D K (dTT ls)), ("places", D K (.int k))]
/-- an alphabet that stands -/
abbrev PAl (T : Txt K mg) (k : Int) (ls : Lets) : MP := PIns T.c_Alphabet (alF K k ls)
def sp_Alphabet_init (T : Txt K mg) : Sp := fun vs H Q _ => ∃ (x : Addr) (k : Int) (ls : Lets), AlphaOk k ls ∧ Prom [Own x, D K (.int k), PLi K (ls.map fun l => D K (dT l))] [(x, MIns T.c_Alphabet 0 [])] (D K .none) [(x, MIns T.c_Alphabet 2 (alF K k ls))] vs H Q
theorem sp_Alphabet_init_len {T : Txt K mg} {vs H Q E} (h : sp_Alphabet_init T vs H Q E) : vs.length = 3 := by obtain ⟨_, _, _, _, h⟩ := h; exact h.len
theorem pw_len {l : List Int} {k : Int} (h2 : l.Pairwise (· < ·)) (h3 : ∀ x ∈ l, 0 ≤ x ∧ x < k) (hk : 0 ≤ k) : (l.length : Int) ≤ k := by
  have key : ∀ (l : List Int) (lo : Int), l.Pairwise (· < ·) → (∀ x ∈ l, lo ≤ x ∧ x < k) → lo ≤ k → (l.length : Int) ≤ k - lo := by
    intro l
    induction l with
    | nil => intro lo _ _ h; simp; omega
    | cons a l ih =>
      intro lo h1 h2 h3
      have ha := h2 a List.mem_cons_self
      have := ih (a + 1) (List.pairwise_cons.mp h1).2 (fun x hx => ⟨(List.pairwise_cons.mp h1).1 x hx, (h2 x (List.mem_cons_of_mem _ hx)).2⟩) (by omega)
      rw [List.length_cons]; omega
  have := key l 0 h2 h3 hk
  omega
set_option maxHeartbeats 4000000 in
theorem ok_Alphabet_init (T : Txt K mg) : FnOk P wo K mg base CX0 2 T.f_Alphabet_init T.d_Alphabet_init ["self", "places", "letters"] (sp_Alphabet_init T) := by
  have nd := (sc_Alphabet_init).nd
  refine T.F_Alphabet_init.ok sc_Alphabet_init (fun vs H Q E h => (sp_Alphabet_init_len h)) (fun cdv A outer s H vs Q E hr h => ?_)
  obtain ⟨x, n, ls, ok, F, w, p, k⟩ := h
  refine ⟨_, (pss_cons (ps_set (i := 3) nd rfl (Or.inl rfl) (pe_callTy (c_tuple (K := K) rfl) (by rfl) T.z_tuple (by decide +kernel) (pa_cons (pe_lc (own := [("row", 4)]) (by rfl) nd (pi_listK (K := K) rfl (pv 2)) (blkOk_by (N := ["self", "places", "letters", "rows", "row"]) (sc := defScope s_Alphabet_init) (own := [("row", 4)]) (by decide +kernel)) (fun _ _ _ _ _ => pg_name (i := 4) nd rfl (by first | exact Or.inl rfl | exact Or.inr rfl)) (fun _ _ _ _ _ => pts_nil) (fun _ _ _ _ _ => (pe_callTy (c_tuple (K := K) rfl) (by rfl) T.z_tuple (by decide +kernel) (pa_cons (pv 4) pa_nil)))) pa_nil)))
    (pss_cons (ps_if (pt_not (pt_chain op_le op_le pe_int (pv 1) (pe_glob (v := .int 4) rfl T.v_MOST_PLACES ⟨_, rfl⟩))) (pss_one ps_never) pss_nil)
    (pss_cons (ps_if (pt_not (pt_chain op_le op_le pe_int (pe_callB (c_len (K := K) rfl) (by rfl) T.z_len PySem.boot_len (pa_cons (pv 3) pa_nil)) (pe_glob (v := .int 6) rfl T.v_MOST_LETTERS ⟨_, rfl⟩))) (pss_one ps_never) pss_nil)
    (pss_cons (ps_for PassesOwn.never rfl (pi_tupK (K := K) rfl (pv 3)) (pg_name (i := 4) nd rfl (by first | exact Or.inl rfl | exact Or.inr rfl))
     (pss_one (ps_expr (pe_call (ok__check_letter T) (hr.mono (by decide)) rfl T.m__check_letter T.F__check_letter.kp T.b__check_letter .nil pass0 (pa_cons (pv 1) (pa_cons (pv 4) pa_nil))))))
    (pss_cons (ps_fld (pv 0) (pv 1) rfl)
    (pss_one (ps_fld (pv 0) (pv 3) rfl))))))), ?_⟩
  refine go_start w p (Γ := [some (Own x), some (D K (.int n)), some (PLi K (ls.map fun l => D K (dT l))), none, none]) rfl ?_
  have okl : ∀ l ∈ ls, l ≠ [] ∧ l.Pairwise (· < ·) ∧ (∀ x ∈ l, 0 ≤ x ∧ x < n) ∧ l.length ≤ 1000 := fun l hl => by
    obtain ⟨h1, h2, h3⟩ := ok.ok l hl
    have := pw_len h2 h3 (by have := ok.k1; omega)
    have := ok.k4
    exact ⟨h1, h2, h3, by omega⟩
  have h1 := ok.k1; have h4 := ok.k4; have h5 := ok.l1; have h6 := ok.l6
  have lcomp := evn_lcL (K := K) (xs := ls) (R := fun l => D K (dT l)) (G := fun l => D K (dT l)) (i := 4) (M := [(x, MIns T.c_Alphabet 0 [])]) (M1 := [(x, MIns T.c_Alphabet 0 [])]) (Γ := [some (Own x), some (D K (.int n)), some (PLi K (ls.map fun l => D K (dT l))), none, none]) (fun _ => true) (ev_var (i := 2) rfl) (by omega) (fun _ _ => et_yes) (fun l _ _ => (ev_cb (ea_cons ((ev_var (i := 4) rfl).weak le_dT) ea_nil) rc_tupleT).weak dT_le)
  rw [filter_true] at lcomp
  refine (q_asg ((ev_cb (ea_cons (ev_newL lcomp) ea_nil) rc_tupleL).weak Tm_le) ?_)
  show Nx _ [some (Own x), some (D K (.int n)), some (PLi K (ls.map fun l => D K (dT l))), some (D K (dTT ls)), none] _ _
  refine (q_if (et_not (et_test (ev_chain (ev_int (K := K)) (ev_var rfl) rv_b0 (fun _ => (ev_int (K := K))) rv_b0))) (fun hz => absurd hz (by simp; omega)) fun _ => go_next ?_)
  refine (q_if (et_not (et_test (ev_chain (ev_int (K := K)) (ev_cb (ea_cons (ev_var rfl) ea_nil) (rc_lenDT (ds := ls.map dT))) rv_b0 (fun _ => (ev_int (K := K))) rv_b0))) (fun hz => absurd hz (by simp; omega)) fun _ => go_next ?_)
  refine (q_forT ((ev_var rfl).weak le_Tm) (fun _ Γ M => ∃ g4 : Option MP, Γ = [some (Own x), some (D K (.int n)), some (PLi K (ls.map fun l => D K (dT l))), some (D K (dTT ls)), g4] ∧ M = [(x, MIns T.c_Alphabet 0 [])]) ⟨none, rfl, rfl⟩ ?_ ?_)
  · rintro E' hE i P hP _ _ ⟨g4, rfl, rfl⟩
    rw [List.getElem?_map] at hP
    obtain ⟨l, hx, rfl⟩ := Option.map_eq_some_iff.mp hP
    exact go_drop (use__check_letter (ea_cons (ev_var rfl) (ea_cons (ev_var rfl) ea_nil)) (okl l (List.mem_of_getElem? hx))) (JA.of ⟨_, rfl, rfl⟩)
  · rintro _ _ ⟨g4, rfl, rfl⟩
    refine (q_fld (j := 0) (n := 0) (fps := []) (ev_var rfl) (ev_var rfl) rfl (by decide) (fun _ h => by cases h) T.cl_Alphabet T.na_Alphabet_places ?_)
    refine go_fld (j := 0) (n := 1) (ev_var rfl) (ev_var rfl) rfl (by decide) (fun g h => by rw [List.mem_singleton.mp h]; show ("places" : Str) ≠ "letters"; decide +kernel) T.cl_Alphabet T.na_Alphabet_letters ?_
    exact fun σ H' ⟨F', a, b⟩ => k .non F' H' a .non
theorem use_Alphabet {T : Txt K mg} {tr : TA} {Γ : Gm} {M M1 : Ms} {k : Int} {ls : Lets} {X : XK} (h : EvA tr Γ M [D K (.int k), PLi K (ls.map fun l => D K (dT l))] M1) (ok : AlphaOk k ls) : Ev (tMake T.c_Alphabet (sp_Alphabet_init T) [] X tr) Γ M (PAl T k ls) M1 :=
  (ev_fr (make0 h fun x vs H Q z => ⟨x, k, ls, ok, z⟩)).weak fr_Ins
/-! ### _law_free -/
theorem sc__law_free : FnScope ["letters", "first", "second", "place"] ["letters", "first", "second"] (defScope s__law_free) := ⟨rfl, rfl, rfl, by decide +kernel, rfl, by decide +kernel, by decide +kernel⟩
def sp__law_free (T : Txt K mg) : Sp := fun vs H Q _ => ∃ (ls : Lets) (a b : Int), (0 ≤ a ∧ a < ls.length ∧ 0 ≤ b ∧ b < ls.length ∧ ∀ l ∈ ls, l.length ≤ 1000) ∧ Prom [D K (dLT ls), D K (.int a), D K (.int b)] [] (D K (.bool (free ls a b))) [] vs H Q
theorem sp__law_free_len {T : Txt K mg} {vs H Q E} (h : sp__law_free T vs H Q E) : vs.length = 3 := by obtain ⟨_, _, _, _, h⟩ := h; exact h.len
set_option maxHeartbeats 4000000 in
theorem ok__law_free (T : Txt K mg) : FnOk P wo K mg base CX0 1 T.f__law_free T.d__law_free ["letters", "first", "second"] (sp__law_free T) := by
  have nd := (sc__law_free).nd
  refine T.F__law_free.ok sc__law_free (fun vs H Q E h => (sp__law_free_len h)) (fun cdv A outer s H vs Q E hr h => ?_)
  obtain ⟨ls, a, b, ⟨a0, a1, b0, b1, hl⟩, F, w, p, k⟩ := h
  refine ⟨_, (pss_one (ps_ret (pe_cmpR op_eq (pe_callB (c_len (K := K) rfl) (by rfl) T.z_len PySem.boot_len (pa_cons (pe_lc (own := [("place", 3)]) (by rfl) nd (pi_tupK (K := K) rfl (pe_ix (c_ix (K := K) rfl) (pv 0) (pv 1) (fun _ _ => rfl))) (blkOk_by (N := ["letters", "first", "second", "place"]) (sc := defScope s__law_free) (own := [("place", 3)]) (by decide +kernel)) (fun _ _ _ _ _ => pg_name (i := 3) nd rfl (by first | exact Or.inl rfl | exact Or.inr rfl)) (fun _ _ _ _ _ => (pts_one (pt_cmpR (c_in (K := K) rfl) (pv 3) (pe_ix (c_ix (K := K) rfl) (pv 0) (pv 2) (fun _ _ => rfl)) (by rfl)))) (fun _ _ _ _ _ => (pv 3))) pa_nil)) pe_int (nomark _)))), ?_⟩
  refine go_start w p (Γ := [some (D K (dLT ls)), some (D K (.int a)), some (D K (.int b)), none]) rfl ?_
  have ha : (ls.map dT)[a.toNat]? = some (dT (pl ls a)) := by rw [List.getElem?_map, pl_get a0 a1]; rfl
  have hb : (ls.map dT)[b.toNat]? = some (dT (pl ls b)) := by rw [List.getElem?_map, pl_get b0 b1]; rfl
  have lcomp := evn_lcT (K := K) (xs := pl ls a) (R := fun x => D K (.int x)) (G := fun x => D K (.int x)) (i := 3) (M := []) (M1 := []) (Γ := [some (D K (dLT ls)), some (D K (.int a)), some (D K (.int b)), none]) (fun x => decide (x ∈ pl ls b)) ((ev_op (ev_var (i := 0) rfl) (ev_var (i := 1) rfl) (rv_ixDL (K := K) (ds := ls.map dT) a0 ha)).weak le_dT) (by have := hl _ (pl_mem a0 a1); omega)
    (fun x _ => et_test (ev_op (ev_var (i := 3) rfl) (ev_op (ev_var (i := 0) rfl) (ev_var (i := 2) rfl) (rv_ixDL (K := K) (ds := ls.map dT) b0 hb)) (rv_inT (neg := false)))) (fun x _ _ => ev_var (i := 3) rfl)
  refine go_ret Le.refl ((ev_op (ev_cb (ea_cons (ev_newL lcomp) ea_nil) rc_len) (ev_int (K := K)) rv_eqI).is ?_) k
  rw [List.length_map, disj_filter]
  rfl
theorem use__law_free {T : Txt K mg} {tr : TA} {Γ : Gm} {M M1 : Ms} {ls : Lets} {a b : Int} {X : XK} (h : EvA tr Γ M [D K (dLT ls), D K (.int a), D K (.int b)] M1) (hl : 0 ≤ a ∧ a < ls.length ∧ 0 ≤ b ∧ b < ls.length ∧ ∀ l ∈ ls, l.length ≤ 1000) : Ev (tCall (sp__law_free T) [] X tr) Γ M (D K (.bool (free ls a b))) M1 :=
  call0 h fun vs H Q z => ⟨ls, a, b, hl, z⟩
/-! ### _law_alphabet -/
theorem sc__law_alphabet : FnScope ["draws", "places", "most", "count", "letters", "k", "size", "there", "j"] ["draws", "places", "most"] (defScope s__law_alphabet) := ⟨rfl, rfl, rfl, by decide +kernel, rfl, by decide +kernel, by decide +kernel⟩
abbrev PAb (K : PySem.W.Frag) (p m : Int) : MP := PEx fun x : Int × Lets => PAn (AlphaOk x.1 x.2 ∧ x.1 ≤ p ∧ (x.2.length : Int) ≤ m) (D K (.tuple [.int x.1, dLT x.2]))
def sp__law_alphabet (T : Txt K mg) : Sp := fun vs H Q _ => ∃ (d : Addr) (p m : Int), (0 < p ∧ p ≤ 4 ∧ 0 < m ∧ m ≤ 6) ∧ Prom [Own d, D K (.int p), D K (.int m)] [(d, MDr K)] (PAb K p m) [(d, MDr K)] vs H Q
theorem sp__law_alphabet_len {T : Txt K mg} {vs H Q E} (h : sp__law_alphabet T vs H Q E) : vs.length = 3 := by obtain ⟨_, _, _, _, h⟩ := h; exact h.len
theorem sorted_ok {c : Int} {ns xs : List Int} (h : ns.Pairwise (· < ·) ∧ ∀ k, k ∈ ns ↔ k ∈ xs) (hx : ∀ x ∈ xs, 0 ≤ x ∧ x < c) (h0 : 0 < xs.length) : ns ≠ [] ∧ ns.Pairwise (· < ·) ∧ ∀ x ∈ ns, 0 ≤ x ∧ x < c := by
  refine ⟨fun e => ?_, h.1, fun x hx2 => hx x ((h.2 x).mp hx2)⟩
  subst e
  obtain ⟨y, ys, e⟩ := List.exists_cons_of_length_pos h0
  have := (h.2 y).mpr (by rw [e]; exact List.mem_cons_self)
  cases this
set_option maxHeartbeats 4000000 in
theorem ok__law_alphabet (T : Txt K mg) : FnOk P wo K mg base CX0 2 T.f__law_alphabet T.d__law_alphabet ["draws", "places", "most"] (sp__law_alphabet T) := by
  have nd := (sc__law_alphabet).nd
  refine T.F__law_alphabet.ok sc__law_alphabet (fun vs H Q E h => (sp__law_alphabet_len h)) (fun cdv A outer s H vs Q E hr h => ?_)
  obtain ⟨d, p, m, ⟨p0, p4, m0, m6⟩, F, w, ps, k⟩ := h
  refine ⟨_, (pss_cons (ps_set (i := 3) nd rfl (Or.inr rfl) (pe_op op_add pe_int (pe_call (ok__law_take T) (hr.mono (by decide)) rfl T.m__law_take T.F__law_take.kp T.b__law_take .nil pass0 (pa_cons (pv 0) (pa_cons (pv 1) pa_nil)))))
    (pss_cons (ps_set (i := 4) nd rfl (Or.inl rfl) (pe_lst pa_nil))
    (pss_cons (ps_for PassesOwn.never rfl (pi_range1 (by rfl) T.z_range (pa_cons (pe_op op_add pe_int (pe_call (ok__law_take T) (hr.mono (by decide)) rfl T.m__law_take T.F__law_take.kp T.b__law_take .nil pass0 (pa_cons (pv 0) (pa_cons (pv 2) pa_nil)))) pa_nil)) (pg_name (i := 5) nd rfl (by first | exact Or.inl rfl | exact Or.inr rfl))
     (pss_cons (ps_set (i := 6) nd rfl (Or.inl rfl) (pe_ix (c_ix (K := K) rfl) (pe_lst (pa_cons pe_int (pa_cons pe_int (pa_cons pe_int (pa_cons pe_int (pa_cons pe_int (pa_cons pe_int pa_nil))))))) (pe_call (ok__law_take T) (hr.mono (by decide)) rfl T.m__law_take T.F__law_take.kp T.b__law_take .nil pass0 (pa_cons (pv 0) (pa_cons pe_int pa_nil))) (fun _ _ => rfl)))
     (pss_cons (ps_setLc (i := 7) (own := [("j", 8)]) (by rfl) nd rfl rfl (sw_true rfl rfl rfl (by decide +kernel)) (pi_range1 (by rfl) T.z_range (pa_cons (pv 6) pa_nil)) (blkOk_by (N := ["draws", "places", "most", "count", "letters", "k", "size", "there", "j"]) (sc := defScope s__law_alphabet) (own := [("j", 8)]) (by decide +kernel)) (fun _ _ _ _ _ => pg_name (i := 8) nd rfl (by first | exact Or.inl rfl | exact Or.inr rfl)) (fun _ _ _ _ _ => pts_nil) (fun _ _ _ _ _ => (pe_call (ok__law_take T) (hr.mono (by decide)) rfl T.m__law_take T.F__law_take.kp T.b__law_take .nil pass0 (pa_cons (pv 0) (pa_cons (pv 3) pa_nil)))))
     (pss_one (ps_expr (pe_bm PySem.F.plainAttrs_list PySem.F.slot_list_append PySem.F.type_list_append mt_append (pv 4) (pa_cons (pe_callTy (c_tuple (K := K) rfl) (by rfl) T.z_tuple (by decide +kernel) (pa_cons (pe_callB (c_sortedSet (w := wo) rfl rfl) (by rfl) T.z_sorted (by decide +kernel) (pa_cons (pe_callTy (c_set (K := K) (w := wo) rfl rfl rfl) (by rfl) T.z_set (by decide +kernel) (pa_cons (pv 7) pa_nil)) pa_nil)) pa_nil)) pa_nil)))))))
    (pss_one (ps_ret (pe_tup (pa_cons (pv 3) (pa_cons (pv 4) pa_nil)))))))), ?_⟩
  refine go_start w ps (Γ := [some (Own d), some (D K (.int p)), some (D K (.int m)), none, none, none, none, none, none]) rfl ?_
  refine (q_asg (ev_op (ev_int (K := K)) (use__law_take (ea_cons (ev_var rfl) (ea_cons (ev_var rfl) ea_nil)) p0 (j := 0) rfl) rv_addIn) (nx_ex (i := 3) rfl fun c => nx_an (i := 3) rfl fun hc => ?_))
  show Nx _ [some (Own d), some (D K (.int p)), some (D K (.int m)), some (D K (.int c)), none, none, none, none, none] _ _
  refine (q_asgN (evn_lst ea_nil (by decide)) fun l hl => ?_)
  refine (q_forRX (φ := fun z => 1 + 0 ≤ z ∧ z < 1 + m) (ev_op (ev_int (K := K)) (use__law_take (ea_cons (ev_var rfl) (ea_cons (ev_var rfl) ea_nil)) m0 (j := 1) rfl) rv_addIn) fun z hz tr' htr => ?_)
  refine (q_forR htr (by omega) (by omega) (fun n Γ M => ∃ (ls : Lets) (g5 g6 g7 g8 : Option MP), Γ = [some (Own d), some (D K (.int p)), some (D K (.int m)), some (D K (.int c)), some (Own l), g5, g6, g7, g8] ∧
    M = [(l, ML (ls.map fun x => D K (dT x))), (d, MDr K)] ∧ ls.length = n ∧ ∀ x ∈ ls, x ≠ [] ∧ x.Pairwise (· < ·) ∧ ∀ y ∈ x, 0 ≤ y ∧ y < c) ⟨[], none, none, none, none, rfl, rfl, rfl, fun _ h => by cases h⟩ ?_ ?_)
  · rintro n hn _ _ ⟨ls, g5, g6, g7, g8, rfl, rfl, hls, hok⟩
    show Nx _ [some (Own d), some (D K (.int p)), some (D K (.int m)), some (D K (.int c)), some (Own l), some (D K (.int n)), g6, g7, g8] _ _
    have pick : RV (rIx K) (PLi K [D K (.int 1), D K (.int 1), D K (.int 1), D K (.int 2), D K (.int 2), D K (.int 3)]) (PIn K 0 6) [(l, ML (ls.map fun x => D K (dT x))), (d, MDr K)] (PIn K 1 4) [(l, ML (ls.map fun x => D K (dT x))), (d, MDr K)] := RV.ex2 fun x => RV.an2 fun hx => by
      have : x = 0 ∨ x = 1 ∨ x = 2 ∨ x = 3 ∨ x = 4 ∨ x = 5 := by omega
      rcases this with rfl | rfl | rfl | rfl | rfl | rfl <;> exact (rv_ixL (by decide) rfl).weak (pin_le (by decide))
    refine (q_asg (ev_op (ev_newL (evn_lst (ea_cons (ev_int (K := K)) (ea_cons (ev_int (K := K)) (ea_cons (ev_int (K := K)) (ea_cons (ev_int (K := K)) (ea_cons (ev_int (K := K)) (ea_cons (ev_int (K := K)) ea_nil)))))) (by simp))) (use__law_take (ea_cons (ev_var rfl) (ea_cons (ev_int (K := K)) ea_nil)) (by decide) (j := 1) rfl) pick) (nx_ex (i := 6) rfl fun sz => nx_an (i := 6) rfl fun hsz => ?_))
    show Nx _ [some (Own d), some (D K (.int p)), some (D K (.int m)), some (D K (.int c)), some (Own l), some (D K (.int n)), some (D K (.int sz)), g7, g8] _ _
    have lc := evn_lcR (K := K) (z := sz) (i := 8) (G := fun _ => PIn K 0 c) (M := [(l, ML (ls.map fun x => D K (dT x))), (d, MDr K)]) (M1 := [(l, ML (ls.map fun x => D K (dT x))), (d, MDr K)]) (Γ := [some (Own d), some (D K (.int p)), some (D K (.int m)), some (D K (.int c)), some (Own l), some (D K (.int n)), some (D K (.int sz)), g7, g8]) (fun _ => true) (ea_cons (ev_var (i := 6) rfl) ea_nil) (by omega) (fun _ _ => et_yes)
      (fun _ _ _ => use__law_take (T := T) (X := E0) (ea_cons (ev_var (i := 0) rfl) (ea_cons (ev_var (i := 3) rfl) ea_nil)) (by omega) (j := 1) rfl)
    rw [filter_true, map_const, List.length_range] at lc
    refine (q_asgN (lc.weak ml_name) fun q hq => nx_exM (j := 0) rfl fun xs => nx_anM (j := 0) rfl fun hxs => ?_)
    show Nx _ [some (Own d), some (D K (.int p)), some (D K (.int m)), some (D K (.int c)), some (Own l), some (D K (.int n)), some (D K (.int sz)), some (Own q), g8] [(q, MInts K xs), (l, ML (ls.map fun x => D K (dT x))), (d, MDr K)] _
    refine go_app (j := 1) (ev_var rfl) (ev_tupOf (evn_sortedSet (ev_var (i := 7) rfl) (own_ints (j := 0) rfl) (by omega))) rfl rfl (by rw [List.length_map]; omega) (nx_lastM (j := 1) rfl fun ns hns => ?_)
    refine nx_drop (List.sublist_cons_self _ _) (JA.of ⟨ls ++ [ns], _, _, _, _, rfl, by simp, by rw [List.length_append, hls]; rfl, fun x hx => ?_⟩)
    rcases List.mem_append.mp hx with hx | hx
    · exact hok x hx
    · rw [List.mem_singleton.mp hx]
      exact sorted_ok hns (fun x hx => hxs.2 x hx) (by omega)
  · rintro _ _ ⟨ls, g5, g6, g7, g8, rfl, rfl, hls, hok⟩
    refine nx_freeze (K := K) (i := 4) 0 rfl hl rfl ?_
    show Nx _ [some (Own d), some (D K (.int p)), some (D K (.int m)), some (D K (.int c)), some (PLi K (ls.map fun x => D K (dT x))), g5, g6, g7, g8] [(d, MDr K)] _
    refine go_ret Le.refl (ev_tup (K := K) (ea_cons (ev_var (i := 3) rfl) (ea_cons (ev_var (i := 4) rfl) ea_nil)) (by simp)) (Rt.weak (MP.le_trans ?_ (MP.le_trans (PAn.in (φ := AlphaOk c ls ∧ c ≤ p ∧ (ls.length : Int) ≤ m) ⟨⟨by omega, by omega, by omega, by omega, hok⟩, by omega, by omega⟩) (PEx.in (R := fun x : Int × Lets => PAn (AlphaOk x.1 x.2 ∧ x.1 ≤ p ∧ (x.2.length : Int) ≤ m) (D K (.tuple [.int x.1, dLT x.2]))) (c, ls)))) k)
    rintro F v ⟨a, vs, e, s, h⟩
    obtain ⟨x, y, rfl, hx, hy⟩ := ps2 h
    subst e
    exact .tup s (.cons hx (.cons (Lm_le _ _ hy) .nil))
theorem use__law_alphabet {T : Txt K mg} {tr : TA} {Γ : Gm} {M M1 : Ms} {d : Addr} {p m : Int} {j : Nat} {X : XK} (h : EvA tr Γ M [Own d, D K (.int p), D K (.int m)] M1) (hn : 0 < p ∧ p ≤ 4 ∧ 0 < m ∧ m ≤ 6) (e : M1[j]? = some (d, MDr K)) : Ev (tCall (sp__law_alphabet T) [] X tr) Γ M (PAb K p m) M1 :=
  call1 h e fun vs H Q z => ⟨d, p, m, hn, z⟩
/-! ### _law_word -/
theorem sc__law_word : FnScope ["draws", "letters", "most", "k"] ["draws", "letters", "most"] (defScope s__law_word) := ⟨rfl, rfl, rfl, by decide +kernel, rfl, by decide +kernel, by decide +kernel⟩
abbrev PWd (K : PySem.W.Frag) (n m : Int) : MP := PEx fun w : List Int => PAn ((w.length : Int) ≤ m ∧ ∀ x ∈ w, 0 ≤ x ∧ x < n) (D K (dT w))
def sp__law_word (T : Txt K mg) : Sp := fun vs H Q _ => ∃ (d : Addr) (n m : Int), (0 < n ∧ 0 ≤ m ∧ m ≤ 1000) ∧ Prom [Own d, D K (.int n), D K (.int m)] [(d, MDr K)] (PWd K n m) [(d, MDr K)] vs H Q
theorem sp__law_word_len {T : Txt K mg} {vs H Q E} (h : sp__law_word T vs H Q E) : vs.length = 3 := by obtain ⟨_, _, _, _, h⟩ := h; exact h.len
set_option maxHeartbeats 4000000 in
theorem ok__law_word (T : Txt K mg) : FnOk P wo K mg base CX0 2 T.f__law_word T.d__law_word ["draws", "letters", "most"] (sp__law_word T) := by
  have nd := (sc__law_word).nd
  refine T.F__law_word.ok sc__law_word (fun vs H Q E h => (sp__law_word_len h)) (fun cdv A outer s H vs Q E hr h => ?_)
  obtain ⟨d, n, m, ⟨n0, m0, m6⟩, F, w, ps, k⟩ := h
  refine ⟨_, (pss_one (ps_ret (pe_callTy (c_tuple (K := K) rfl) (by rfl) T.z_tuple (by decide +kernel) (pa_cons (pe_lc (own := [("k", 3)]) (by rfl) nd (pi_range1 (by rfl) T.z_range (pa_cons (pe_call (ok__law_take T) (hr.mono (by decide)) rfl T.m__law_take T.F__law_take.kp T.b__law_take .nil pass0 (pa_cons (pv 0) (pa_cons (pe_op op_add (pv 2) pe_int) pa_nil))) pa_nil)) (blkOk_by (N := ["draws", "letters", "most", "k"]) (sc := defScope s__law_word) (own := [("k", 3)]) (by decide +kernel)) (fun _ _ _ _ _ => pg_name (i := 3) nd rfl (by first | exact Or.inl rfl | exact Or.inr rfl)) (fun _ _ _ _ _ => pts_nil) (fun _ _ _ _ _ => (pe_call (ok__law_take T) (hr.mono (by decide)) rfl T.m__law_take T.F__law_take.kp T.b__law_take .nil pass0 (pa_cons (pv 0) (pa_cons (pv 1) pa_nil))))) pa_nil)))), ?_⟩
  refine go_start w ps (Γ := [some (Own d), some (D K (.int n)), some (D K (.int m)), none]) rfl ?_
  have inn : EvN _ [some (Own d), some (D K (.int n)), some (D K (.int m)), none] [(d, MDr K)] (MX fun xs : List Int => MA (((xs.length : Int) ≤ m) ∧ ∀ x ∈ xs, 0 ≤ x ∧ x < n) (MInts K xs)) [(d, MDr K)] := evn_lcRX (K := K) (φ := fun z => 0 ≤ z ∧ z < m + 1) (use__law_take (T := T) (X := E0) (j := 0) (ea_cons (ev_var (i := 0) rfl) (ea_cons (ev_op (ev_var (i := 2) rfl) (ev_int (K := K)) rv_i0) ea_nil)) (by omega) rfl) fun z hz => by
    have lc := evn_lcR (K := K) (z := z) (i := 3) (G := fun _ => PIn K 0 n) (M := [(d, MDr K)]) (M1 := [(d, MDr K)]) (Γ := [some (Own d), some (D K (.int n)), some (D K (.int m)), none]) (fun _ => true) (ea_cons (ev_int (K := K)) ea_nil) (by omega) (fun _ _ => et_yes)
      (fun _ _ _ => use__law_take (T := T) (X := E0) (ea_cons (ev_var (i := 0) rfl) (ea_cons (ev_var (i := 1) rfl) ea_nil)) n0 (j := 0) rfl)
    rw [filter_true, map_const, List.length_range] at lc
    exact (lc.weak ml_name).weak fun F o ⟨xs, h, q⟩ => ⟨xs, ⟨by omega, h.2⟩, q⟩
  refine go_ret Le.refl (ev_tupOf inn) k
theorem use__law_word {T : Txt K mg} {tr : TA} {Γ : Gm} {M M1 : Ms} {d : Addr} {p m : Int} {j : Nat} {X : XK} (h : EvA tr Γ M [Own d, D K (.int p), D K (.int m)] M1) (hn : 0 < p ∧ 0 ≤ m ∧ m ≤ 1000) (e : M1[j]? = some (d, MDr K)) : Ev (tCall (sp__law_word T) [] X tr) Γ M (PWd K p m) M1 :=
  call1 h e fun vs H Q z => ⟨d, p, m, hn, z⟩
/-! ### _law_is_integer -/
theorem sc__law_is_integer : FnScope ["actual"] ["actual"] (defScope s__law_is_integer) := ⟨rfl, rfl, rfl, by decide +kernel, rfl, by decide +kernel, by decide +kernel⟩
def sp__law_is_integer (T : Txt K mg) : Sp := fun vs H Q _ => ∃ (i : Int), Prom [D K (.int i)] [] (D K (.bool true)) [] vs H Q
theorem sp__law_is_integer_len {T : Txt K mg} {vs H Q E} (h : sp__law_is_integer T vs H Q E) : vs.length = 1 := by obtain ⟨_, h⟩ := h; exact h.len
set_option maxHeartbeats 4000000 in
theorem ok__law_is_integer (T : Txt K mg) : FnOk P wo K mg base CX0 1 T.f__law_is_integer T.d__law_is_integer ["actual"] (sp__law_is_integer T) := by
  have nd := (sc__law_is_integer).nd
  refine T.F__law_is_integer.ok sc__law_is_integer (fun vs H Q E h => (sp__law_is_integer_len h)) (fun cdv A outer s H vs Q E hr h => ?_)
  obtain ⟨i, F, w, ps, k⟩ := h
  refine ⟨_, (pss_one (ps_ret (pe_and (pe_callB (c_isi (K := K) rfl) (by rfl) T.z_isinstance (by decide +kernel) (pa_cons (pv 0) (pa_cons (pe_bltn (v := .ty "int") (by rfl) T.z_int (by decide +kernel) rfl) pa_nil))) (pe_one (pe_not (pe_callB (c_isi (K := K) rfl) (by rfl) T.z_isinstance (by decide +kernel) (pa_cons (pv 0) (pa_cons (pe_bltn (v := .ty "bool") (by rfl) T.z_bool (by decide +kernel) rfl) pa_nil)))))))), ?_⟩
  refine go_start w ps (Γ := [some (D K (.int i))]) rfl ?_
  exact go_ret Le.refl (ev_andV (ev_cb (ea_cons (ev_var rfl) (ea_cons ev_pv ea_nil)) (rc_isi (d := .int i) (b := true) (by show kitB "int" "int" = some true; decide +kernel))) fun _ => ev_notV (ev_cb (ea_cons (ev_var rfl) (ea_cons ev_pv ea_nil)) (rc_isi (d := .int i) (b := false) (by show kitB "int" "bool" = some false; decide +kernel)))) k
theorem use__law_is_integer {T : Txt K mg} {tr : TA} {Γ : Gm} {M M1 : Ms} {i : Int} {X : XK} (h : EvA tr Γ M [D K (.int i)] M1) : Ev (tCall (sp__law_is_integer T) [] X tr) Γ M (D K (.bool true)) M1 :=
  call0 h fun vs H Q z => ⟨i, z⟩
end
end My
namespace My
open PySem L2 Hq
local macro_rules | `(tactic| trivial) => `(tactic| omega)
section
variable {P : Program} {wo : World} {K : PySem.W.Frag} {mg : Str → Option Value} {base : Heap}
/-! ### mask_of -/
theorem sc_mask_of : FnScope ["bits", "mask", "bit"] ["bits"] (defScope s_mask_of) := ⟨rfl, rfl, rfl, by decide +kernel, rfl, by decide +kernel, by decide +kernel⟩
def maskF (l : List Int) : Nat := l.foldl (fun m p => m ||| 2 ^ p.toNat) 0
theorem maskF_ok {l : List Int} (h : ∀ p ∈ l, 0 ≤ p) : MaskOf (maskF l) l := by
  have key : ∀ n, n ≤ l.length → MaskOf (maskF (l.take n)) (l.take n) := by
    intro n
    induction n with
    | zero => intro _ p; simp [maskF]
    | succ n ih =>
      intro hn
      have hx : l[n]? = some l[n] := List.getElem?_eq_getElem (by omega)
      obtain ⟨m, hm⟩ := Int.eq_ofNat_of_zero_le (h l[n] (List.getElem_mem _))
      have e : maskF (l.take (n + 1)) = maskF (l.take n) ||| 2 ^ m := by
        unfold maskF
        rw [List.take_add_one, hx, Option.toList_some, List.foldl_append, hm]; simp
      rw [e, List.take_add_one, hx, Option.toList_some, hm]
      exact mask_add (ih (by omega))
  have := key l.length (Nat.le_refl _)
  rwa [List.take_length] at this
def sp_mask_of (T : Txt K mg) : Sp := fun vs H Q _ => ∃ (l : List Int) (b : Bool), ((∀ p ∈ l, 0 ≤ p ∧ p < 60) ∧ l.length ≤ 1000) ∧ Prom [D K (dW b l)] [] (D K (.int (maskF l : Nat))) [] vs H Q
theorem sp_mask_of_len {T : Txt K mg} {vs H Q E} (h : sp_mask_of T vs H Q E) : vs.length = 1 := by obtain ⟨_, _, _, h⟩ := h; exact h.len
set_option maxHeartbeats 4000000 in
theorem ok_mask_of (T : Txt K mg) : FnOk P wo K mg base CX0 1 T.f_mask_of T.d_mask_of ["bits"] (sp_mask_of T) := by
  have nd := (sc_mask_of).nd
  refine T.F_mask_of.ok sc_mask_of (fun vs H Q E h => (sp_mask_of_len h)) (fun cdv A outer s H vs Q E hr h => ?_)
  obtain ⟨l, b, ⟨lok, ll⟩, F, w, ps, k⟩ := h
  refine ⟨_, (pss_cons (ps_set (i := 1) nd rfl (Or.inl rfl) pe_int)
    (pss_cons (ps_for PassesOwn.never rfl (pi_or (pi_tupK (K := K) rfl (pv 0)) (pi_listK (K := K) rfl (pv 0))) (pg_name (i := 2) nd rfl (by first | exact Or.inl rfl | exact Or.inr rfl))
     (pss_one (ps_set (i := 1) nd rfl (Or.inl rfl) (pe_op op_or (pv 1) (pe_op op_shl pe_int (pv 2))))))
    (pss_one (ps_ret (pv 1))))), ?_⟩
  refine go_start w ps (Γ := [some (D K (dW b l)), none, none]) rfl ?_
  refine (q_asg (ev_int (K := K) (i := 0)) ?_)
  dsimp only [List.set]
  refine (q_forW (v := 0) rfl (fun j Γ M => ∃ (g2 : Option MP), Γ = [some (D K (dW b l)), some (D K (.int (maskF (l.take j) : Nat))), g2] ∧ M = []) ⟨none, rfl, rfl⟩ ?_ ?_)
  · rintro E2 hE2 j p hp _ _ ⟨g2, rfl, rfl⟩
    have hp2 := lok p (List.mem_of_getElem? hp)
    obtain ⟨pn, rfl⟩ := Int.eq_ofNat_of_zero_le hp2.1
    dsimp only [List.set]
    refine go_asg (P := D K (.int (maskF (l.take (j + 1)) : Nat))) ((ev_op (ev_var (i := 1) rfl) (ev_op (ev_int (K := K) (i := 1)) (ev_var (i := 2) rfl) (rv_ic (C := CPow) (g := fun i j => i * 2 ^ j.toNat) ⟨by omega, by omega, by decide⟩)) (rv_i0 (g := PySem.Builtin.bitOr))).is ?_) (JA.of ⟨_, rfl, rfl⟩)
    have e : PySem.Builtin.bitOr ((maskF (l.take j) : Nat) : Int) (1 * 2 ^ ((pn : Int)).toNat) = ((maskF (l.take j) ||| 2 ^ pn : Nat) : Int) := by
      rw [Int.toNat_natCast, Int.one_mul, show ((2 : Int) ^ pn) = ((2 ^ pn : Nat) : Int) by simp, bor_nat]
    rw [e]
    congr 3
    unfold maskF
    rw [List.take_add_one, hp, Option.toList_some, List.foldl_append]; rfl
  · rintro _ _ ⟨g2, rfl, rfl⟩
    rw [List.take_length]
    exact go_ret Le.refl (ev_var (i := 1) rfl) k
theorem use_mask_of {T : Txt K mg} {tr : TA} {Γ : Gm} {M M1 : Ms} {l : List Int} {b : Bool} {X : XK} (h : EvA tr Γ M [D K (dW b l)] M1) (hn : (∀ p ∈ l, 0 ≤ p ∧ p < 60) ∧ l.length ≤ 1000) : Ev (tCall (sp_mask_of T) [] X tr) Γ M (D K (.int (maskF l : Nat))) M1 :=
  call0 h fun vs H Q z => ⟨l, b, hn, z⟩
/-! ### place_masks -/
theorem sc_place_masks : FnScope ["alphabet", "row"] ["alphabet"] (defScope s_place_masks) := ⟨rfl, rfl, rfl, by decide +kernel, rfl, by decide +kernel, by decide +kernel⟩
/-- a list of masks, one for each letter -/
def MasksOk (ls : Lets) (ms : List Nat) : Prop := ms.length = ls.length ∧ ∀ i, i < ls.length → MaskOf (ms.getD i 0) (ls.getD i [])
abbrev dN (l : List Nat) : PyData := dL (l.map fun n : Nat => (n : Int))
abbrev PMk (K : PySem.W.Frag) (ls : Lets) : MP := PEx fun ms : List Nat => PAn (MasksOk ls ms) (D K (dN ms))
def sp_place_masks (T : Txt K mg) : Sp := fun vs H Q _ => ∃ (k : Int) (ls : Lets), AlphaOk k ls ∧ Prom [PAl T k ls] [] (PMk K ls) [] vs H Q
theorem sp_place_masks_len {T : Txt K mg} {vs H Q E} (h : sp_place_masks T vs H Q E) : vs.length = 1 := by obtain ⟨_, _, _, h⟩ := h; exact h.len
set_option maxHeartbeats 4000000 in
theorem ok_place_masks (T : Txt K mg) : FnOk P wo K mg base CX0 2 T.f_place_masks T.d_place_masks ["alphabet"] (sp_place_masks T) := by
  have nd := (sc_place_masks).nd
  refine T.F_place_masks.ok sc_place_masks (fun vs H Q E h => (sp_place_masks_len h)) (fun cdv A outer s H vs Q E hr h => ?_)
  obtain ⟨n, ls, A, F, w, ps, k⟩ := h
  refine ⟨_, (pss_one (ps_ret (pe_lc (own := [("row", 1)]) (by rfl) nd (pi_tupK (K := K) rfl (c_fld (K := K) rfl (pv 0) rfl)) (blkOk_by (N := ["alphabet", "row"]) (sc := defScope s_place_masks) (own := [("row", 1)]) (by decide +kernel)) (fun _ _ _ _ _ => pg_name (i := 1) nd rfl (by first | exact Or.inl rfl | exact Or.inr rfl)) (fun _ _ _ _ _ => pts_nil) (fun _ _ _ _ _ => (pe_call (ok_mask_of T) (hr.mono (by decide)) rfl T.m_mask_of T.F_mask_of.kp T.b_mask_of .nil pass0 (pa_cons (pv 1) pa_nil)))))), ?_⟩
  refine go_start w ps (Γ := [some (PAl T n ls), none]) rfl ?_
  have k1 := A.k1; have k4 := A.k4; have l6 := A.l6
  have lc := evn_lcT (K := K) (xs := ls) (R := fun l => D K (dT l)) (G := fun l => D K (.int (maskF l : Nat))) (i := 1) (M := []) (M1 := []) (Γ := [some (PAl T n ls), none]) (fun _ => true) ((ev_fld (P := D K (dTT ls)) (fps := alF K n ls) (ev_var (i := 0) rfl) (by simp) T.cl_Alphabet T.na_Alphabet_letters).weak le_Tm) (by omega) (fun _ _ => et_yes)
    (fun l hl _ => by
      obtain ⟨_, h2, lok⟩ := A.ok l hl
      have := pw_len h2 lok (by omega)
      exact use_mask_of (T := T) (X := E0) (b := true) (ea_cons (ev_var (i := 1) rfl) ea_nil) ⟨fun p hp => by have := lok p hp; omega, by omega⟩)
  rw [filter_true] at lc
  have mk : MasksOk ls (ls.map maskF) := ⟨by rw [List.length_map], fun i hi => by
    have hm : ls[i] ∈ ls := List.getElem_mem hi
    have := maskF_ok fun p hp => ((A.ok _ hm).2.2 p hp).1
    rw [List.getD_eq_getElem?_getD, List.getD_eq_getElem?_getD, List.getElem?_map, List.getElem?_eq_getElem hi]
    exact this⟩
  refine go_ret Le.refl ((ev_newL (K := K) lc).weak (MP.le_trans (fun F v h => ?_) (MP.le_trans (PAn.in (φ := MasksOk ls (ls.map maskF)) mk) (PEx.in (R := fun ms : List Nat => PAn (MasksOk ls ms) (D K (dN ms))) (ls.map maskF))))) k
  refine dL_le F v ?_
  rw [List.map_map, List.map_map]
  exact h
theorem use_place_masks {T : Txt K mg} {tr : TA} {Γ : Gm} {M M1 : Ms} {k : Int} {ls : Lets} {X : XK} (h : EvA tr Γ M [PAl T k ls] M1) (hn : AlphaOk k ls) : Ev (tCall (sp_place_masks T) [] X tr) Γ M (PMk K ls) M1 :=
  call0 h fun vs H Q z => ⟨k, ls, hn, z⟩
theorem mask_at {ls : Lets} {ms : List Nat} (h : MasksOk ls ms) {a : Int} (ha : 0 ≤ a ∧ a < (ls.length : Int)) : ((ms.map fun n : Nat => (n : Int)).map PyData.int)[a.toNat]? = some (.int ((ms.getD a.toNat 0 : Nat) : Int)) ∧ MaskOf (ms.getD a.toNat 0) (pl ls a) := by
  have h1 := h.1
  have hl : a.toNat < ms.length := by omega
  refine ⟨?_, h.2 _ (by omega)⟩
  rw [List.map_map, List.getElem?_map, List.getElem?_eq_getElem hl, List.getD_eq_getElem?_getD, List.getElem?_eq_getElem hl]; rfl
/-! ### _law_below -/
theorem sc__law_below : FnScope ["letters", "word", "size", "found", "k", "j", "i"] ["letters", "word"] (defScope s__law_below) := ⟨rfl, rfl, rfl, by decide +kernel, rfl, by decide +kernel, by decide +kernel⟩
theorem w_at {wd : List Int} {e : Nat} (h : e < wd.length) : (wd.map PyData.int)[((e : Int)).toNat]? = some (.int (wd.getD e 0)) := by
  rw [Int.toNat_natCast, List.getElem?_map, List.getElem?_eq_getElem h, List.getD_eq_getElem?_getD, List.getElem?_eq_getElem h]; rfl
theorem w_ok {ls : Lets} {wd : List Int} (hw : WordOk ls wd) {e : Nat} (h : e < wd.length) : 0 ≤ wd.getD e 0 ∧ wd.getD e 0 < (ls.length : Int) := by
  rw [List.getD_eq_getElem?_getD, List.getElem?_eq_getElem h]
  exact hw _ (List.getElem_mem h)
abbrev dBB (m : List (List Bool)) : PyData := .list (m.map fun l => .list (l.map .bool))
abbrev PTab (K : PySem.W.Frag) (ls : Lets) (wd : List Int) : MP := PEx fun m : List (List Bool) => PAn (Sized m wd.length ∧ ∀ r c, r < wd.length → c < wd.length → cell m r c = bel (dep ls wd) r c) (D K (dBB m))
def sp__law_below (T : Txt K mg) : Sp := fun vs H Q _ => ∃ (ls : Lets) (wd : List Int) (b : Bool), (WordOk ls wd ∧ wd.length ≤ 1000 ∧ ∀ l ∈ ls, l.length ≤ 1000) ∧ Prom [D K (dLT ls), D K (dW b wd)] [] (PTab K ls wd) [] vs H Q
theorem sp__law_below_len {T : Txt K mg} {vs H Q E} (h : sp__law_below T vs H Q E) : vs.length = 2 := by obtain ⟨_, _, _, _, h⟩ := h; exact h.len
theorem zipR_tab {n : Nat} {as : List Addr} : zipR (fun x => ML ((List.range n).map fun k : Nat => D K (.bool (decide (x = k))))) as n = innerE K PyData.bool as (idTab n) := by
  unfold zipR innerE idTab
  rw [List.zip_map_right, List.map_map]
  refine List.map_congr_left fun p _ => ?_
  simp [List.map_map, Function.comp_def]
set_option maxHeartbeats 4000000 in
theorem ok__law_below (T : Txt K mg) : FnOk P wo K mg base CX0 2 T.f__law_below T.d__law_below ["letters", "word"] (sp__law_below T) := by
  have nd := (sc__law_below).nd
  refine T.F__law_below.ok sc__law_below (fun vs H Q E h => (sp__law_below_len h)) (fun cdv A outer s H vs Q E hr h => ?_)
  obtain ⟨ls, wd, b, ⟨hw, hl, hll⟩, F, w, ps, k⟩ := h
  refine ⟨_, (pss_cons (ps_set (i := 2) nd rfl (Or.inr rfl) (pe_callB (c_len (K := K) rfl) (by rfl) T.z_len PySem.boot_len (pa_cons (pv 1) pa_nil)))
    (pss_cons (ps_setLc (i := 3) (own := [("j", 5)]) (by rfl) nd rfl rfl (sw_true rfl rfl rfl (by decide +kernel)) (pi_range1 (by rfl) T.z_range (pa_cons (pv 2) pa_nil)) (blkOk_by (N := ["letters", "word", "size", "found", "k", "j", "i"]) (sc := defScope s__law_below) (own := [("j", 5)]) (by decide +kernel)) (fun _ _ _ _ _ => pg_name (i := 5) nd rfl (by first | exact Or.inl rfl | exact Or.inr rfl)) (fun _ _ _ _ _ => pts_nil) (fun _ _ _ _ _ => (pe_lc (own := [("k", 4)]) (by rfl) nd (pi_range1 (by rfl) T.z_range (pa_cons (pv 2) pa_nil)) (blkOk_by (N := ["letters", "word", "size", "found", "k", "j", "i"]) (sc := (relS ({ kind := PySem.ScopeKind.function, names := [ (PySem.Str.ofString ".0", PySem.NameKind.local), (PySem.Str.ofString "j", PySem.NameKind.cell), (PySem.Str.ofString "range", PySem.NameKind.globalImplicit), (PySem.Str.ofString "size", PySem.NameKind.free)], isGenerator := false, isCoroutine := false, more := [] : PySem.Scope }) (defScope s__law_below))) (own := [("k", 4)]) (by decide +kernel)) (fun _ _ _ _ _ => pg_name (i := 4) nd rfl (by first | exact Or.inl rfl | exact Or.inr rfl)) (fun _ _ _ _ _ => pts_nil) (fun _ _ _ _ _ => (pe_cmpR op_eq (pv 5) (pv 4) (nomark _))))))
    (pss_cons (ps_for PassesOwn.never rfl (pi_range1 (by rfl) T.z_range (pa_cons (pv 2) pa_nil)) (pg_name (i := 4) nd rfl (by first | exact Or.inl rfl | exact Or.inr rfl))
     (pss_one (ps_for PassesOwn.never rfl (pi_range1 (by rfl) T.z_range (pa_cons (pv 4) pa_nil)) (pg_name (i := 5) nd rfl (by first | exact Or.inl rfl | exact Or.inr rfl))
      (pss_one (ps_if (pt_not (pt_val (pe_call (ok__law_free T) (hr.mono (by decide)) rfl T.m__law_free T.F__law_free.kp T.b__law_free .nil pass0 (pa_cons (pv 0) (pa_cons (pe_ix (c_ix (K := K) rfl) (pv 1) (pv 5) (fun _ _ => rfl)) (pa_cons (pe_ix (c_ix (K := K) rfl) (pv 1) (pv 4) (fun _ _ => rfl)) pa_nil)))))) (pss_one (ps_for PassesOwn.never rfl (pi_range1 (by rfl) T.z_range (pa_cons (pv 2) pa_nil)) (pg_name (i := 6) nd rfl (by first | exact Or.inl rfl | exact Or.inr rfl))
        (pss_one (ps_if (pt_val (pe_ix (c_ix (K := K) rfl) (pe_ix (c_ix (K := K) rfl) (pv 3) (pv 6) (fun _ _ => rfl)) (pv 5) (fun _ _ => rfl))) (pss_one (ps_asg pe_bl (pg_sub (pe_ix (c_ix (K := K) rfl) (pv 3) (pv 6) (fun _ _ => rfl)) (pv 4) set_list))) pss_nil)))) pss_nil)))))
    (pss_one (ps_ret (pv 3)))))), ?_⟩
  refine go_start w ps (Γ := [some (D K (dLT ls)), some (D K (dW b wd)), none, none, none, none, none]) rfl ?_
  refine (q_asg (ev_lenW (b := b) (ev_var (i := 1) rfl)) ?_)
  generalize hn : wd.length = n at *
  show Nx _ [some (D K (dLT ls)), some (D K (dW b wd)), some (D K (.int n)), none, none, none, none] _ _
  refine q_lcOwn (K := K) (z := (n : Int)) (O := fun x => ML ((List.range n).map fun k : Nat => D K (.bool (decide (x = k))))) (ea_cons (ev_var (i := 2) rfl) ea_nil) (by omega) (fun x hx => ?_) fun q as hq has hal => ?_
  · have lc := evn_lcR (K := K) (z := (n : Int)) (i := 4) (G := fun k : Nat => D K (.bool (decide (x = k)))) (M := []) (M1 := []) (Γ := [some (D K (dLT ls)), some (D K (dW b wd)), some (D K (.int n)), none, none, some (D K (.int x)), none]) (t := tYes) (te := tOp rEq (tVar 5) (tVar 4)) (fun _ => true) (ea_cons (ev_var (i := 2) rfl) ea_nil) (by omega) (fun _ _ => et_yes) (fun y _ _ => (ev_op (ev_var (i := 5) rfl) (ev_var (i := 4) rfl) rv_eqI).is (by congr 2; simp; omega))
    rw [filter_true, Int.toNat_natCast] at lc
    exact lc
  rw [Int.toNat_natCast] at hal ⊢
  rw [zipR_tab]
  show Nx _ [some (D K (dLT ls)), some (D K (dW b wd)), some (D K (.int n)), some (Own q), none, none, none] ((q, ML (as.map Own)) :: innerE K PyData.bool as (idTab n)) _
  have asl : ∀ {m : List (List Bool)}, Sized m n → as.length = m.length := fun s => by rw [hal, s.1]
  have gets : ∀ {m : List (List Bool)} {r c : Nat}, Sized m n → r < n → c < n → ((m.getD r []).map fun x => D K (.bool x))[((c : Int)).toNat]? = some (D K (.bool (cell m r c))) := fun {m r c} s hr hc => by
    have := s.2 r hr
    unfold cell
    rw [Int.toNat_natCast, List.getElem?_map, List.getElem?_eq_getElem (by rw [this]; exact hc), List.getD_eq_getElem?_getD (l := m.getD r []), List.getElem?_eq_getElem (by rw [this]; exact hc)]; rfl
  have geta : ∀ {r : Nat} (hr : r < n), (as.map Own)[((r : Int)).toNat]? = some (Own (as[r]'(by omega))) := fun {r} hr => by rw [Int.toNat_natCast, List.getElem?_map, List.getElem?_eq_getElem (by omega)]; rfl
  refine (q_forR (ea_cons (ev_var (i := 2) rfl) ea_nil) (by omega) (by omega) (fun kk Γ M => ∃ (m : List (List Bool)) (g4 g5 g6 : Option MP), Γ = [some (D K (dLT ls)), some (D K (dW b wd)), some (D K (.int n)), some (Own q), g4, g5, g6] ∧ M = (q, ML (as.map Own)) :: innerE K PyData.bool as m ∧ TabOk (dep ls wd) n kk 0 0 m) ⟨_, none, none, none, rfl, rfl, tab_start⟩ ?_ ?_)
  · rintro kk hk _ _ ⟨m, g4, g5, g6, rfl, rfl, tb⟩
    have hk2 : kk < n := by omega
    refine go_forR (ea_cons (ev_var (i := 4) rfl) ea_nil) (by omega) (by omega) (fun j Γ M => ∃ (m : List (List Bool)) (g5 g6 : Option MP), Γ = [some (D K (dLT ls)), some (D K (dW b wd)), some (D K (.int n)), some (Own q), some (D K (.int kk)), g5, g6] ∧ M = (q, ML (as.map Own)) :: innerE K PyData.bool as m ∧ TabOk (dep ls wd) n kk j 0 m) ⟨m, _, _, rfl, rfl, tb⟩ ?_ ?_
    · rintro j hj _ _ ⟨m, g5, g6, rfl, rfl, tb⟩
      have hj2 : j < kk := by omega
      have oj := w_ok hw (e := j) (by omega)
      have ok := w_ok hw (e := kk) (by omega)
      show Nx _ [some (D K (dLT ls)), some (D K (dW b wd)), some (D K (.int n)), some (Own q), some (D K (.int kk)), some (D K (.int j)), g6] _ _
      refine go_if (et_not (et_val (use__law_free (ea_cons (ev_var (i := 0) rfl) (ea_cons (ev_op (ev_var (i := 1) rfl) (ev_var (i := 5) rfl) (rv_ixW (b := b) (by omega) (w_at (by omega)))) (ea_cons (ev_op (ev_var (i := 1) rfl) (ev_var (i := 4) rfl) (rv_ixW (b := b) (by omega) (w_at (by omega)))) ea_nil))) ⟨oj.1, oj.2, ok.1, ok.2, hll⟩))) (fun hz => ?_) fun hz => go_next (JA.of ⟨m, _, _, rfl, rfl, tab_skip tb hz.symm⟩)
      have hd : dep ls wd j kk = true := hz.symm
      refine go_forR (ea_cons (ev_var (i := 2) rfl) ea_nil) (by omega) (by omega) (fun i Γ M => ∃ (m : List (List Bool)) (g6 : Option MP), Γ = [some (D K (dLT ls)), some (D K (dW b wd)), some (D K (.int n)), some (Own q), some (D K (.int kk)), some (D K (.int j)), g6] ∧ M = (q, ML (as.map Own)) :: innerE K PyData.bool as m ∧ TabOk (dep ls wd) n kk j i m) ⟨m, _, rfl, rfl, tb⟩ ?_ ?_
      · rintro i hi _ _ ⟨m, g6, rfl, rfl, tb⟩
        have hi2 : i < n := by omega
        have row := tab_row tb hd hj2 hk2 hi2
        have em : ((q, ML (as.map Own)) :: innerE K PyData.bool as m)[i + 1]? = some (as[i]'(by omega), ML ((m.getD i []).map fun x => D K (.bool x))) := ie_at (asl tb.sz) (by omega)
        refine go_if (et_val (ev_op (ev_op (ev_var (i := 3) rfl) (ev_var (i := 6) rfl) (rv_ixO (j := 0) rfl (by omega) (geta hi2))) (ev_var (i := 5) rfl) (rv_ixO (j := i + 1) em (by omega) (gets tb.sz hi2 (by omega))))) (fun hc => ?_) fun hc => go_next (JA.of ⟨m, _, rfl, rfl, by rw [← hc] at row; exact row⟩)
        refine go_setL (j := i + 1) (ev_bl (K := K)) (ev_op (ev_var (i := 3) rfl) (ev_var (i := 6) rfl) (rv_ixO (j := 0) rfl (by omega) (geta hi2))) (ev_var (i := 4) rfl) em (by omega) (by rw [List.length_map, tb.sz.2 i hi2]; omega) (JA.of ⟨setCell m i kk, _, rfl, ?_, by rw [← hc] at row; exact row⟩)
        unfold setCell
        rw [← ie_set (asl tb.sz) (by omega)]
        show _ :: (innerE K PyData.bool as m).set i _ = _
        congr 3
        rw [Int.toNat_natCast, List.map_set]
      · rintro _ _ ⟨m, g6, rfl, rfl, tb⟩
        rw [Int.toNat_natCast] at tb
        exact JA.of ⟨m, _, _, rfl, rfl, tab_done tb⟩
    · rintro _ _ ⟨m, g5, g6, rfl, rfl, tb⟩
      rw [Int.toNat_natCast] at tb
      exact JA.of ⟨m, _, _, _, rfl, rfl, tab_next tb⟩
  · rintro _ _ ⟨m, g4, g5, g6, rfl, rfl, tb⟩
    rw [Int.toNat_natCast] at tb
    refine nx_nestedE (K := K) (f := PyData.bool) (i := 3) (M0 := []) (asl tb.sz) hq has rfl ?_
    refine go_ret Le.refl ((ev_var (i := 3) rfl).weak (MP.le_trans (PAn.in (φ := Sized m wd.length ∧ ∀ r c, r < wd.length → c < wd.length → cell m r c = bel (dep ls wd) r c) (by
      rw [hn]
      refine ⟨tb.sz, fun r c hr hc => ?_⟩
      rw [Bool.eq_iff_iff, bel_iff]
      exact tb.old r c hr hc hc)) (PEx.in (R := fun m : List (List Bool) => PAn (Sized m wd.length ∧ ∀ r c, r < wd.length → c < wd.length → cell m r c = bel (dep ls wd) r c) (D K (dBB m))) m))) k
theorem use__law_below {T : Txt K mg} {tr : TA} {Γ : Gm} {M M1 : Ms} {ls : Lets} {wd : List Int} {b : Bool} {X : XK} (h : EvA tr Γ M [D K (dLT ls), D K (dW b wd)] M1) (hn : WordOk ls wd ∧ wd.length ≤ 1000 ∧ ∀ l ∈ ls, l.length ≤ 1000) : Ev (tCall (sp__law_below T) [] X tr) Γ M (PTab K ls wd) M1 :=
  call0 h fun vs H Q z => ⟨ls, wd, b, hn, z⟩
theorem rv_cell {M : Ms} {m : List (List Bool)} {n r : Nat} (s : Sized m n) (hr : r < n) : RV (rIx K) (D K (dBB m)) (D K (.int r)) M (D K (.list ((m.getD r []).map .bool))) M := rv_ixDL (by omega) (by
  have := s.1
  rw [Int.toNat_natCast, List.getElem?_map, List.getElem?_eq_getElem (by omega), List.getD_eq_getElem?_getD, List.getElem?_eq_getElem (by omega)]; rfl)
theorem rv_cell2 {M : Ms} {m : List (List Bool)} {n r c : Nat} (s : Sized m n) (hr : r < n) (hc : c < n) : RV (rIx K) (D K (.list ((m.getD r []).map .bool))) (D K (.int c)) M (D K (.bool (cell m r c))) M := rv_ixDL (by omega) (by
  have := s.2 r hr
  unfold cell
  rw [Int.toNat_natCast, List.getElem?_map, List.getElem?_eq_getElem (by rw [this]; exact hc), List.getD_eq_getElem?_getD (l := m.getD r []), List.getElem?_eq_getElem (by rw [this]; exact hc)]; rfl)
end
end My
namespace My
open PySem L2 Hq
local macro_rules | `(tactic| trivial) => `(tactic| omega)
section
variable {P : Program} {wo : World} {K : PySem.W.Frag} {mg : Str → Option Value} {base : Heap}
/-! ### bits_of -/
theorem sc_bits_of : FnScope ["number", "at", "digit"] ["number"] (defScope s_bits_of) := ⟨rfl, rfl, rfl, by decide +kernel, rfl, by decide +kernel, by decide +kernel⟩
def sp_bits_of (T : Txt K mg) : Sp := fun vs H Q _ => ∃ n : Nat, n < 2 ^ 2000 ∧ PromN [D K (.int (n : Int))] [] (MInts K ((bitsL n).map fun i : Nat => (i : Int))) [] vs H Q
theorem sp_bits_of_len {T : Txt K mg} {vs H Q E} (h : sp_bits_of T vs H Q E) : vs.length = 1 := by obtain ⟨_, _, h⟩ := h; exact h.len
set_option maxHeartbeats 4000000 in
theorem ok_bits_of (T : Txt K mg) : FnOk P wo K mg base CX0 1 T.f_bits_of T.d_bits_of ["number"] (sp_bits_of T) := by
  have nd := (sc_bits_of).nd
  refine T.F_bits_of.ok sc_bits_of (fun vs H Q E h => (sp_bits_of_len h)) (fun cdv A outer s H vs Q E hr h => ?_)
  obtain ⟨n, hn, F, w, p, k⟩ := h
  refine ⟨_, (pss_one (ps_ret (pe_lc (own := [("at", 1), ("digit", 2)]) (by rfl) nd (pi_enRs (by rfl) T.z_enumerate (by rfl) T.z_reversed (pe_fmtB (pv 0))) (blkOk_by (N := ["number", "at", "digit"]) (sc := defScope s_bits_of) (own := [("at", 1), ("digit", 2)]) (by decide +kernel)) (fun _ _ _ _ _ => pg_tupK (K := K) (n := 2) rfl (by rfl) (pgs_cons (pg_name (i := 1) nd rfl (by first | exact Or.inl rfl | exact Or.inr rfl)) (pgs_cons (pg_name (i := 2) nd rfl (by first | exact Or.inl rfl | exact Or.inr rfl)) pgs_nil))) (fun _ _ _ _ _ => (pts_one (pt_cmpR (c_eq (K := K) rfl hr.units) (pv 2) pe_str (nomark _)))) (fun _ _ _ _ _ => (pv 1))))), ?_⟩
  refine go_start w p (Γ := [some (D K (.int (n : Int))), none, none]) rfl ?_
  have lc := evn_lcBits (K := K) (M := []) (M1 := []) (n := n) (Γ := [some (D K (.int (n : Int))), none, none]) (i := 1) (j := 2) (tl := tVar 0) (t := tTest (tOp (rEqD K) (tVar 2) (tC (V.str "1")))) (te := tVar 1) (G := fun k => D K (.int k)) (by decide) (ev_var (i := 0) rfl) (Nat.le_trans (binL_len (by decide) hn) (by decide)) (fun k b => (et_test (ev_op (ev_var (i := 2) rfl) ev_str (rv_eqD (by cases b <;> decide +kernel) (by decide +kernel)))).is (by cases b <;> decide +kernel)) (fun k hk => ev_var (i := 1) rfl)
  refine go_retN Le.refl lc (k.to fun F o h => ?_)
  unfold MInts
  rw [List.map_map]
  exact h
theorem use_bits_of {T : Txt K mg} {tr : TA} {Γ : Gm} {M M1 : Ms} {n : Nat} {X : XK} (h : EvA tr Γ M [D K (.int (n : Int))] M1) (hn : n < 2 ^ 2000) : EvN (tCall (sp_bits_of T) [] X tr) Γ M (MInts K ((bitsL n).map fun i : Nat => (i : Int))) M1 :=
  calln0 h fun vs H Q z => ⟨n, hn, z⟩
end
end My
namespace My
open PySem L2 Hq
local macro_rules | `(tactic| trivial) => `(tactic| omega)
section
variable {P : Program} {wo : World} {K : PySem.W.Frag} {mg : Str → Option Value} {base : Heap}
/-! ### _masks_above -/
theorem sc__masks_above : FnScope ["alphabet", "word", "masks", "above", "event", "other"] ["alphabet", "word"] (defScope s__masks_above) := ⟨rfl, rfl, rfl, by decide +kernel, rfl, by decide +kernel, by decide +kernel⟩
def nI (L : List Nat) : List Int := L.map fun n : Nat => (n : Int)
theorem nI_at {L : List Nat} {x : Nat} (h : x < L.length) : ((nI L).map fun n : Int => D K (.int n))[((x : Int)).toNat]? = some (D K (.int ((L.getD x 0 : Nat) : Int))) := by
  unfold nI
  rw [Int.toNat_natCast, List.map_map, List.getElem?_map, List.getElem?_eq_getElem h, List.getD_eq_getElem?_getD, List.getElem?_eq_getElem h]; rfl
theorem nI_set {L : List Nat} {x v : Nat} : ((nI L).map fun n : Int => D K (.int n)).set ((x : Int)).toNat (D K (.int (v : Int))) = (nI (L.set x v)).map fun n : Int => D K (.int n) := by
  unfold nI
  rw [Int.toNat_natCast, List.map_set, List.map_set]
theorem nI_rep {n : Nat} : List.replicate ((n : Int)).toNat (D K (.int 0)) = (nI (List.replicate n 0)).map fun n : Int => D K (.int n) := by
  unfold nI
  simp
theorem getN_set {L : List Nat} {x y v : Nat} (h : x < L.length) : (L.set x v).getD y 0 = if y = x then v else L.getD y 0 := by
  rw [List.getD_eq_getElem?_getD, List.getD_eq_getElem?_getD, List.getElem?_set]
  by_cases z : y = x
  · subst z; simp [h]
  · rw [if_neg z, if_neg (fun c => z c.symm)]
theorem ev_mask {Γ : Gm} {M : Ms} {ls : Lets} {wd : List Int} {ms : List Nat} {tm tw te : TE} {e : Nat} {b : Bool} (hm : MasksOk ls ms) (hw : WordOk ls wd) (he : e < wd.length) (h1 : Ev tm Γ M (D K (dN ms)) M) (h2 : Ev tw Γ M (D K (dW b wd)) M) (h3 : Ev te Γ M (D K (.int e)) M) : Ev (tOp (rIx K) tm (tOp (rIx K) tw te)) Γ M (D K (.int ((ms.getD (wd.getD e 0).toNat 0 : Nat) : Int))) M :=
  ev_op h1 (ev_op h2 h3 (rv_ixW (by omega) (w_at he))) (rv_ixDL (w_ok hw he).1 (mask_at hm (w_ok hw he)).1)
/-- the strict order of the events -/
def ltw (ls : Lets) (wd : List Int) (e f : Nat) : Prop := e < f ∧ Bel (dep ls wd) e f
theorem ltw_tr {ls : Lets} {wd : List Int} (x y z : Nat) (h1 : ltw ls wd x y) (h2 : ltw ls wd y z) : ltw ls wd x z := ⟨by have := h1.1; have := h2.1; omega, h1.2.trans h2.2⟩
/-- what is above e through an event below m -/
def AbP (ls : Lets) (wd : List Int) (e m v : Nat) : Prop := ∀ c, v.testBit c = true ↔ ∃ o, e < o ∧ o < m ∧ dep ls wd e o = true ∧ c < wd.length ∧ Bel (dep ls wd) o c
def AbE (ls : Lets) (wd : List Int) (e v : Nat) : Prop := ∀ c, v.testBit c = true ↔ c < wd.length ∧ ltw ls wd e c
theorem abP_all {ls : Lets} {wd : List Int} {e v : Nat} (h : AbP ls wd e wd.length v) : AbE ls wd e v := fun c => by
  rw [h c]
  constructor
  · rintro ⟨o, h1, h2, h3, h4, h5⟩
    exact ⟨h4, by have := h5.le; omega, Bel.cons h3 h1 h5⟩
  · rintro ⟨h1, h2, h3⟩
    rcases h3.first with z | ⟨o, o1, o2, o3⟩
    · omega
    · exact ⟨o, o1, by have := o3.le; omega, o2, h1, o3⟩
def AbOk (ls : Lets) (wd : List Int) (L : List Nat) : Prop := L.length = wd.length ∧ ∀ e, e < wd.length → AbE ls wd e (L.getD e 0)
abbrev PAbv (K : PySem.W.Frag) (ls : Lets) (wd : List Int) : MP := PEx fun L : List Nat => PAn (AbOk ls wd L) (D K (dL (nI L)))
def sp__masks_above (T : Txt K mg) : Sp := fun vs H Q _ => ∃ (n : Int) (ls : Lets) (wd : List Int), (AlphaOk n ls ∧ WordOk ls wd ∧ wd.length ≤ 40) ∧ Prom [PAl T n ls, D K (dT wd)] [] (PAbv K ls wd) [] vs H Q
theorem sp__masks_above_len {T : Txt K mg} {vs H Q E} (h : sp__masks_above T vs H Q E) : vs.length = 2 := by obtain ⟨_, _, _, _, h⟩ := h; exact h.len
set_option maxHeartbeats 4000000 in
theorem ok__masks_above (T : Txt K mg) : FnOk P wo K mg base CX0 3 T.f__masks_above T.d__masks_above ["alphabet", "word"] (sp__masks_above T) := by
  have nd := (sc__masks_above).nd
  refine T.F__masks_above.ok sc__masks_above (fun vs H Q E h => (sp__masks_above_len h)) (fun cdv A outer s H vs Q E hr h => ?_)
  obtain ⟨n, ls, wd, ⟨A, hw, hl⟩, F, w, ps, k⟩ := h
  refine ⟨_, (pss_cons (ps_set (i := 2) nd rfl (Or.inl rfl) (pe_call (ok_place_masks T) (hr.mono (by decide)) rfl T.m_place_masks T.F_place_masks.kp T.b_place_masks .nil pass0 (pa_cons (pv 0) pa_nil)))
    (pss_cons (ps_set (i := 3) nd rfl (Or.inl rfl) (pe_op op_rep (pe_lst (pa_cons pe_int pa_nil)) (pe_callB (c_len (K := K) rfl) (by rfl) T.z_len PySem.boot_len (pa_cons (pv 1) pa_nil))))
    (pss_cons (ps_for PassesOwn.never rfl (pi_revR (by rfl) T.z_reversed (prg_1 (by rfl) T.z_range (pe_callB (c_len (K := K) rfl) (by rfl) T.z_len PySem.boot_len (pa_cons (pv 1) pa_nil)))) (pg_name (i := 4) nd rfl (by first | exact Or.inl rfl | exact Or.inr rfl))
     (pss_one (ps_for PassesOwn.never rfl (pi_range2 (by rfl) T.z_range (pa_cons (pe_op op_add (pv 4) pe_int) (pa_cons (pe_callB (c_len (K := K) rfl) (by rfl) T.z_len PySem.boot_len (pa_cons (pv 1) pa_nil)) pa_nil))) (pg_name (i := 5) nd rfl (by first | exact Or.inl rfl | exact Or.inr rfl))
      (pss_one (ps_if (pt_cmpR op_ne (pe_op op_and (pe_ix (c_ix (K := K) rfl) (pv 2) (pe_ix (c_ix (K := K) rfl) (pv 1) (pv 4) (fun _ _ => rfl)) (fun _ _ => rfl)) (pe_ix (c_ix (K := K) rfl) (pv 2) (pe_ix (c_ix (K := K) rfl) (pv 1) (pv 5) (fun _ _ => rfl)) (fun _ _ => rfl))) pe_int (nomark _)) (pss_one (ps_asg (pe_op op_or (pe_op op_or (pe_ix (c_ix (K := K) rfl) (pv 3) (pv 4) (fun _ _ => rfl)) (pe_ix (c_ix (K := K) rfl) (pv 3) (pv 5) (fun _ _ => rfl))) (pe_op op_shl pe_int (pv 5))) (pg_sub (pv 3) (pv 4) set_list))) pss_nil)))))
    (pss_one (ps_ret (pv 3)))))), ?_⟩
  refine go_start w ps (Γ := [some (PAl T n ls), some (D K (dT wd)), none, none, none, none]) rfl ?_
  refine (q_asg (use_place_masks (ea_cons (ev_var (i := 0) rfl) ea_nil) A) (nx_ex (i := 2) rfl fun ms => nx_an (i := 2) rfl fun hms => ?_))
  dsimp only [List.set]
  generalize hN : wd.length = N at *
  have pos : ∀ {e : Nat}, e < N → ∀ p ∈ pl ls (wd.getD e 0), 0 ≤ p := fun he p hp => ((A.ok _ (pl_mem (w_ok hw (by omega)).1 (w_ok hw (by omega)).2)).2.2 p hp).1
  have eln : ∀ {Γ : Gm} {M : Ms}, Γ[1]? = some (some (D K (dT wd))) → Ev (tCB (rLn K) (tCons (tVar 1) tNil)) Γ M (D K (.int (N : Int))) M := fun e => hN ▸ ev_lenMT (f := PyData.int) (ev_var (i := 1) e)
  refine (q_asgN (evn_rep (K := K) (z := (N : Int)) (P := D K (.int 0)) (evn_lst (ps := [D K (.int 0)]) (ea_cons (ev_int (K := K)) ea_nil) (by simp)) (fun M => eln rfl) (by omega)) fun q hq => ?_)
  rw [nI_rep]
  dsimp only [List.set]
  refine (q_forRev (eln rfl) (by omega) (fun i Γ M => ∃ (L : List Nat) (g4 g5 : Option MP), Γ = [some (PAl T n ls), some (D K (dT wd)), some (D K (dN ms)), some (Own q), g4, g5] ∧ M = [(q, MInts K (nI L))] ∧ L.length = N ∧ (∀ x, x < N → N - i ≤ x → AbE ls wd x (L.getD x 0)) ∧ ∀ x, x < N - i → L.getD x 0 = 0) ⟨_, none, none, rfl, rfl, by simp, fun x h1 h2 => by omega, fun x hx => by simp [List.getD_eq_getElem?_getD, List.getElem?_replicate]; split <;> rfl⟩ ?_ ?_)
  · rintro i hi _ _ ⟨L, g4, g5, rfl, rfl, lL, don, zer⟩
    dsimp only [List.set]
    have hi : i < N := by omega
    obtain ⟨e, rfl⟩ : ∃ e, N = e + i + 1 := ⟨N - i - 1, by omega⟩
    have ee : ((e + i + 1 : Nat) : Int) - 1 - (i : Int) = (e : Int) := by omega
    rw [ee]
    have he : e < wd.length := by omega
    refine go_forR2 (ea_cons (ev_op (ev_var (i := 4) rfl) (ev_int (K := K) (i := 1)) (rv_i0 (g := fun i j => i + j))) (ea_cons (eln rfl) ea_nil)) (by omega) (fun m Γ M => ∃ (L : List Nat) (g5 : Option MP), Γ = [some (PAl T n ls), some (D K (dT wd)), some (D K (dN ms)), some (Own q), some (D K (.int (e : Int))), g5] ∧ M = [(q, MInts K (nI L))] ∧ L.length = e + i + 1 ∧ (∀ x, x < e + i + 1 → e < x → AbE ls wd x (L.getD x 0)) ∧ (∀ x, x < e → L.getD x 0 = 0) ∧ AbP ls wd e (e + 1 + m) (L.getD e 0)) ⟨L, g5, rfl, rfl, lL, fun x h1 h2 => don x h1 (by omega), fun x hx => zer x (by omega), fun c => ?_⟩ ?_ ?_
    · rw [zer e (by omega)]
      simp
      omega
    · rintro m hm _ _ ⟨L, g5, rfl, rfl, lL, don, zer, prt⟩
      dsimp only [List.set]
      have eo : (e : Int) + 1 + (m : Int) = ((e + 1 + m : Nat) : Int) := by omega
      have ho : e + 1 + m < e + i + 1 := by omega
      have ho' : e + 1 + m < wd.length := by omega
      rw [eo]
      generalize hoo : e + 1 + m = o at *
      have mk1 := (mask_at hms (w_ok hw he)).2
      have mk2 := (mask_at hms (w_ok hw ho')).2
      have evm : ∀ {v x : Nat} (hx : x < wd.length), [some (PAl T n ls), some (D K (dT wd)), some (D K (dN ms)), some (Own q), some (D K (.int (e : Int))), some (D K (.int (o : Int)))][v]? = some (some (D K (.int (x : Int)))) → Ev (tOp (rIx K) (tVar 2) (tOp (rIx K) (tVar 1) (tVar v))) [some (PAl T n ls), some (D K (dT wd)), some (D K (dN ms)), some (Own q), some (D K (.int (e : Int))), some (D K (.int (o : Int)))] [(q, MInts K (nI L))] (D K (.int ((ms.getD (wd.getD x 0).toNat 0 : Nat) : Int))) [(q, MInts K (nI L))] := fun hx hv => ev_mask (K := K) (b := true) hms hw hx (ev_var (i := 2) rfl) (ev_var (i := 1) rfl) (ev_var hv)
      have dp : (ms.getD (wd.getD e 0).toNat 0 &&& ms.getD (wd.getD o 0).toNat 0 ≠ 0) ↔ dep ls wd e o = true := by
        rw [mask_meet, dep_iff]
        constructor
        · rintro ⟨p, h1, h2⟩; exact ⟨p, (mk1 p).mp h1, (mk2 p).mp h2⟩
        · rintro ⟨p, h1, h2⟩
          obtain ⟨p', rfl⟩ := Int.eq_ofNat_of_zero_le (pos (by omega) p h1)
          exact ⟨p', (mk1 p').mpr h1, (mk2 p').mpr h2⟩
      refine go_if (et_test (ev_op (ev_op (evm (v := 4) he rfl) (evm (v := 5) ho' rfl) (rv_i0 (g := PySem.Builtin.bitAnd))) (ev_int (K := K) (i := 0)) rv_neI)) (fun hz => ?_) fun hz => go_next ?_
      · rw [band_nat] at hz
        have hd := dp.mp (nz_true hz)
        have ix : ∀ {v x : Nat}, x < e + i + 1 → [some (PAl T n ls), some (D K (dT wd)), some (D K (dN ms)), some (Own q), some (D K (.int (e : Int))), some (D K (.int (o : Int)))][v]? = some (some (D K (.int (x : Int)))) → Ev (tOp (rIx K) (tVar 3) (tVar v)) [some (PAl T n ls), some (D K (dT wd)), some (D K (dN ms)), some (Own q), some (D K (.int (e : Int))), some (D K (.int (o : Int)))] [(q, MInts K (nI L))] (D K (.int ((L.getD x 0 : Nat) : Int))) [(q, MInts K (nI L))] := fun hx hv => ev_op (ev_var (i := 3) rfl) (ev_var hv) (rv_ixO (j := 0) rfl (by omega) (nI_at (by omega)))
        refine go_setL (j := 0) ((ev_op (ev_op (ix (v := 4) (by omega) rfl) (ix (v := 5) ho rfl) (rv_i0 (g := PySem.Builtin.bitOr))) (ev_op (ev_int (K := K) (i := 1)) (ev_var (i := 5) rfl) (rv_ic (C := CPow) (g := fun i j => i * 2 ^ j.toNat) ⟨by omega, by omega, by decide⟩)) (rv_i0 (g := PySem.Builtin.bitOr))).is (P' := D K (.int ((L.getD e 0 ||| L.getD o 0 ||| 2 ^ o : Nat) : Int))) ?_) (ev_var (i := 3) rfl) (ev_var (i := 4) rfl) rfl (by omega) (by rw [List.length_map]; unfold nI; rw [List.length_map]; omega) ?_
        · rw [Int.toNat_natCast, Int.one_mul, show ((2 : Int) ^ o) = ((2 ^ o : Nat) : Int) by simp, bor_nat, bor_nat]
        · rw [nI_set]
          refine JA.of ⟨_, _, rfl, rfl, by rw [List.length_set]; exact lL, fun x h1 h2 => ?_, fun x hx => ?_, fun c => ?_⟩
          · rw [getN_set (by omega), if_neg (by omega)]; exact don x h1 h2
          · rw [getN_set (by omega), if_neg (by omega)]; exact zer x hx
          · have oe := don o ho (by omega) c
            rw [getN_set (by omega), if_pos rfl, Nat.testBit_or, Nat.testBit_or, Bool.or_eq_true, Bool.or_eq_true, prt c, oe, Nat.testBit_two_pow, decide_eq_true_eq]
            constructor
            · rintro ((⟨o', h1, h2, h3⟩ | ⟨h1, h2, h3⟩) | rfl)
              · exact ⟨o', h1, by omega, h3⟩
              · exact ⟨o, by omega, by omega, hd, h1, h3⟩
              · exact ⟨o, by omega, by omega, hd, by omega, .refl o⟩
            · rintro ⟨o', h1, h2, h3, h4, h5⟩
              rcases Nat.lt_or_ge o' o with z | z
              · exact .inl (.inl ⟨o', h1, z, h3, h4, h5⟩)
              · have : o' = o := by omega
                subst this
                rcases Nat.lt_or_ge o' c with z2 | z2
                · exact .inl (.inr ⟨h4, z2, h5⟩)
                · exact .inr (by have := h5.le; omega)
      · rw [band_nat] at hz
        have hd : ¬ dep ls wd e o = true := fun c => nz_false hz (dp.mpr c)
        refine JA.of ⟨L, _, rfl, rfl, lL, don, zer, fun c => ?_⟩
        rw [prt c]
        constructor
        · rintro ⟨o', h1, h2, h3⟩; exact ⟨o', h1, by omega, h3⟩
        · rintro ⟨o', h1, h2, h3, h4⟩
          rcases Nat.lt_or_ge o' o with z | z
          · exact ⟨o', h1, z, h3, h4⟩
          · have : o' = o := by omega
            subst this
            exact absurd h3 hd
    · rintro _ _ ⟨L, g5, rfl, rfl, lL, don, zer, prt⟩
      have e2 : e + 1 + (((e + i + 1 : Nat) : Int) - ((e : Int) + 1)).toNat = wd.length := by omega
      rw [e2] at prt
      refine JA.of ⟨L, _, _, rfl, rfl, lL, fun x h1 h2 => ?_, fun x hx => zer x (by omega)⟩
      rcases Nat.lt_or_ge e x with z | z
      · exact don x h1 z
      · have : x = e := by omega
        subst this
        exact abP_all prt
  · rintro _ _ ⟨L, g4, g5, rfl, rfl, lL, don, zer⟩
    refine nx_own (K := K) (i := 3) (j := 0) rfl hq rfl ?_
    dsimp only [List.set, List.eraseIdx]
    exact go_ret Le.refl ((ev_var (i := 3) rfl).weak (MP.le_trans (PAn.in (φ := AbOk ls wd L) ⟨by omega, fun e he => don e (by omega) (by omega)⟩) (PEx.in (R := fun L : List Nat => PAn (AbOk ls wd L) (D K (dL (nI L)))) L))) k
theorem use__masks_above {T : Txt K mg} {tr : TA} {Γ : Gm} {M M1 : Ms} {n : Int} {ls : Lets} {wd : List Int} {X : XK} (h : EvA tr Γ M [PAl T n ls, D K (dT wd)] M1) (hn : AlphaOk n ls ∧ WordOk ls wd ∧ wd.length ≤ 40) : Ev (tCall (sp__masks_above T) [] X tr) Γ M (PAbv K ls wd) M1 :=
  call0 h fun vs H Q z => ⟨n, ls, wd, hn, z⟩
end
end My
namespace My
open PySem L2 Hq
local macro_rules | `(tactic| trivial) => `(tactic| omega)
section
variable {P : Program} {wo : World} {K : PySem.W.Frag} {mg : Str → Option Value} {base : Heap}
/-! ### _first_rows -/
theorem sc__first_rows : FnScope ["alphabet", "word", "behind", "ahead", "lasts", "event", "letter", "place"] ["alphabet", "word"] (defScope s__first_rows) := ⟨rfl, rfl, rfl, by decide +kernel, rfl, by decide +kernel, by decide +kernel⟩
theorem i_at {l : List Int} {x : Nat} (h : x < l.length) : (l.map fun n : Int => D K (.int n))[((x : Int)).toNat]? = some (D K (.int (at1 l x))) := by
  unfold at1
  rw [Int.toNat_natCast, List.getElem?_map, List.getElem?_eq_getElem h, List.getD_eq_getElem?_getD, List.getElem?_eq_getElem h]; rfl
theorem i_set {l : List Int} {x : Nat} {v : Int} : (l.map fun n : Int => D K (.int n)).set ((x : Int)).toNat (D K (.int v)) = (l.set x v).map fun n : Int => D K (.int n) := by
  rw [Int.toNat_natCast, List.map_set]
theorem i_rep {n : Nat} : List.replicate n (D K (.int (-1))) = (List.replicate n (-1)).map fun n : Int => D K (.int n) := by
  rw [List.map_replicate]
theorem ev_pls {T : Txt K mg} {Γ : Gm} {M M1 M2 : Ms} {k a : Int} {ls : Lets} {te tx : TE} (h : Ev te Γ M (PAl T k ls) M1) (hi : Ev tx Γ M1 (D K (.int a)) M2) (ha : 0 ≤ a ∧ a < (ls.length : Int)) : Ev (tOp (rIx K) (tFld K te "letters") tx) Γ M (D K (dT (pl ls a))) M2 :=
  ev_op (ev_fld (P := D K (dTT ls)) (fps := alF K k ls) h (by simp) T.cl_Alphabet T.na_Alphabet_letters) hi (rv_ixDT (K := K) (ds := ls.map dT) ha.1 (by rw [List.getElem?_map, pl_get ha.1 ha.2]; rfl))
theorem ev_plcs {T : Txt K mg} {Γ : Gm} {M M1 : Ms} {k : Int} {ls : Lets} {te : TE} (h : Ev te Γ M (PAl T k ls) M1) : Ev (tFld K te "places") Γ M (D K (.int k)) M1 :=
  ev_fld (P := D K (.int k)) (fps := alF K k ls) h (by simp) T.cl_Alphabet T.na_Alphabet_places
/-- the first place of an event -/
def fpl (ls : Lets) (wd : List Int) (i : Nat) : Nat := ((pl ls (wd.getD i 0)).getD 0 0).toNat
theorem fpl_ok {k : Int} {ls : Lets} {wd : List Int} (A : AlphaOk k ls) (hw : WordOk ls wd) {i : Nat} (hi : i < wd.length) : (pl ls (wd.getD i 0)).getD 0 0 = (fpl ls wd i : Int) ∧ fpl ls wd i < k.toNat ∧ 0 < (pl ls (wd.getD i 0)).length ∧ (fpl ls wd i : Int) ∈ pl ls (wd.getD i 0) := by
  obtain ⟨h1, h2, h3⟩ := A.ok _ (pl_mem (w_ok hw hi).1 (w_ok hw hi).2)
  unfold fpl
  cases e : pl ls (wd.getD i 0) with
  | nil => exact absurd e h1
  | cons x l =>
    rw [e] at h3
    have := h3 x List.mem_cons_self
    have ex : (x.toNat : Int) = x := Int.toNat_of_nonneg this.1
    refine ⟨ex.symm, ?_, Nat.zero_lt_succ _, ?_⟩
    · show x.toNat < k.toNat
      omega
    · show (x.toNat : Int) ∈ x :: l
      rw [ex]; exact List.mem_cons_self
theorem fpl_lt {k : Int} {ls : Lets} {wd : List Int} (A : AlphaOk k ls) (hw : WordOk ls wd) {e i : Nat} (hi : i < wd.length) (he : e < i) (h : fpl ls wd e = fpl ls wd i) : ltw ls wd e i :=
  ⟨he, .step (.refl e) he (dep_iff.mpr ⟨(fpl ls wd e : Int), (fpl_ok A hw (by omega)).2.2.2, h ▸ (fpl_ok A hw hi).2.2.2⟩)⟩
abbrev IFr := (Addr × Addr) × (List Int × List Int)
abbrev phFr (ls : Lets) (wd : List Int) (x : IFr) : Prop := Mt wd.length (ltw ls wd) x.2.1 x.2.2
abbrev pFr (K : PySem.W.Frag) (x : IFr) : MP := PTu K [Own x.1.1, Own x.1.2]
abbrev mFr (K : PySem.W.Frag) (x : IFr) : Ms := [(x.1.2, MInts K x.2.2), (x.1.1, MInts K x.2.1)]
def sp__first_rows (T : Txt K mg) : Sp := fun vs H Q _ => ∃ (n : Int) (ls : Lets) (wd : List Int), (AlphaOk n ls ∧ WordOk ls wd ∧ wd.length ≤ 40) ∧ PromX [PAl T n ls, D K (dT wd)] [] (phFr ls wd) (pFr K) (mFr K) vs H Q
theorem sp__first_rows_len {T : Txt K mg} {vs H Q E} (h : sp__first_rows T vs H Q E) : vs.length = 2 := by obtain ⟨_, _, _, _, _, _, p, _⟩ := h; exact paired_len p
set_option maxHeartbeats 4000000 in
theorem ok__first_rows (T : Txt K mg) : FnOk P wo K mg base CX0 1 T.f__first_rows T.d__first_rows ["alphabet", "word"] (sp__first_rows T) := by
  have nd := (sc__first_rows).nd
  refine T.F__first_rows.ok sc__first_rows (fun vs H Q E h => (sp__first_rows_len h)) (fun cdv A outer s H vs Q E hr h => ?_)
  obtain ⟨n, ls, wd, ⟨A, hw, hl⟩, F, w, ps, k⟩ := h
  refine ⟨_, (pss_cons (ps_set (i := 2) nd rfl (Or.inl rfl) (pe_op op_rep (pe_lst (pa_cons (pe_un un_neg pe_int) pa_nil)) (pe_callB (c_len (K := K) rfl) (by rfl) T.z_len PySem.boot_len (pa_cons (pv 1) pa_nil))))
    (pss_cons (ps_set (i := 3) nd rfl (Or.inl rfl) (pe_op op_rep (pe_lst (pa_cons (pe_un un_neg pe_int) pa_nil)) (pe_callB (c_len (K := K) rfl) (by rfl) T.z_len PySem.boot_len (pa_cons (pv 1) pa_nil))))
    (pss_cons (ps_set (i := 4) nd rfl (Or.inl rfl) (pe_op op_rep (pe_lst (pa_cons (pe_un un_neg pe_int) pa_nil)) (c_fld (K := K) rfl (pv 0) rfl)))
    (pss_cons (ps_for PassesOwn.never rfl (pi_enumTK (K := K) rfl (by rfl) T.z_enumerate (pa_cons (pv 1) pa_nil)) (pg_tupK (K := K) (n := 2) rfl (by rfl) (pgs_cons (pg_name (i := 5) nd rfl (by first | exact Or.inl rfl | exact Or.inr rfl)) (pgs_cons (pg_name (i := 6) nd rfl (by first | exact Or.inl rfl | exact Or.inr rfl)) pgs_nil)))
     (pss_cons (ps_set (i := 7) nd rfl (Or.inl rfl) (pe_ix (c_ix (K := K) rfl) (pe_ix (c_ix (K := K) rfl) (c_fld (K := K) rfl (pv 0) rfl) (pv 6) (fun _ _ => rfl)) pe_int (fun _ _ => rfl)))
     (Evl.pss_cut (ps_if (pt_cmpR op_ge (pe_ix (c_ix (K := K) rfl) (pv 4) (pv 7) (fun _ _ => rfl)) pe_int (nomark _)) (pss_cons (ps_asg (pv 5) (pg_sub (pv 2) (pe_ix (c_ix (K := K) rfl) (pv 4) (pv 7) (fun _ _ => rfl)) set_list))
      (pss_one (ps_asg (pe_ix (c_ix (K := K) rfl) (pv 4) (pv 7) (fun _ _ => rfl)) (pg_sub (pv 3) (pv 5) set_list)))) pss_nil)
     (pss_one (ps_asg (pv 5) (pg_sub (pv 4) (pv 7) set_list))))))
    (pss_one (ps_ret (pe_tup (pa_cons (pv 2) (pa_cons (pv 3) pa_nil))))))))), ?_⟩
  refine go_start w ps (Γ := [some (PAl T n ls), some (D K (dT wd)), none, none, none, none, none, none]) rfl ?_
  have k1 := A.k1; have k4 := A.k4
  have eln : ∀ {Γ : Gm} {M : Ms}, Γ[1]? = some (some (D K (dT wd))) → Ev (tCB (rLn K) (tCons (tVar 1) tNil)) Γ M (D K (.int (wd.length : Int))) M := fun e => ev_lenMT (f := PyData.int) (ev_var (i := 1) e)
  refine (q_asgN (evn_rep (K := K) (z := (wd.length : Int)) (P := D K (.int (-1))) (evn_lst (ps := [D K (.int (-1))]) (ea_cons (ev_neg (ev_int (K := K))) ea_nil) (by simp)) (fun M => eln rfl) (by omega)) fun qb hqb => ?_)
  rw [Int.toNat_natCast, i_rep]
  dsimp only [List.set]
  refine (q_asgN (evn_rep (K := K) (z := (wd.length : Int)) (P := D K (.int (-1))) (evn_lst (ps := [D K (.int (-1))]) (ea_cons (ev_neg (ev_int (K := K))) ea_nil) (by simp)) (fun M => eln rfl) (by omega)) fun qa hqa => ?_)
  rw [Int.toNat_natCast, i_rep]
  dsimp only [List.set]
  refine (q_asgN (evn_rep (K := K) (z := n) (P := D K (.int (-1))) (evn_lst (ps := [D K (.int (-1))]) (ea_cons (ev_neg (ev_int (K := K))) ea_nil) (by simp)) (fun M => ev_plcs (ev_var (i := 0) rfl)) (by omega)) fun ql hql => ?_)
  rw [i_rep]
  dsimp only [List.set]
  refine (q_forEnumT (K := K) (xs := wd) (R := fun x => D K (.int x)) ((ev_var (i := 1) rfl).weak le_dT) (fun i Γ M => ∃ (b a t : List Int) (g5 g6 g7 : Option MP), Γ = [some (PAl T n ls), some (D K (dT wd)), some (Own qb), some (Own qa), some (Own ql), g5, g6, g7] ∧ M = [(ql, MInts K t), (qa, MInts K a), (qb, MInts K b)] ∧ Fs wd.length n.toNat (fpl ls wd) (ltw ls wd) i b a t) ⟨_, _, _, none, none, none, rfl, rfl, Fs.start⟩ ?_ ?_)
  · rintro E' hE i x hx _ _ ⟨b, a, t, g5, g6, g7, rfl, rfl, s⟩
    dsimp only [List.set]
    have hi : i < wd.length := (List.getElem?_eq_some_iff.mp hx).1
    have ex : wd.getD i 0 = x := by rw [List.getD_eq_getElem?_getD, hx]; rfl
    obtain ⟨f1, f2, f3, f4⟩ := fpl_ok A hw hi
    have xo := w_ok hw hi
    rw [ex] at f1 f3 f4 xo
    have lb := s.mt.lb; have la := s.mt.la; have ltt := s.lt
    refine (q_asg (P := D K (.int (fpl ls wd i : Int))) ((ev_op (ev_pls (ev_var (i := 0) rfl) (ev_var (i := 6) rfl) xo) (ev_int (K := K) (i := 0)) (rv_ixDTd (by decide) f3)).is (by rw [← f1]; rfl)) ?_)
    dsimp only [List.set]
    have ixt : ∀ {g : Option MP} {b a : List Int}, Ev (tOp (rIx K) (tVar 4) (tVar 7)) [some (PAl T n ls), some (D K (dT wd)), some (Own qb), some (Own qa), some (Own ql), some (D K (.int (i : Int))), g, some (D K (.int (fpl ls wd i : Int)))] [(ql, MInts K t), (qa, MInts K a), (qb, MInts K b)] (D K (.int (at1 t (fpl ls wd i)))) [(ql, MInts K t), (qa, MInts K a), (qb, MInts K b)] := fun {g b a} => ev_op (ev_var (i := 4) rfl) (ev_var (i := 7) rfl) (rv_ixO (j := 0) rfl (by omega) (i_at (by omega)))
    refine go_cut (fun Γ M => ∃ (b a : List Int), Γ = [some (PAl T n ls), some (D K (dT wd)), some (Own qb), some (Own qa), some (Own ql), some (D K (.int (i : Int))), some (D K (.int x)), some (D K (.int (fpl ls wd i : Int)))] ∧ M = [(ql, MInts K t), (qa, MInts K a), (qb, MInts K b)] ∧ Fs wd.length n.toNat (fpl ls wd) (ltw ls wd) (i + 1) b a (t.set (fpl ls wd i) i)) ?_ ?_
    · refine go_if (et_test (ev_op ixt (ev_int (K := K) (i := 0)) (rv_b0 (g := fun i j => decide (j ≤ i))))) (fun hz => ?_) fun hz => go_next ?_
      · have hz : 0 ≤ at1 t (fpl ls wd i) := by simpa using hz.symm
        obtain ⟨e, e1, e2, e3, e4⟩ := (s.la _ f2).resolve_left (by omega)
        rw [e2] at ixt
        refine (q_setL (j := 2) (ev_var (i := 5) rfl) (ev_var (i := 2) rfl) ixt rfl (by omega) (by rw [List.length_map]; omega) ?_)
        rw [i_set]
        dsimp only [List.set]
        refine go_setL (j := 1) ixt (ev_var (i := 3) rfl) (ev_var (i := 5) rfl) rfl (by omega) (by rw [List.length_map]; omega) ?_
        rw [i_set]
        exact JA.of ⟨_, _, rfl, rfl, s.step hi f2 e1 e2 fun h => fpl_lt A hw hi e1 h⟩
      · have hz : ¬ 0 ≤ at1 t (fpl ls wd i) := by simpa using hz.symm
        refine JA.of ⟨b, a, rfl, rfl, s.skip hi f2 ?_⟩
        rcases s.la _ f2 with z | ⟨e, _, e2, _⟩
        · exact z
        · omega
    · rintro _ _ ⟨b, a, rfl, rfl, s⟩
      refine go_setL (j := 0) (ev_var (i := 5) rfl) (ev_var (i := 4) rfl) (ev_var (i := 7) rfl) rfl (by omega) (by rw [List.length_map]; omega) ?_
      rw [i_set]
      exact JA.of ⟨_, _, _, _, _, _, rfl, rfl, s⟩
  · rintro _ _ ⟨b, a, t, g5, g6, g7, rfl, rfl, s⟩
    refine nx_drop (M' := [(qa, MInts K a), (qb, MInts K b)]) (List.sublist_cons_self _ _) ?_
    exact go_ret Le.refl (ev_tup (K := K) (ea_cons (ev_var (i := 2) rfl) (ea_cons (ev_var (i := 3) rfl) ea_nil)) (by simp)) (k ((qb, qa), (b, a)) s.mt)
theorem use__first_rows {T : Txt K mg} {tr : TA} {Γ : Gm} {M M1 : Ms} {n : Int} {ls : Lets} {wd : List Int} {X : XK} (h : EvA tr Γ M [PAl T n ls, D K (dT wd)] M1) (hn : AlphaOk n ls ∧ WordOk ls wd ∧ wd.length ≤ 40) : EvX (tCall (sp__first_rows T) [] X tr) Γ M (phFr ls wd) (pFr K) (fun x => mFr K x ++ M1) :=
  ev_callY (Mc := []) (M2 := M1) (Mi := fun _ => []) (Bi := mFr K) h (fun _ => rfl) fun vs H Q z => ⟨n, ls, wd, hn, by
    rw [List.append_nil]
    obtain ⟨F, a, b, c⟩ := z
    exact ⟨F, a, b, c⟩⟩
end
end My
namespace My
open PySem L2 Hq
local macro_rules | `(tactic| trivial) => `(tactic| omega)
section
variable {P : Program} {wo : World} {K : PySem.W.Frag} {mg : Str → Option Value} {base : Heap}
/-! ### _searched -/
theorem sc__searched : FnScope ["above", "behind", "ahead", "sources", "came_from", "left", "at", "more", "event"] ["above", "behind", "ahead"] (defScope s__searched) := ⟨rfl, rfl, rfl, by decide +kernel, rfl, by decide +kernel, by decide +kernel⟩
theorem nI_get {S : List Nat} {t e : Nat} (h : S[t]? = some e) : ((nI S).map fun n : Int => D K (.int n))[((t : Int)).toNat]? = some (D K (.int (e : Int))) := by
  unfold nI
  rw [Int.toNat_natCast, List.map_map, List.getElem?_map, h]; rfl
theorem bxor_nat (m n : Nat) : PySem.Builtin.bitXor (m : Int) (n : Int) = ((m ^^^ n : Nat) : Int) := by
  have := Bits.bitXor_pp (x := (m : Int)) (y := (n : Int)) (by omega) (by omega)
  simpa using this
theorem nI_app {S : List Nat} {x : Nat} : nI (S ++ [x]) = nI S ++ [(x : Int)] := by unfold nI; rw [List.map_append]; rfl
theorem nI_len {S : List Nat} : (nI S).length = S.length := List.length_map _
theorem m_app {l : List Int} {x : Int} : MInts K (l ++ [x]) = ML (l.map (fun n => D K (.int n)) ++ [D K (.int x)]) := by rw [MInts, List.map_append]; rfl
abbrev ISr := (List (Nat × Nat) × List Nat) × Int
def phSr (ls : Lets) (wd : List Int) (b a : List Int) (x : ISr) : Prop :=
  (x.2 = -1 ∧ Shut wd.length (ltw ls wd) b a x.1.1 ∧ x.1.2 = srcs wd.length b a x.1.1) ∨ ∃ p : Nat × Nat, x.1.1[x.1.1.length - 1]? = some p ∧ x.2 = (p.1 : Int) ∧ at1 a p.1 < 0 ∧ Sd wd.length (ltw ls wd) b a x.1.1
abbrev pSr (K : PySem.W.Frag) (x : ISr) : MP := PTu K [D K (dL (nI x.1.2)), Fr (MDO (dk x.1.1) x.1.1.length), D K (.int x.2)]
def sp__searched (T : Txt K mg) : Sp := fun vs H Q _ => ∃ (ls : Lets) (wd : List Int) (L : List Nat) (b a : List Int) (qb qa : Addr), (AbOk ls wd L ∧ Mt wd.length (ltw ls wd) b a ∧ wd.length ≤ 40) ∧ PromX [D K (dL (nI L)), Own qb, Own qa] [(qa, MInts K a), (qb, MInts K b)] (phSr ls wd b a) (pSr K) (fun _ => [(qa, MInts K a), (qb, MInts K b)]) vs H Q
theorem sp__searched_len {T : Txt K mg} {vs H Q E} (h : sp__searched T vs H Q E) : vs.length = 3 := by obtain ⟨_, _, _, _, _, _, _, _, _, _, p, _⟩ := h; exact paired_len p
set_option maxHeartbeats 4000000 in
theorem ok__searched (T : Txt K mg) : FnOk P wo K mg base CX0 2 T.f__searched T.d__searched ["above", "behind", "ahead"] (sp__searched T) := by
  have nd := (sc__searched).nd
  refine T.F__searched.ok sc__searched (fun vs H Q E h => (sp__searched_len h)) (fun cdv A outer s H vs Q E hr h => ?_)
  obtain ⟨ls, wd, L, b, a, qb, qa, ⟨hL, mt, hn⟩, F, w, ps, k⟩ := h
  refine ⟨_, (pss_cons (ps_setLc (i := 3) (own := [("event", 8)]) (by rfl) nd rfl rfl (sw_true rfl rfl rfl (by decide +kernel)) (pi_range1 (by rfl) T.z_range (pa_cons (pe_callB (c_len (K := K) rfl) (by rfl) T.z_len PySem.boot_len (pa_cons (pv 1) pa_nil)) pa_nil)) (blkOk_by (N := ["above", "behind", "ahead", "sources", "came_from", "left", "at", "more", "event"]) (sc := defScope s__searched) (own := [("event", 8)]) (by decide +kernel)) (fun _ _ _ _ _ => pg_name (i := 8) nd rfl (by first | exact Or.inl rfl | exact Or.inr rfl)) (fun _ _ _ _ _ => (pts_one (pt_cmpR op_lt (pe_ix (c_ix (K := K) rfl) (pv 1) (pv 8) (fun _ _ => rfl)) pe_int (nomark _)))) (fun _ _ _ _ _ => (pv 8)))
    (pss_cons (ps_set (i := 4) nd rfl (Or.inl rfl) pe_dnewK)
    (pss_cons (ps_set (i := 5) nd rfl (Or.inl rfl) (pe_op op_sub (pe_op op_shl pe_int (pe_callB (c_len (K := K) rfl) (by rfl) T.z_len PySem.boot_len (pa_cons (pv 1) pa_nil))) pe_int))
    (pss_cons (ps_set (i := 6) nd rfl (Or.inl rfl) pe_int)
    (pss_cons (ps_while PassesOwn.never (pt_cmpR op_lt (pv 6) (pe_callB (c_len (K := K) rfl) (by rfl) T.z_len PySem.boot_len (pa_cons (pv 3) pa_nil)) (nomark _)) (pss_cons (ps_set (i := 7) nd rfl (Or.inl rfl) (pe_op op_and (pe_ix (c_ix (K := K) rfl) (pv 0) (pe_ix (c_ix (K := K) rfl) (pv 3) (pv 6) (fun _ _ => rfl)) (fun _ _ => rfl)) (pv 5)))
     (pss_cons (ps_set (i := 5) nd rfl (Or.inl rfl) (pe_op op_xor (pv 5) (pv 7)))
     (pss_cons (ps_for PassesOwn.never rfl (pi_listK (K := K) rfl (pe_call (ok_bits_of T) (hr.mono (by decide)) rfl T.m_bits_of T.F_bits_of.kp T.b_bits_of .nil pass0 (pa_cons (pv 7) pa_nil))) (pg_name (i := 8) nd rfl (by first | exact Or.inl rfl | exact Or.inr rfl))
      (pss_cons (ps_dput (units1 hr) (pv 4) (pv 8) (pe_ix (c_ix (K := K) rfl) (pv 3) (pv 6) (fun _ _ => rfl)) rfl)
      (pss_cons (ps_if (pt_cmpR op_lt (pe_ix (c_ix (K := K) rfl) (pv 2) (pv 8) (fun _ _ => rfl)) pe_int (nomark _)) (pss_one (ps_ret (pe_tup (pa_cons (pv 3) (pa_cons (pv 4) (pa_cons (pv 8) pa_nil)))))) pss_nil)
      (pss_one (ps_expr (pe_bm PySem.F.plainAttrs_list PySem.F.slot_list_append PySem.F.type_list_append mt_append (pv 3) (pa_cons (pe_ix (c_ix (K := K) rfl) (pv 2) (pv 8) (fun _ _ => rfl)) pa_nil)))))))
     (pss_one (ps_aug (i := 6) nd rfl (Or.inl rfl) pe_int ip_add))))))
    (pss_one (ps_ret (pe_tup (pa_cons (pv 3) (pa_cons (pv 4) (pa_cons (pe_un un_neg pe_int) pa_nil))))))))))), ?_⟩
  refine go_start w ps (Γ := [some (D K (dL (nI L))), some (Own qb), some (Own qa), none, none, none, none, none, none]) rfl ?_
  have lb := mt.lb; have la := mt.la; have lL := hL.1
  generalize hN : wd.length = n at *
  have lc := evn_lcR (K := K) (z := (n : Int)) (i := 8) (G := fun k => D K (.int (k : Int))) (M := [(qa, MInts K a), (qb, MInts K b)]) (M1 := [(qa, MInts K a), (qb, MInts K b)]) (Γ := [some (D K (dL (nI L))), some (Own qb), some (Own qa), none, none, none, none, none, none]) (t := tTest (tOp (rI0 fun i j => V.bl (decide (i < j))) (tOp (rIx K) (tVar 1) (tVar 8)) (tC (V.int 0)))) (te := tVar 8) (tr := tCons (tCB (rLn K) (tCons (tVar 1) tNil)) tNil) (fun e => decide (at1 b e < 0)) (ea_cons ((ev_lenI (j := 1) (ev_var (i := 1) rfl) rfl).is (by rw [lb])) ea_nil) (by omega) (fun x hx => et_test (ev_op (ev_op (ev_var (i := 1) rfl) (ev_var (i := 8) rfl) (rv_ixO (j := 1) rfl (by omega) (i_at (by omega)))) (ev_int (K := K) (i := 0)) (rv_b0 (g := fun i j => decide (i < j))))) (fun x hx _ => ev_var (i := 8) rfl)
  refine (q_asgN lc fun qs hqs => ?_)
  have e0 : ((List.range ((n : Int)).toNat).filter fun e => decide (at1 b e < 0)).map (fun k : Nat => D K (.int (k : Int))) = (nI (srcs n b a [])).map fun n : Int => D K (.int n) := by
    rw [Int.toNat_natCast]
    unfold nI srcs tops
    rw [List.map_nil, List.append_nil, List.map_map]; rfl
  rw [e0]
  dsimp only [List.set]
  refine (q_asgN evn_dnewI fun qd hqd => ?_)
  dsimp only [List.set]
  refine (q_asg (P := D K (.int ((2 ^ n - 1 : Nat) : Int))) ((ev_op (ev_op (ev_int (K := K) (i := 1)) (ev_lenI (j := 3) (ev_var (i := 1) rfl) rfl) (rv_ic (C := CPow) (g := fun i j => i * 2 ^ j.toNat) ⟨by omega, by omega, by decide⟩)) (ev_int (K := K) (i := 1)) (rv_i0 (g := fun i j => i - j))).is ?_) ?_)
  · rw [lb, Int.toNat_natCast, Int.one_mul, Int.ofNat_sub (Nat.one_le_two_pow)]
    simp
  dsimp only [List.set]
  refine (q_asg (ev_int (K := K) (i := 0)) ?_)
  dsimp only [List.set]
  refine (q_while (fun m Γ M => ∃ (D1 : List (Nat × Nat)) (left t : Nat) (g7 g8 : Option MP), Γ = [some (D K (dL (nI L))), some (Own qb), some (Own qa), some (Own qs), some (Own qd), some (D K (.int (left : Int))), some (D K (.int (t : Int))), g7, g8] ∧ M = [(qd, MDO (dk D1) D1.length), (qs, MInts K (nI (srcs n b a D1))), (qa, MInts K a), (qb, MInts K b)] ∧ Srh n (ltw ls wd) b a t D1 left ∧ m = n + 1 - t) (n + 1) ⟨[], _, 0, none, none, rfl, rfl, Srh.start, rfl⟩ ?_)
  rintro m _ _ ⟨D1, left, t, g7, g8, rfl, rfl, s, rfl⟩
  have sl := srcs_len mt s.sd s.fl
  refine ⟨_, _, et_test (ev_op (ev_var (i := 6) rfl) (ev_lenI (j := 1) (ev_var (i := 3) rfl) rfl) (rv_b0 (g := fun i j => decide (i < j)))), fun hz => ?_, fun hz => ?_⟩
  · have hz : t < (srcs n b a D1).length := by rw [nI_len] at hz; simpa using hz.symm
    obtain ⟨e, he⟩ : ∃ e, (srcs n b a D1)[t]? = some e := ⟨_, List.getElem?_eq_getElem hz⟩
    have em := List.mem_of_getElem? he
    have en := srcs_lt mt s.sd s.fl e em
    have abv := hL.2 e (by omega)
    refine (q_asg (P := D K (.int ((L.getD e 0 &&& left : Nat) : Int))) ((ev_op (ev_op (ev_var (i := 0) rfl) (ev_op (ev_var (i := 3) rfl) (ev_var (i := 6) rfl) (rv_ixO (j := 1) rfl (by omega) (nI_get he))) (rv_ixDLd (by omega) (by rw [Int.toNat_natCast, nI_len]; omega))) (ev_var (i := 5) rfl) (rv_i0 (g := PySem.Builtin.bitAnd))).is ?_) ?_)
    · rw [← band_nat]
      congr 3
      rw [Int.toNat_natCast]
      unfold nI
      rw [List.getD_eq_getElem?_getD, List.getElem?_map, List.getD_eq_getElem?_getD, List.getElem?_eq_getElem (by omega)]; rfl
    dsimp only [List.set]
    generalize hmo : L.getD e 0 &&& left = more
    have bm : ∀ f, f ∈ bitsL more ↔ f < n ∧ ltw ls wd e f ∧ f ∉ D1.map Prod.fst := fun f => by
      rw [mem_bitsL, ← hmo, Nat.testBit_and, Bool.and_eq_true, abv f, s.lf f, hN]
      exact ⟨fun ⟨h1, h2⟩ => ⟨h1.1, h1.2, h2.2⟩, fun ⟨h1, h2, h3⟩ => ⟨⟨h1, h2⟩, h1, h3⟩⟩
    have bnd : (bitsL more).Nodup := (bitsL_sorted more).imp fun q => Nat.ne_of_lt q
    have bok : ∀ f ∈ bitsL more, f ∉ D1.map Prod.fst ∧ f < n ∧ ltw ls wd e f := fun f hf => let ⟨h1, h2, h3⟩ := (bm f).mp hf; ⟨h3, h1, h2⟩
    have mlt : more < 2 ^ 2000 := by
      have : more < 2 ^ n := Nat.lt_pow_two_of_testBit _ fun i hi => by
        rw [Bool.eq_false_iff]
        intro c
        have := (bm i).mp (mem_bitsL.mpr c)
        omega
      exact Nat.lt_of_lt_of_le this (Nat.pow_le_pow_right (by decide) (by omega))
    refine (q_asg (P := D K (.int ((left ^^^ more : Nat) : Int))) ((ev_op (ev_var (i := 5) rfl) (ev_var (i := 7) rfl) (rv_i0 (g := PySem.Builtin.bitXor))).is (by rw [bxor_nat])) ?_)
    dsimp only [List.set]
    have lf2 : ∀ c, (left ^^^ more).testBit c = true ↔ left.testBit c = true ∧ c ∉ bitsL more := fun c => by
      rw [Nat.testBit_xor, mem_bitsL, ← hmo, Nat.testBit_and]
      cases left.testBit c <;> cases (L.getD e 0).testBit c <;> decide
    refine (q_forL (ev_newL (K := K) (use_bits_of (T := T) (X := E0) (n := more) (ea_cons (ev_var (i := 7) rfl) ea_nil) mlt)) (fun i Γ M => ∃ (g8 : Option MP), Γ = [some (D K (dL (nI L))), some (Own qb), some (Own qa), some (Own qs), some (Own qd), some (D K (.int ((left ^^^ more : Nat) : Int))), some (D K (.int (t : Int))), some (D K (.int (more : Int))), g8] ∧ M = [(qd, MDO (dk (D1 ++ ((bitsL more).take i).map fun f => (f, e))) (D1 ++ ((bitsL more).take i).map fun f => (f, e)).length), (qs, MInts K (nI (srcs n b a (D1 ++ ((bitsL more).take i).map fun f => (f, e))))), (qa, MInts K a), (qb, MInts K b)] ∧ Tur n (ltw ls wd) b a D1 e (bitsL more) i) ⟨g8, rfl, by simp, ⟨by simpa using s.sd, by simpa using s.fl⟩⟩ ?_ ?_)
    · rintro E2 hE2 i P hP _ _ ⟨g8, rfl, rfl, tu⟩
      obtain ⟨f, hf, rfl⟩ : ∃ f, (bitsL more)[i]? = some f ∧ P = D K (.int (f : Int)) := by
        rw [List.map_map, List.getElem?_map] at hP
        obtain ⟨f, h1, h2⟩ := Option.map_eq_some_iff.mp hP
        exact ⟨f, h1, h2.symm⟩
      dsimp only [List.set]
      have fm := List.mem_of_getElem? hf
      obtain ⟨f1, f2, f3⟩ := bok f fm
      have nw := Tur.nw (e := e) bnd (fun f hf => (bok f hf).1) hf
      have sd1 := tu.sd1 bnd bok en em hf
      have dl := tu.sd.len
      have he2 : (srcs n b a (D1 ++ ((bitsL more).take i).map fun f => (f, e)))[t]? = some e := by rw [srcs_pre, List.getElem?_append_left hz]; exact he
      have sl2 := Nat.le_trans (srcs_len mt tu.sd tu.fl) hn
      have fl1 := fun h => tu.fl1 hf h
      generalize hDi : D1 ++ ((bitsL more).take i).map (fun f => (f, e)) = Di at *
      have eD : D1 ++ ((bitsL more).take (i + 1)).map (fun f => (f, e)) = Di ++ [(f, e)] := by rw [tak hf, ← List.append_assoc, hDi]
      rw [eD] at sd1
      refine (q_dputI (j := 0) (ev_op (ev_var (i := 3) rfl) (ev_var (i := 6) rfl) (rv_ixO (j := 1) rfl (by omega) (nI_get he2))) (ev_var (i := 4) rfl) (ev_var (i := 8) rfl) rfl (by omega) ?_)
      rw [dk_add nw]
      have el : Di.length + 1 = (Di ++ [(f, e)]).length := by rw [List.length_append]; rfl
      rw [el]
      dsimp only [List.set]
      have ixa : Ev (tOp (rIx K) (tVar 2) (tVar 8)) [some (D K (dL (nI L))), some (Own qb), some (Own qa), some (Own qs), some (Own qd), some (D K (.int ((left ^^^ more : Nat) : Int))), some (D K (.int (t : Int))), some (D K (.int (more : Int))), some (D K (.int (f : Int)))] [(qd, MDO (dk (Di ++ [(f, e)])) (Di ++ [(f, e)]).length), (qs, MInts K (nI (srcs n b a Di))), (qa, MInts K a), (qb, MInts K b)] (D K (.int (at1 a f))) [(qd, MDO (dk (Di ++ [(f, e)])) (Di ++ [(f, e)]).length), (qs, MInts K (nI (srcs n b a Di))), (qa, MInts K a), (qb, MInts K b)] := ev_op (ev_var (i := 2) rfl) (ev_var (i := 8) rfl) (rv_ixO (j := 2) rfl (by omega) (i_at (by omega)))
      refine (q_if (et_test (ev_op ixa (ev_int (K := K) (i := 0)) (rv_b0 (g := fun i j => decide (i < j))))) (fun hz2 => ?_) fun hz2 => go_next ?_)
      · have hz2 : at1 a f < 0 := by simpa using hz2.symm
        refine Nx.le hE2 ?_
        refine nx_own (K := K) (i := 3) (j := 1) rfl hqs rfl ?_
        dsimp only [List.set, List.eraseIdx]
        refine nx_freezeFr (i := 4) 0 rfl hqd rfl ?_
        dsimp only [List.set, List.eraseIdx]
        exact go_ret Le.refl (ev_tup (K := K) (ea_cons (ev_var (i := 3) rfl) (ea_cons (ev_var (i := 4) rfl) (ea_cons (ev_var (i := 8) rfl) ea_nil))) (by simp)) (k ((Di ++ [(f, e)], srcs n b a Di), (f : Int)) (.inr ⟨(f, e), by simp, rfl, hz2, hN ▸ sd1⟩))
      · have hz2 : ¬ at1 a f < 0 := by simpa using hz2.symm
        obtain ⟨x, x1, x2, x3⟩ := mt.aI f2 rfl hz2
        rw [x2] at ixa
        refine go_app (j := 1) (ev_var (i := 3) rfl) ixa rfl rfl (by rw [List.length_map, nI_len]; exact Nat.lt_of_le_of_lt sl2 (by decide)) (JA.of ⟨_, rfl, ?_, ⟨by rw [eD]; exact sd1, fl1 hz2⟩⟩)
        rw [eD, srcs_add x2, nI_app, m_app]; rfl
    · rintro _ _ ⟨g8, rfl, rfl, tu⟩
      have ll : ((((bitsL more).map fun i : Nat => (i : Int)).map fun n : Int => D K (.int n))).length = (bitsL more).length := by rw [List.length_map, List.length_map]
      rw [ll] at tu ⊢
      refine go_aug (x := (t : Int)) (y := 1) rfl (ev_int (K := K) (i := 1)) (JA.of ⟨n + 1 - (t + 1), by omega, D1 ++ (bitsL more).map fun f => (f, e), _, t + 1, _, _, rfl, by rw [List.take_length], s.next he bm tu lf2, rfl⟩)
  · have hz : ¬ t < (srcs n b a D1).length := by rw [nI_len] at hz; simpa using hz.symm
    refine nx_own (K := K) (i := 3) (j := 1) rfl hqs rfl ?_
    dsimp only [List.set, List.eraseIdx]
    refine nx_freezeFr (i := 4) 0 rfl hqd rfl ?_
    dsimp only [List.set, List.eraseIdx]
    exact go_ret Le.refl (ev_tup (K := K) (ea_cons (ev_var (i := 3) rfl) (ea_cons (ev_var (i := 4) rfl) (ea_cons (ev_neg (ev_int (K := K) (i := 1))) ea_nil))) (by simp)) (k ((D1, srcs n b a D1), -1) (.inl ⟨rfl, hN ▸ s.shut hz, by rw [hN]⟩))
theorem use__searched {T : Txt K mg} {tr : TA} {Γ : Gm} {M M2 : Ms} {ls : Lets} {wd : List Int} {L : List Nat} {b a : List Int} {qb qa : Addr} {X : XK} (h : EvA tr Γ M [D K (dL (nI L)), Own qb, Own qa] ([(qa, MInts K a), (qb, MInts K b)] ++ M2)) (hn : AbOk ls wd L ∧ Mt wd.length (ltw ls wd) b a ∧ wd.length ≤ 40) : Ev (tCall (sp__searched T) [] X tr) Γ M (PEx fun x : ISr => PAn (phSr ls wd b a x) (pSr K x)) ([(qa, MInts K a), (qb, MInts K b)] ++ M2) :=
  (ev_callY (Mc := [(qa, MInts K a), (qb, MInts K b)]) (M2 := M2) (Mi := fun _ => [(qa, MInts K a), (qb, MInts K b)]) (Bi := fun _ => []) h (fun _ => rfl) fun vs H Q z => ⟨ls, wd, L, b, a, qb, qa, hn, by
    rw [List.append_nil]
    obtain ⟨F, a, b, c⟩ := z
    exact ⟨F, a, b, c⟩⟩).ev
end
end My
namespace My
open PySem L2 Hq
local macro_rules | `(tactic| trivial) => `(tactic| omega)
section
variable {P : Program} {wo : World} {K : PySem.W.Frag} {mg : Str → Option Value} {base : Heap}
/-! ### _take_steps -/
theorem sc__take_steps : FnScope ["behind", "ahead", "came_from", "end", "event", "below", "free"] ["behind", "ahead", "came_from", "end"] (defScope s__take_steps) := ⟨rfl, rfl, rfl, by decide +kernel, rfl, by decide +kernel, by decide +kernel⟩
abbrev phTs (ls : Lets) (wd : List Int) (b0 : List Int) (x : List Int × List Int) : Prop := Mt wd.length (ltw ls wd) x.1 x.2 ∧ (tops wd.length x.1).length < (tops wd.length b0).length
def sp__take_steps (T : Txt K mg) : Sp := fun vs H Q _ => ∃ (ls : Lets) (wd : List Int) (b a : List Int) (qb qa : Addr) (D1 : List (Nat × Nat)) (N : Nat) (p : Nat × Nat), (Mt wd.length (ltw ls wd) b a ∧ Sd wd.length (ltw ls wd) b a D1 ∧ D1[D1.length - 1]? = some p ∧ at1 a p.1 < 0 ∧ wd.length ≤ 40) ∧
  PromX [Own qb, Own qa, Fr (MDO (dk D1) N), D K (.int (p.1 : Int))] [(qa, MInts K a), (qb, MInts K b)] (phTs ls wd b) (fun _ => D K .none) (fun x => [(qa, MInts K x.2), (qb, MInts K x.1)]) vs H Q
theorem sp__take_steps_len {T : Txt K mg} {vs H Q E} (h : sp__take_steps T vs H Q E) : vs.length = 4 := by obtain ⟨_, _, _, _, _, _, _, _, _, _, _, _, p, _⟩ := h; exact paired_len p
set_option maxHeartbeats 4000000 in
theorem ok__take_steps (T : Txt K mg) : FnOk P wo K mg base CX0 1 T.f__take_steps T.d__take_steps ["behind", "ahead", "came_from", "end"] (sp__take_steps T) := by
  have nd := (sc__take_steps).nd
  refine T.F__take_steps.ok sc__take_steps (fun vs H Q E h => (sp__take_steps_len h)) (fun cdv A outer s H vs Q E hr h => ?_)
  obtain ⟨ls, wd, b0, a0, qb, qa, D1, N, p0, ⟨mt, sd, hp0, ha0, hn⟩, F, w, ps, k⟩ := h
  refine ⟨_, (pss_cons (ps_set (i := 4) nd rfl (Or.inl rfl) (pv 3))
    (pss_one (ps_while PassesOwn.never (pt_cmpR op_ge (pv 4) pe_int (nomark _)) (pss_cons (ps_set (i := 5) nd rfl (Or.inl rfl) (pe_dget (units1 hr) (pv 2) (pv 4) (fun _ _ => rfl)))
     (pss_cons (ps_set (i := 6) nd rfl (Or.inl rfl) (pe_ix (c_ix (K := K) rfl) (pv 0) (pv 5) (fun _ _ => rfl)))
     (pss_cons (ps_asg (pv 4) (pg_sub (pv 0) (pv 5) set_list))
     (pss_cons (ps_asg (pv 5) (pg_sub (pv 1) (pv 4) set_list))
     (pss_one (ps_set (i := 4) nd rfl (Or.inl rfl) (pv 6)))))))))), ?_⟩
  refine go_start w ps (Γ := [some (Own qb), some (Own qa), some (Fr (MDO (dk D1) N)), some (D K (.int (p0.1 : Int))), none, none, none]) rfl ?_
  refine (q_asg (ev_var (i := 3) rfl) ?_)
  dsimp only [List.set]
  refine (go_while (fun m Γ M => ∃ (ev : Int) (b a : List Int) (g5 g6 : Option MP), Γ = [some (Own qb), some (Own qa), some (Fr (MDO (dk D1) N)), some (D K (.int (p0.1 : Int))), some (D K (.int ev)), g5, g6] ∧ M = [(qa, MInts K a), (qb, MInts K b)] ∧ ((∃ (j : Nat) (p : Nat × Nat), ev = (p.1 : Int) ∧ D1[j]? = some p ∧ Pth wd.length (ltw ls wd) b0 a0 D1 j b a ∧ m = j + 1) ∨ (ev = -1 ∧ phTs ls wd b0 (b, a) ∧ m = 0))) (D1.length - 1 + 1) ⟨_, _, _, none, none, rfl, rfl, .inl ⟨_, p0, rfl, hp0, Pth.start mt hp0 ha0, rfl⟩⟩ ?_)
  rintro m _ _ ⟨ev, b, a, g5, g6, rfl, rfl, inv⟩
  refine ⟨_, _, et_test (ev_op (ev_var (i := 4) rfl) (ev_int (K := K) (i := 0)) (rv_b0 (g := fun i j => decide (j ≤ i)))), fun hz => ?_, fun hz => ?_⟩
  · have hz : 0 ≤ ev := by simpa using hz.symm
    obtain ⟨j, p, rfl, hp, pth, rfl⟩ := inv.resolve_right (fun c => by omega)
    obtain ⟨p1, p2, pl⟩ := sd.ok p (List.mem_of_getElem? hp)
    have ho := pth.ho p hp
    have lb := ho.lb; have la := ho.la
    refine (q_asg (ev_dgetFI (ev_var (i := 2) rfl) (ev_var (i := 4) rfl) (dk_some sd.nd (List.mem_of_getElem? hp))) ?_)
    dsimp only [List.set]
    refine (q_asg (ev_op (ev_var (i := 0) rfl) (ev_var (i := 5) rfl) (rv_ixO (j := 1) rfl (by omega) (i_at (by omega)))) ?_)
    dsimp only [List.set]
    refine (q_setL (j := 1) (ev_var (i := 4) rfl) (ev_var (i := 0) rfl) (ev_var (i := 5) rfl) rfl (by omega) (by rw [List.length_map]; omega) ?_)
    rw [i_set]
    dsimp only [List.set]
    refine (q_setL (j := 0) (ev_var (i := 5) rfl) (ev_var (i := 1) rfl) (ev_var (i := 4) rfl) rfl (by omega) (by rw [List.length_map]; omega) ?_)
    rw [i_set]
    dsimp only [List.set]
    refine go_asg (ev_var (i := 6) rfl) ?_
    rcases pth.step mt sd hp with ⟨e1, e2, e3⟩ | ⟨i, q, q1, q2, q3, q4⟩
    · exact JA.of ⟨0, Nat.zero_lt_succ _, at1 b p.2, _, _, _, _, rfl, rfl, .inr ⟨e1, ⟨e2, e3⟩, rfl⟩⟩
    · exact JA.of ⟨i + 1, by omega, at1 b p.2, _, _, _, _, rfl, rfl, .inl ⟨i, q, q3, q2, q4, rfl⟩⟩
  · have hz : ¬ 0 ≤ ev := by simpa using hz.symm
    obtain ⟨e1, e2, e3⟩ := inv.resolve_left (fun ⟨j, p, c, _⟩ => by omega)
    exact fun σ H ⟨F, aa, bb⟩ => k (b, a) e2 V.non F H aa .non
theorem use__take_steps {T : Txt K mg} {tr : TA} {Γ : Gm} {M M2 : Ms} {ls : Lets} {wd : List Int} {b a : List Int} {qb qa : Addr} {D1 : List (Nat × Nat)} {N : Nat} {p : Nat × Nat} {X : XK} (h : EvA tr Γ M [Own qb, Own qa, Fr (MDO (dk D1) N), D K (.int (p.1 : Int))] ([(qa, MInts K a), (qb, MInts K b)] ++ M2))
    (hn : Mt wd.length (ltw ls wd) b a ∧ Sd wd.length (ltw ls wd) b a D1 ∧ D1[D1.length - 1]? = some p ∧ at1 a p.1 < 0 ∧ wd.length ≤ 40) : EvX (tCall (sp__take_steps T) [] X tr) Γ M (phTs ls wd b) (fun _ => D K .none) (fun x : List Int × List Int => [(qa, MInts K x.2), (qb, MInts K x.1)] ++ M2) :=
  ev_callY (Mc := [(qa, MInts K a), (qb, MInts K b)]) (M2 := M2) (Mi := fun x : List Int × List Int => [(qa, MInts K x.2), (qb, MInts K x.1)]) (Bi := fun _ => []) h (fun _ => rfl) fun vs H Q z => ⟨ls, wd, b, a, qb, qa, D1, N, p, hn, by
    rw [List.append_nil]
    obtain ⟨F, a, b, c⟩ := z
    exact ⟨F, a, b, c⟩⟩
end
end My
namespace My
open PySem L2 Hq
local macro_rules | `(tactic| trivial) => `(tactic| omega)
section
variable {P : Program} {wo : World} {K : PySem.W.Frag} {mg : Str → Option Value} {base : Heap}
/-! ### _row -/
theorem sc__row : FnScope ["behind", "first", "row", "event"] ["behind", "first"] (defScope s__row) := ⟨rfl, rfl, rfl, by decide +kernel, rfl, by decide +kernel, by decide +kernel⟩
def sp__row (T : Txt K mg) : Sp := fun vs H Q _ => ∃ (ls : Lets) (wd : List Int) (b a : List Int) (e : Nat), (Mt wd.length (ltw ls wd) b a ∧ e < wd.length ∧ wd.length ≤ 40) ∧ Prom [D K (dL b), D K (.int (e : Int))] [] (D K (dL (nI (chn b wd.length e)))) [] vs H Q
theorem sp__row_len {T : Txt K mg} {vs H Q E} (h : sp__row T vs H Q E) : vs.length = 2 := by obtain ⟨_, _, _, _, _, _, h⟩ := h; exact h.len
set_option maxHeartbeats 4000000 in
theorem ok__row (T : Txt K mg) : FnOk P wo K mg base CX0 1 T.f__row T.d__row ["behind", "first"] (sp__row T) := by
  have nd := (sc__row).nd
  refine T.F__row.ok sc__row (fun vs H Q E h => (sp__row_len h)) (fun cdv A outer s H vs Q E hr h => ?_)
  obtain ⟨ls, wd, b, a, e, ⟨mt, he, hn⟩, F, w, ps, k⟩ := h
  refine ⟨_, (pss_cons (ps_set (i := 2) nd rfl (Or.inl rfl) (pe_lst pa_nil))
    (pss_cons (ps_set (i := 3) nd rfl (Or.inl rfl) (pv 1))
    (pss_cons (ps_while PassesOwn.never (pt_cmpR op_ge (pv 3) pe_int (nomark _)) (pss_cons (ps_expr (pe_bm PySem.F.plainAttrs_list PySem.F.slot_list_append PySem.F.type_list_append mt_append (pv 2) (pa_cons (pv 3) pa_nil)))
     (pss_one (ps_set (i := 3) nd rfl (Or.inl rfl) (pe_ix (c_ix (K := K) rfl) (pv 0) (pv 3) (fun _ _ => rfl))))))
    (pss_one (ps_ret (pv 2)))))), ?_⟩
  refine go_start w ps (Γ := [some (D K (dL b)), some (D K (.int (e : Int))), none, none]) rfl ?_
  have lb := mt.lb
  obtain ⟨c1, c2, c3, c4⟩ := chn_ok mt (fun e f h => h.1) wd.length e he (by omega)
  have cl : (chn b wd.length e).length ≤ wd.length := by
    have := nodup_le (c3.imp fun q => Nat.ne_of_lt q) (m := List.range wd.length) fun x hx => List.mem_range.mpr (c2 x hx).1
    rwa [List.length_range] at this
  refine (q_asgN (evn_lst (ps := []) ea_nil (by simp)) fun qr hqr => ?_)
  dsimp only [List.set]
  refine (q_asg (ev_var (i := 1) rfl) ?_)
  dsimp only [List.set]
  refine (q_while (fun m Γ M => ∃ (L : List Nat) (ev : Int), Γ = [some (D K (dL b)), some (D K (.int (e : Int))), some (Own qr), some (D K (.int ev))] ∧ M = [(qr, MInts K (nI L))] ∧ ((∃ (x mm : Nat), ev = (x : Int) ∧ x < wd.length ∧ wd.length ≤ x + mm ∧ chn b wd.length e = L ++ chn b mm x ∧ m = mm + 1) ∨ (ev = -1 ∧ chn b wd.length e = L ∧ m = 0))) (wd.length + 1) ⟨[], _, rfl, rfl, .inl ⟨e, wd.length, rfl, he, by omega, rfl, rfl⟩⟩ ?_)
  rintro m _ _ ⟨L, ev, rfl, rfl, inv⟩
  refine ⟨_, _, et_test (ev_op (ev_var (i := 3) rfl) (ev_int (K := K) (i := 0)) (rv_b0 (g := fun i j => decide (j ≤ i)))), fun hz => ?_, fun hz => ?_⟩
  · have hz : 0 ≤ ev := by simpa using hz.symm
    obtain ⟨x, mm, rfl, x1, x2, x3, rfl⟩ := inv.resolve_right (fun c => by omega)
    obtain ⟨mm, rfl⟩ : ∃ z, mm = z + 1 := ⟨mm - 1, by omega⟩
    have Ll : L.length ≤ wd.length := by
      have := congrArg List.length x3
      rw [List.length_append] at this
      omega
    refine (q_app (j := 0) (ev_var (i := 2) rfl) (ev_var (i := 3) rfl) rfl rfl (by rw [List.length_map, nI_len]; omega) ?_)
    have em : (nI L).map (fun n : Int => D K (.int n)) ++ [D K (.int (x : Int))] = (nI (L ++ [x])).map fun n : Int => D K (.int n) := by rw [nI_app, List.map_append]; rfl
    rw [em]
    dsimp only [List.set]
    refine go_asg (ev_op (ev_var (i := 0) rfl) (ev_var (i := 3) rfl) (rv_ixDL (d := .int (at1 b x)) (by omega) ?_)) ?_
    · unfold at1
      rw [Int.toNat_natCast, List.getElem?_map, List.getElem?_eq_getElem (by omega), List.getD_eq_getElem?_getD, List.getElem?_eq_getElem (by omega)]; rfl
    rw [chn, ← List.singleton_append, ← List.append_assoc] at x3
    by_cases z : at1 b x < 0
    · rw [if_pos z, List.append_nil] at x3
      have : at1 b x = -1 := by rcases mt.bk x x1 with q | ⟨f, _, q, _⟩ <;> omega
      exact JA.of ⟨0, Nat.zero_lt_succ _, L ++ [x], at1 b x, rfl, rfl, .inr ⟨this, x3, rfl⟩⟩
    · rw [if_neg z] at x3
      obtain ⟨f, f1, f2, f3, _⟩ := mt.bI x1 rfl z
      have fx := f3.1
      rw [f2, Int.toNat_natCast] at x3
      exact JA.of ⟨mm + 1, by omega, L ++ [x], at1 b x, rfl, rfl, .inl ⟨f, mm, f2, f1, by omega, x3, rfl⟩⟩
  · have hz : ¬ 0 ≤ ev := by simpa using hz.symm
    obtain ⟨_, e2, _⟩ := inv.resolve_left (fun ⟨j, p, c, _⟩ => by omega)
    refine nx_own (K := K) (i := 2) (j := 0) rfl hqr rfl ?_
    dsimp only [List.set, List.eraseIdx]
    rw [e2] at k
    exact go_ret Le.refl (ev_var (i := 2) rfl) k
theorem use__row {T : Txt K mg} {tr : TA} {Γ : Gm} {M M1 : Ms} {ls : Lets} {wd : List Int} {b a : List Int} {e : Nat} {X : XK} (h : EvA tr Γ M [D K (dL b), D K (.int (e : Int))] M1) (hn : Mt wd.length (ltw ls wd) b a ∧ e < wd.length ∧ wd.length ≤ 40) : Ev (tCall (sp__row T) [] X tr) Γ M (D K (dL (nI (chn b wd.length e)))) M1 :=
  call0 h fun vs H Q z => ⟨ls, wd, b, a, e, hn, z⟩
end
end My
namespace My
open PySem L2 Hq
local macro_rules | `(tactic| trivial) => `(tactic| omega)
section
variable {P : Program} {wo : World} {K : PySem.W.Frag} {mg : Str → Option Value} {base : Heap}
/-! ### widest -/
theorem sc_widest : FnScope ["alphabet", "word", "above", "behind", "ahead", "sources", "came_from", "end", "apart", "event"] ["alphabet", "word"] (defScope s_widest) := ⟨rfl, rfl, rfl, by decide +kernel, rfl, by decide +kernel, by decide +kernel⟩
structure W56 (ls : Lets) (wd : List Int) (x : List Int) (R : List (List Nat)) : Prop where
  pw : x.Pairwise (· < ·)
  ln : x.length = R.length
  rg : ∀ e ∈ x, 0 ≤ e ∧ e < (wd.length : Int)
  an : ∀ e f : Nat, (e : Int) ∈ x → (f : Int) ∈ x → ¬ ltw ls wd e f
  rk : ∀ r ∈ R, r ≠ [] ∧ (∀ y ∈ r, y < wd.length) ∧ ∀ (i x y : Nat), r[i]? = some x → r[i + 1]? = some y → ltw ls wd x y
  pm : R.flatten.Perm (List.range wd.length)
theorem q_unp3g {E : Ent} {Γ : Gm} {M M1 : Ms} {te : TE} {D1 : Ends} {i j l : Nat} {α : Type} {φ : α → Prop} {R1 R2 R3 : α → MP} (h : Ev te Γ M (PEx fun x => PAn (φ x) (PTu K [R1 x, R2 x, R3 x])) M1) (k : ∀ x, φ x → Nx E (((Γ.set i (some (R1 x))).set j (some (R2 x))).set l (some (R3 x))) M1 D1.nx) : Nx E Γ M (tAsg te (gTup K 3 (gCons (gName i) (gCons (gName j) (gCons (gName l) gNil)))) D1) := q_unp3 (D1 := D1) (tz := fun D => D.nx) h k
theorem nx_new {E : Ent} {Γ : Gm} {M : Ms} {f : St → Hp → Prop} {j : Nat} {q : Addr} {O : MO} (e : M[j]? = some (q, O)) (hk : E.ks = []) (h : E.H q = none → Nx E Γ M f) : Nx E Γ M f := fun σ H a => h (by
  obtain ⟨F, pt, _⟩ := a
  rcases pt.fr _ (List.mem_of_getElem? e) with z | z
  · rw [hk] at z; cases z
  · exact z) σ H a
theorem w56_of {ls : Lets} {wd : List Int} {b a : List Int} {D1 : List (Nat × Nat)} {ns : List Int} (mt : Mt wd.length (ltw ls wd) b a) (s : Shut wd.length (ltw ls wd) b a D1) (hp : ns.Perm (nI (apt wd.length b a D1))) (ho : ns.Pairwise (· ≤ ·)) : W56 ls wd ns ((tops wd.length a).map fun h => chn b wd.length h) := by
  have nd0 : (apt wd.length b a D1).Nodup := (srcs_nd mt s.sd s.fl).sublist List.filter_sublist
  have nd : ns.Nodup := by
    refine hp.nodup_iff.mpr ?_
    unfold nI
    rw [List.nodup_iff_pairwise_ne, List.pairwise_map]
    exact nd0.imp fun h c => h (by omega)
  have mem : ∀ e : Int, e ∈ ns → ∃ f : Nat, f ∈ apt wd.length b a D1 ∧ e = (f : Int) := fun e he => by
    obtain ⟨f, hf, e1⟩ := List.mem_map.mp (hp.mem_iff.mp he)
    exact ⟨f, hf, e1.symm⟩
  refine ⟨?_, ?_, fun e he => ?_, fun e f he hf c => ?_, fun r hr => ?_, rows_perm mt fun e f h => h.1⟩
  · exact (ho.and nd).imp fun ⟨h1, h2⟩ => by omega
  · rw [hp.length_eq, nI_len, s.len mt ltw_tr, tops_len mt, List.length_map]
  · obtain ⟨f, hf, rfl⟩ := mem e he
    have := srcs_lt mt s.sd s.fl f (List.mem_filter.mp hf).1
    omega
  · obtain ⟨e', he', e1⟩ := mem _ he
    obtain ⟨f', hf', e2⟩ := mem _ hf
    have : e' = e := by omega
    subst this
    have : f' = f := by omega
    subst this
    exact s.anti mt he' hf' c
  · obtain ⟨h, hh, rfl⟩ := List.mem_map.mp hr
    obtain ⟨c1, c2, c3, c4⟩ := chn_ok mt (fun e f h => h.1) wd.length h (mem_tops.mp hh).1 (by omega)
    exact ⟨c1, fun y hy => (c2 y hy).1, c4⟩
abbrev dRows (R : List (List Nat)) : PyData := .list (R.map fun r => dL (nI r))
abbrev pW56 (K : PySem.W.Frag) (ls : Lets) (wd : List Int) : MP := PEx fun x : List Int × List (List Nat) => PAn (W56 ls wd x.1 x.2) (D K (.tuple [dL x.1, dRows x.2]))
def sp_widest (T : Txt K mg) : Sp := fun vs H Q _ => ∃ (n : Int) (ls : Lets) (wd : List Int), (AlphaOk n ls ∧ WordOk ls wd ∧ wd.length ≤ 40) ∧ Prom [PAl T n ls, D K (dT wd)] [] (pW56 K ls wd) [] vs H Q
theorem sp_widest_len {T : Txt K mg} {vs H Q E} (h : sp_widest T vs H Q E) : vs.length = 2 := by obtain ⟨_, _, _, _, h⟩ := h; exact h.len
set_option maxHeartbeats 4000000 in
theorem ok_widest (T : Txt K mg) : FnOk P wo K mg base CX0 4 T.f_widest T.d_widest ["alphabet", "word"] (sp_widest T) := by
  have nd := (sc_widest).nd
  refine T.F_widest.ok sc_widest (fun vs H Q E h => (sp_widest_len h)) (fun cdv A outer s H vs Q E hr h => ?_)
  obtain ⟨n, ls, wd, ⟨A, hw, hl⟩, F, w, ps, k⟩ := h
  refine ⟨_, (pss_cons (ps_set (i := 2) nd rfl (Or.inl rfl) (pe_call (ok__masks_above T) (hr.mono (by decide)) rfl T.m__masks_above T.F__masks_above.kp T.b__masks_above .nil pass0 (pa_cons (pv 0) (pa_cons (pv 1) pa_nil))))
    (pss_cons (ps_asg (pe_call (ok__first_rows T) (hr.mono (by decide)) rfl T.m__first_rows T.F__first_rows.kp T.b__first_rows .nil pass0 (pa_cons (pv 0) (pa_cons (pv 1) pa_nil))) (pg_tupK (K := K) (n := 2) rfl (by rfl) (pgs_cons (pg_name (i := 3) nd rfl (by first | exact Or.inl rfl | exact Or.inr rfl)) (pgs_cons (pg_name (i := 4) nd rfl (by first | exact Or.inl rfl | exact Or.inr rfl)) pgs_nil))))
    (pss_cons (ps_asg (pe_call (ok__searched T) (hr.mono (by decide)) rfl T.m__searched T.F__searched.kp T.b__searched .nil pass0 (pa_cons (pv 2) (pa_cons (pv 3) (pa_cons (pv 4) pa_nil)))) (pg_tupK (K := K) (n := 3) rfl (by rfl) (pgs_cons (pg_name (i := 5) nd rfl (by first | exact Or.inl rfl | exact Or.inr rfl)) (pgs_cons (pg_name (i := 6) nd rfl (by first | exact Or.inl rfl | exact Or.inr rfl)) (pgs_cons (pg_name (i := 7) nd rfl (by first | exact Or.inl rfl | exact Or.inr rfl)) pgs_nil)))))
    (pss_cons (ps_while PassesOwn.never (pt_cmpR op_ge (pv 7) pe_int (nomark _)) (pss_cons (ps_expr (pe_call (ok__take_steps T) (hr.mono (by decide)) rfl T.m__take_steps T.F__take_steps.kp T.b__take_steps .nil pass0 (pa_cons (pv 3) (pa_cons (pv 4) (pa_cons (pv 6) (pa_cons (pv 7) pa_nil))))))
     (pss_one (ps_asg (pe_call (ok__searched T) (hr.mono (by decide)) rfl T.m__searched T.F__searched.kp T.b__searched .nil pass0 (pa_cons (pv 2) (pa_cons (pv 3) (pa_cons (pv 4) pa_nil)))) (pg_tupK (K := K) (n := 3) rfl (by rfl) (pgs_cons (pg_name (i := 5) nd rfl (by first | exact Or.inl rfl | exact Or.inr rfl)) (pgs_cons (pg_name (i := 6) nd rfl (by first | exact Or.inl rfl | exact Or.inr rfl)) (pgs_cons (pg_name (i := 7) nd rfl (by first | exact Or.inl rfl | exact Or.inr rfl)) pgs_nil))))))))
    (pss_cons (ps_set (i := 8) nd rfl (Or.inl rfl) (pe_callB (c_sorted (K := K) rfl) (by rfl) T.z_sorted (by decide +kernel) (pa_cons (pe_lc (own := [("event", 9)]) (by rfl) nd (pi_listK (K := K) rfl (pv 5)) (blkOk_by (N := ["alphabet", "word", "above", "behind", "ahead", "sources", "came_from", "end", "apart", "event"]) (sc := defScope s_widest) (own := [("event", 9)]) (by decide +kernel)) (fun _ _ _ _ _ => pg_name (i := 9) nd rfl (by first | exact Or.inl rfl | exact Or.inr rfl)) (fun _ _ _ _ _ => (pts_one (pt_cmp (pc_dnotin (units1 hr) (pv 9) (pv 6))))) (fun _ _ _ _ _ => (pv 9))) pa_nil)))
    (pss_one (ps_ret (pe_tup (pa_cons (pv 8) (pa_cons (pe_lc (own := [("event", 9)]) (by rfl) nd (pi_range1 (by rfl) T.z_range (pa_cons (pe_callB (c_len (K := K) rfl) (by rfl) T.z_len PySem.boot_len (pa_cons (pv 1) pa_nil)) pa_nil)) (blkOk_by (N := ["alphabet", "word", "above", "behind", "ahead", "sources", "came_from", "end", "apart", "event"]) (sc := defScope s_widest) (own := [("event", 9)]) (by decide +kernel)) (fun _ _ _ _ _ => pg_name (i := 9) nd rfl (by first | exact Or.inl rfl | exact Or.inr rfl)) (fun _ _ _ _ _ => (pts_one (pt_cmpR op_lt (pe_ix (c_ix (K := K) rfl) (pv 4) (pv 9) (fun _ _ => rfl)) pe_int (nomark _)))) (fun _ _ _ _ _ => (pe_call (ok__row T) (hr.mono (by decide)) rfl T.m__row T.F__row.kp T.b__row .nil pass0 (pa_cons (pv 3) (pa_cons (pv 9) pa_nil))))) pa_nil)))))))))), ?_⟩
  refine go_start w ps (Γ := [some (PAl T n ls), some (D K (dT wd)), none, none, none, none, none, none, none, none]) rfl ?_
  refine (q_asg (use__masks_above (ea_cons (ev_var (i := 0) rfl) (ea_cons (ev_var (i := 1) rfl) ea_nil)) ⟨A, hw, hl⟩) (nx_ex (i := 2) rfl fun L => nx_an (i := 2) rfl fun hL => ?_))
  dsimp only [List.set]
  refine (q_unp2X (use__first_rows (ea_cons (ev_var (i := 0) rfl) (ea_cons (ev_var (i := 1) rfl) ea_nil)) ⟨A, hw, hl⟩) fun x mt => ?_)
  obtain ⟨⟨qb, qa⟩, b, a⟩ := x
  dsimp only [List.set]
  show Nx _ [some (PAl T n ls), some (D K (dT wd)), some (D K (dL (nI L))), some (Own qb), some (Own qa), none, none, none, none, none] [(qa, MInts K a), (qb, MInts K b)] _
  refine nx_new (j := 0) rfl rfl fun hqa => nx_new (j := 1) rfl rfl fun hqb => ?_
  refine (q_unp3 (use__searched (M2 := []) (ea_cons (ev_var (i := 2) rfl) (ea_cons (ev_var (i := 3) rfl) (ea_cons (ev_var (i := 4) rfl) ea_nil))) ⟨hL, mt, hl⟩) fun x hx => ?_)
  dsimp only [List.set]
  refine (q_while (fun m Γ M => ∃ (b a : List Int) (x : ISr), Γ = [some (PAl T n ls), some (D K (dT wd)), some (D K (dL (nI L))), some (Own qb), some (Own qa), some (D K (dL (nI x.1.2))), some (Fr (MDO (dk x.1.1) x.1.1.length)), some (D K (.int x.2)), none, none] ∧ M = [(qa, MInts K a), (qb, MInts K b)] ∧ Mt wd.length (ltw ls wd) b a ∧ phSr ls wd b a x ∧ m = (tops wd.length b).length) _ ⟨b, a, x, rfl, rfl, mt, hx, rfl⟩ ?_)
  rintro m _ _ ⟨b, a, x, rfl, rfl, mt, hx, rfl⟩
  obtain ⟨⟨D1, S⟩, ev⟩ := x
  refine ⟨_, _, et_test (ev_op (ev_var (i := 7) rfl) (ev_int (K := K) (i := 0)) (rv_b0 (g := fun i j => decide (j ≤ i)))), fun hz => ?_, fun hz => ?_⟩
  · have hz : 0 ≤ ev := by simpa using hz.symm
    obtain ⟨p, hp, e1, hp2, sd⟩ := hx.resolve_left (fun c => by have := c.1; omega)
    have e1 : ev = (p.1 : Int) := e1
    subst e1
    refine (q_dropX (use__take_steps (M2 := []) (ea_cons (ev_var (i := 3) rfl) (ea_cons (ev_var (i := 4) rfl) (ea_cons (ev_var (i := 6) rfl) (ea_cons (ev_var (i := 7) rfl) ea_nil)))) ⟨mt, sd, hp, hp2, hl⟩) fun y hy => ?_)
    obtain ⟨b2, a2⟩ := y
    refine q_unp3g (use__searched (M2 := []) (ea_cons (ev_var (i := 2) rfl) (ea_cons (ev_var (i := 3) rfl) (ea_cons (ev_var (i := 4) rfl) ea_nil))) ⟨hL, hy.1, hl⟩) fun x hx => ?_
    dsimp only [List.set]
    exact JA.of ⟨_, hy.2, b2, a2, x, rfl, rfl, hy.1, hx, rfl⟩
  · have hz : ¬ 0 ≤ ev := by simpa using hz.symm
    obtain ⟨_, s, hS⟩ := hx.resolve_right (fun ⟨p, _, c, _⟩ => by have c : ev = (p.1 : Int) := c; omega)
    have hS : S = srcs wd.length b a D1 := hS
    have s : Shut wd.length (ltw ls wd) b a D1 := s
    subst hS
    have sl := srcs_len mt s.sd s.fl
    have lc := evn_lcL (K := K) (xs := srcs wd.length b a D1) (R := fun x : Nat => D K (.int (x : Int))) (G := fun x : Nat => D K (.int (x : Int))) (i := 9) (M := [(qa, MInts K a), (qb, MInts K b)]) (M1 := [(qa, MInts K a), (qb, MInts K b)]) (Γ := [some (PAl T n ls), some (D K (dT wd)), some (D K (dL (nI L))), some (Own qb), some (Own qa), some (D K (dL (nI (srcs wd.length b a D1)))), some (Fr (MDO (dk D1) D1.length)), some (D K (.int ev)), none, none]) (tl := tVar 5) (t := tB (tDNotIn (tVar 9) (tVar 6))) (te := tVar 9) (fun e => !decide (e ∈ D1.map Prod.fst)) ((ev_var (i := 5) rfl).weak (MP.le_trans le_dL (MP.of_eq (by unfold nI; rw [List.map_map]; rfl)))) (Nat.le_trans sl (Nat.le_trans hl (by decide))) (fun x hx => (et_val (ev_dnotinFI (ev_var (i := 9) rfl) (ev_var (i := 6) rfl))).is (by rw [dk_isSome])) (fun x hx _ => ev_var (i := 9) rfl)
    have lp : ((srcs wd.length b a D1).filter fun e => !decide (e ∈ D1.map Prod.fst)).map (fun x : Nat => D K (.int (x : Int))) = (nI (apt wd.length b a D1)).map fun n : Int => D K (.int n) := by
      unfold nI apt
      rw [List.map_map]; rfl
    rw [lp] at lc
    refine (q_asgN (evn_cb (ea_cons (ev_newL (K := K) lc) ea_nil) rcn_sortedI) fun qp hqp => nx_exM (j := 0) rfl fun ns => nx_anM (j := 0) rfl fun hns => ?_)
    dsimp only [List.set]
    refine nx_own (K := K) (i := 8) (j := 0) rfl hqp rfl ?_
    dsimp only [List.set, List.eraseIdx]
    refine nx_own (K := K) (i := 4) (j := 0) rfl hqa rfl ?_
    dsimp only [List.set, List.eraseIdx]
    refine nx_own (K := K) (i := 3) (j := 0) rfl hqb rfl ?_
    dsimp only [List.set, List.eraseIdx]
    have la := mt.la
    have lr := evn_lcR (K := K) (z := (wd.length : Int)) (i := 9) (G := fun e : Nat => D K (dL (nI (chn b wd.length e)))) (M := []) (M1 := []) (Γ := [some (PAl T n ls), some (D K (dT wd)), some (D K (dL (nI L))), some (D K (dL b)), some (D K (dL a)), some (D K (dL (nI (srcs wd.length b a D1)))), some (Fr (MDO (dk D1) D1.length)), some (D K (.int ev)), some (D K (dL ns)), none]) (t := tTest (tOp (rI0 fun i j => V.bl (decide (i < j))) (tOp (rIx K) (tVar 4) (tVar 9)) (tC (V.int 0)))) (te := tCall (sp__row T) [] E0 (tCons (tVar 3) (tCons (tVar 9) tNil))) (tr := tCons (tCB (rLn K) (tCons (tVar 1) tNil)) tNil) (fun e => decide (at1 a e < 0)) (ea_cons (ev_lenMT (f := PyData.int) (ev_var (i := 1) rfl)) ea_nil) (by omega) (fun x hx => et_test (ev_op (ev_op (ev_var (i := 4) rfl) (ev_var (i := 9) rfl) (rv_ixDL (d := .int (at1 a x)) (by omega) (by
        unfold at1
        rw [Int.toNat_natCast, List.getElem?_map, List.getElem?_eq_getElem (by omega), List.getD_eq_getElem?_getD, List.getElem?_eq_getElem (by omega)]; rfl))) (ev_int (K := K) (i := 0)) (rv_b0 (g := fun i j => decide (i < j)))))
      (fun x hx _ => use__row (T := T) (X := E0) (a := a) (ea_cons (ev_var (i := 3) rfl) (ea_cons (ev_var (i := 9) rfl) ea_nil)) ⟨mt, by omega, hl⟩)
    refine go_ret Le.refl (ev_tup (K := K) (ea_cons (ev_var (i := 8) rfl) (ea_cons (ev_newL (K := K) lr) ea_nil)) (by simp)) (Rt.weak (MP.le_trans ?_ (MP.le_trans (PAn.in (φ := W56 ls wd ns ((tops wd.length a).map fun h => chn b wd.length h)) (w56_of mt s hns.1 hns.2)) (PEx.in (R := fun x : List Int × List (List Nat) => PAn (W56 ls wd x.1 x.2) (D K (.tuple [dL x.1, dRows x.2]))) (ns, (tops wd.length a).map fun h => chn b wd.length h)))) k)
    rintro F v ⟨p, vs, e, s2, h⟩
    obtain ⟨x, y, rfl, hx, hy⟩ := ps2 h
    subst e
    refine .tup s2 (.cons hx (.cons (Lm_le (f := fun r => dL (nI r)) _ _ ?_) .nil))
    rw [List.map_map]
    exact hy
theorem use_widest {T : Txt K mg} {tr : TA} {Γ : Gm} {M M1 : Ms} {n : Int} {ls : Lets} {wd : List Int} {X : XK} (h : EvA tr Γ M [PAl T n ls, D K (dT wd)] M1) (hn : AlphaOk n ls ∧ WordOk ls wd ∧ wd.length ≤ 40) : Ev (tCall (sp_widest T) [] X tr) Γ M (pW56 K ls wd) M1 :=
  call0 h fun vs H Q z => ⟨n, ls, wd, hn, z⟩
end
end My
namespace My
open PySem L2 Hq
local macro_rules | `(tactic| trivial) => `(tactic| omega)
section
variable {P : Program} {wo : World} {K : PySem.W.Frag} {mg : Str → Option Value} {base : Heap}
/-! ### law -/
theorem sc_law : FnScope ["script", "draws", "count", "letters", "word", "found", "apart", "rows", "below", "event", "seen", "row", "k", "other"] ["script"] (defScope s_law) := ⟨rfl, rfl, rfl, by decide +kernel, rfl, by decide +kernel, by decide +kernel⟩
def spLaw (K : PySem.W.Frag) : Sp := fun vs H Q _ => ∃ (a : Addr) (ns : List Int), vs = [.ref a] ∧ SqL K H a (ns.map V.int) ∧ ns.length ≤ 63 ∧ ∀ H', Q (.bl true) H'
def sp_law (T : Txt K mg) : Sp := spLaw K
theorem sp_law_len {T : Txt K mg} {vs H Q E} (h : sp_law T vs H Q E) : vs.length = 1 := by obtain ⟨a, ns, rfl, _⟩ := h; rfl
theorem dl_ints {M1 : Ms} {ns : List Int} : ∀ E F H v, Pt E F M1 H → (D K (dL ns)).p F v → ∃ a, v = .ref a ∧ (SqL K H a (ns.map V.int) ∨ SqT K H a (ns.map V.int)) := fun E F H v g h => by
  obtain ⟨p, vs, rfl, s, q⟩ := le_dL _ _ h
  have e := ints_map q
  subst e
  exact ⟨p, rfl, .inl (Evl.ex_l g.ex s)⟩
theorem le_int {a b : Int} (h : a < b) : a ≤ b := Int.le_of_lt h
theorem set_uniq {l m : List Int} (hl : l.Pairwise (· < ·)) (hm : m.Pairwise (· < ·)) (h : ∀ k, k ∈ m ↔ k ∈ l) : m = l := by
  refine sorted_unique ((List.perm_ext_iff_of_nodup (hm.imp fun q => Int.ne_of_lt q) (hl.imp fun q => Int.ne_of_lt q)).mpr h) (hm.imp le_int) (hl.imp le_int)
set_option maxHeartbeats 4000000 in
theorem ok_law (T : Txt K mg) : FnOk P wo K mg base CX0 5 T.f_law T.d_law ["script"] (sp_law T) := by
  have nd := (sc_law).nd
  refine T.F_law.ok sc_law (fun vs H Q E h => (sp_law_len h)) (fun cdv A outer s H vs Q E hr h => ?_)
  obtain ⟨a0, ns, rfl, hS, hns, k0⟩ := h
  have w : Wd H [] H := ⟨Evl.Ex.refl _, List.nodup_nil, fun r hr => by cases hr⟩
  have ps : Ps H [.ref a0] [PLi K (ns.map fun n => D K (.int n))] := .cons ⟨a0, _, rfl, hS, map_ints ns⟩ .nil
  have k : ∀ M, Rt ⟨H, H, keys []⟩ M (D K (.bool true)) Q := fun M v F H' _ hv => by cases dp_bl hv; exact k0 H'
  refine ⟨_, (pss_cons (ps_set (i := 1) nd rfl (Or.inl rfl) (pe_call (ok__law_draws T) (hr.mono (by decide)) rfl T.m__law_draws T.F__law_draws.kp T.b__law_draws .nil pass0 (pa_cons (pv 0) (pa_cons pe_int pa_nil))))
    (pss_cons (ps_asg (pe_call (ok__law_alphabet T) (hr.mono (by decide)) rfl T.m__law_alphabet T.F__law_alphabet.kp T.b__law_alphabet .nil pass0 (pa_cons (pv 1) (pa_cons pe_int (pa_cons pe_int pa_nil)))) (pg_tupK (K := K) (n := 2) rfl (by rfl) (pgs_cons (pg_name (i := 2) nd rfl (by first | exact Or.inl rfl | exact Or.inr rfl)) (pgs_cons (pg_name (i := 3) nd rfl (by first | exact Or.inl rfl | exact Or.inr rfl)) pgs_nil))))
    (pss_cons (ps_set (i := 4) nd rfl (Or.inl rfl) (pe_call (ok__law_word T) (hr.mono (by decide)) rfl T.m__law_word T.F__law_word.kp T.b__law_word .nil pass0 (pa_cons (pv 1) (pa_cons (pe_callB (c_len (K := K) rfl) (by rfl) T.z_len PySem.boot_len (pa_cons (pv 3) pa_nil)) (pa_cons pe_int pa_nil)))))
    (pss_cons (ps_set (i := 5) nd rfl (Or.inl rfl) (pe_call (ok_widest T) (hr.mono (by decide)) rfl T.m_widest T.F_widest.kp T.b_widest .nil pass0 (pa_cons (pe_make ⟨T.mk_Alphabet, T.in_Alphabet, T.if_Alphabet, T.kc_Alphabet⟩ (ok_Alphabet_init T) (hr.mono (by decide)) rfl T.mc_Alphabet T.b_Alphabet_init .nil pass0 (pa_cons (pv 2) (pa_cons (pe_callTy (c_list (K := K) rfl) (by rfl) T.z_list (by decide +kernel) (pa_cons (pv 3) pa_nil)) pa_nil))) (pa_cons (pv 4) pa_nil))))
    (pss_cons (ps_if (PW.pt (pw_or (pt_not (pt_val (pe_callB (c_isi (K := K) rfl) (by rfl) T.z_isinstance (by decide +kernel) (pa_cons (pv 5) (pa_cons (pe_bltn (v := .ty "tuple") (by rfl) T.z_tuple (by decide +kernel) rfl) pa_nil))))) (pw_or (pt_cmpR op_ne (pe_callB (c_len (K := K) rfl) (by rfl) T.z_len PySem.boot_len (pa_cons (pv 5) pa_nil)) pe_int (nomark _)) (pw_or (pt_not (pt_val (pe_callB (c_isi (K := K) rfl) (by rfl) T.z_isinstance (by decide +kernel) (pa_cons (pe_ix (c_ix (K := K) rfl) (pv 5) pe_int (fun _ _ => rfl)) (pa_cons (pe_bltn (v := .ty "list") (by rfl) T.z_list (by decide +kernel) rfl) pa_nil))))) (pw_or1 (pt_not (pt_val (pe_callB (c_isi (K := K) rfl) (by rfl) T.z_isinstance (by decide +kernel) (pa_cons (pe_ix (c_ix (K := K) rfl) (pv 5) pe_int (fun _ _ => rfl)) (pa_cons (pe_bltn (v := .ty "list") (by rfl) T.z_list (by decide +kernel) rfl) pa_nil)))))))))) (pss_one (ps_ret pe_bl)) pss_nil)
    (pss_cons (ps_asg (pv 5) (pg_tupK (K := K) (n := 2) rfl (by rfl) (pgs_cons (pg_name (i := 6) nd rfl (by first | exact Or.inl rfl | exact Or.inr rfl)) (pgs_cons (pg_name (i := 7) nd rfl (by first | exact Or.inl rfl | exact Or.inr rfl)) pgs_nil))))
    (pss_cons (ps_set (i := 8) nd rfl (Or.inr rfl) (pe_call (ok__law_below T) (hr.mono (by decide)) rfl T.m__law_below T.F__law_below.kp T.b__law_below .nil pass0 (pa_cons (pv 3) (pa_cons (pv 4) pa_nil))))
    (pss_cons (ps_if (PW.pt (pw_or (pt_cmpR op_ne (pe_callB (c_len (K := K) rfl) (by rfl) T.z_len PySem.boot_len (pa_cons (pv 6) pa_nil)) (pe_callB (c_len (K := K) rfl) (by rfl) T.z_len PySem.boot_len (pa_cons (pv 7) pa_nil)) (nomark _)) (pw_or1 (pt_cmpR (c_ne (K := K) rfl hr.units) (pv 6) (pe_callB (c_sortedSet (w := wo) rfl rfl) (by rfl) T.z_sorted (by decide +kernel) (pa_cons (pe_callTy (c_set (K := K) (w := wo) rfl rfl rfl) (by rfl) T.z_set (by decide +kernel) (pa_cons (pv 6) pa_nil)) pa_nil)) (nomark _))))) (pss_one (ps_ret pe_bl)) pss_nil)
    (pss_cons (ps_for PassesOwn.never rfl (pi_listK (K := K) rfl (pv 6)) (pg_name (i := 9) nd rfl (by first | exact Or.inl rfl | exact Or.inr rfl))
     (pss_cons (ps_if (PW.pt (pw_or (pt_not (pt_val (pe_call (ok__law_is_integer T) (hr.mono (by decide)) rfl T.m__law_is_integer T.F__law_is_integer.kp T.b__law_is_integer .nil pass0 (pa_cons (pv 9) pa_nil)))) (pw_or (pt_cmpR op_lt (pv 9) pe_int (nomark _)) (pw_or1 (pt_cmpR op_ge (pv 9) (pe_callB (c_len (K := K) rfl) (by rfl) T.z_len PySem.boot_len (pa_cons (pv 4) pa_nil)) (nomark _)))))) (pss_one (ps_ret pe_bl)) pss_nil)
     (pss_one (ps_if (pt_cmpR op_gt (pe_callB (c_len (K := K) rfl) (by rfl) T.z_len PySem.boot_len (pa_cons (pe_lc (own := [("other", 13)]) (by rfl) nd (pi_listK (K := K) rfl (pv 6)) (blkOk_by (N := ["script", "draws", "count", "letters", "word", "found", "apart", "rows", "below", "event", "seen", "row", "k", "other"]) (sc := defScope s_law) (own := [("other", 13)]) (by decide +kernel)) (fun _ _ _ _ _ => pg_name (i := 13) nd rfl (by first | exact Or.inl rfl | exact Or.inr rfl)) (fun _ _ _ _ _ => (pts_one (PW.pt (pw_and (pt_cmpR op_ne (pv 13) (pv 9) (nomark _)) (pw_and1 (pt_val (pe_ix (c_ix (K := K) rfl) (pe_ix (c_ix (K := K) rfl) (pv 8) (pv 9) (fun _ _ => rfl)) (pv 13) (fun _ _ => rfl)))))))) (fun _ _ _ _ _ => (pv 13))) pa_nil)) pe_int (nomark _)) (pss_one (ps_ret pe_bl)) pss_nil))))
    (pss_cons (ps_set (i := 10) nd rfl (Or.inl rfl) (pe_lst pa_nil))
    (pss_cons (ps_for PassesOwn.never rfl (pi_listK (K := K) rfl (pv 7)) (pg_name (i := 11) nd rfl (by first | exact Or.inl rfl | exact Or.inr rfl))
     (pss_cons (ps_if (PW.pt (pw_or (pt_not (pt_val (pe_callB (c_isi (K := K) rfl) (by rfl) T.z_isinstance (by decide +kernel) (pa_cons (pv 11) (pa_cons (pe_bltn (v := .ty "list") (by rfl) T.z_list (by decide +kernel) rfl) pa_nil))))) (pw_or1 (pt_cmpR op_eq (pe_callB (c_len (K := K) rfl) (by rfl) T.z_len PySem.boot_len (pa_cons (pv 11) pa_nil)) pe_int (nomark _))))) (pss_one (ps_ret pe_bl)) pss_nil)
     (pss_cons (ps_for PassesOwn.never rfl (pi_range1 (by rfl) T.z_range (pa_cons (pe_callB (c_len (K := K) rfl) (by rfl) T.z_len PySem.boot_len (pa_cons (pv 11) pa_nil)) pa_nil)) (pg_name (i := 12) nd rfl (by first | exact Or.inl rfl | exact Or.inr rfl))
      (pss_cons (ps_if (PW.pt (pw_or (pt_not (pt_val (pe_call (ok__law_is_integer T) (hr.mono (by decide)) rfl T.m__law_is_integer T.F__law_is_integer.kp T.b__law_is_integer .nil pass0 (pa_cons (pe_ix (c_ix (K := K) rfl) (pv 11) (pv 12) (fun _ _ => rfl)) pa_nil)))) (pw_or (pt_cmpR op_lt (pe_ix (c_ix (K := K) rfl) (pv 11) (pv 12) (fun _ _ => rfl)) pe_int (nomark _)) (pw_or1 (pt_cmpR op_ge (pe_ix (c_ix (K := K) rfl) (pv 11) (pv 12) (fun _ _ => rfl)) (pe_callB (c_len (K := K) rfl) (by rfl) T.z_len PySem.boot_len (pa_cons (pv 4) pa_nil)) (nomark _)))))) (pss_one (ps_ret pe_bl)) pss_nil)
      (pss_one (ps_if (PW.pt (pw_and (pt_cmpR op_gt (pv 12) pe_int (nomark _)) (pw_and1 (PW.pt (pw_or (pt_cmpR op_eq (pe_ix (c_ix (K := K) rfl) (pv 11) (pv 12) (fun _ _ => rfl)) (pe_ix (c_ix (K := K) rfl) (pv 11) (pe_op op_sub (pv 12) pe_int) (fun _ _ => rfl)) (nomark _)) (pw_or1 (pt_not (pt_val (pe_ix (c_ix (K := K) rfl) (pe_ix (c_ix (K := K) rfl) (pv 8) (pe_ix (c_ix (K := K) rfl) (pv 11) (pe_op op_sub (pv 12) pe_int) (fun _ _ => rfl)) (fun _ _ => rfl)) (pe_ix (c_ix (K := K) rfl) (pv 11) (pv 12) (fun _ _ => rfl)) (fun _ _ => rfl)))))))))) (pss_one (ps_ret pe_bl)) pss_nil))))
     (pss_one (ps_set (i := 10) nd rfl (Or.inl rfl) (pe_op (c_catL (K := K) rfl) (pv 10) (pv 11)))))))
    (pss_one (ps_ret (pe_cmpR (c_eq (K := K) rfl hr.units) (pe_callB (c_sorted (K := K) rfl) (by rfl) T.z_sorted (by decide +kernel) (pa_cons (pv 10) pa_nil)) (pe_listRg rfl (by rfl) T.z_list (prg_1 (by rfl) T.z_range (pe_callB (c_len (K := K) rfl) (by rfl) T.z_len PySem.boot_len (pa_cons (pv 4) pa_nil)))) (nomark _))))))))))))))), ?_⟩
  refine go_start w ps (Γ := [some (PLi K (ns.map fun n => D K (.int n))), none, none, none, none, none, none, none, none, none, none, none, none, none]) rfl ?_
  refine (q_asgN (use__law_draws (ea_cons (ev_var rfl) (ea_cons (ev_int (K := K)) ea_nil)) (by decide) (by decide) (by omega)) fun d hd => ?_)
  generalize PLi K (ns.map fun n => D K (.int n)) = S at *
  refine (q_unp2 (φ := fun x : Int × Lets => AlphaOk x.1 x.2 ∧ x.1 ≤ 4 ∧ (x.2.length : Int) ≤ 6) (R1 := fun x => D K (.int x.1)) (R2 := fun x => D K (dLT x.2)) ((use__law_alphabet (ea_cons (ev_var rfl) (ea_cons (ev_int (K := K)) (ea_cons (ev_int (K := K)) ea_nil))) (by decide) (j := 0) rfl).weak (PEx.le fun x => PAn.le fun _ => D_PTu)) fun x hx => ?_)
  obtain ⟨n, ls⟩ := x
  obtain ⟨A, n4, l6⟩ := hx
  dsimp only at A n4 l6
  have n1 := A.k1
  have ll := A.l1
  have llen : ∀ l ∈ ls, l.length ≤ 1000 := fun l hl => by
    obtain ⟨_, h2, h3⟩ := A.ok l hl
    have := pw_len h2 h3 (by omega)
    omega
  have evlen : ∀ {Γ : Gm} {M : Ms}, Γ[3]? = some (some (D K (dLT ls))) → Ev (tCB (rLn K) (tCons (tVar 3) tNil)) Γ M (D K (.int ls.length)) M := fun e => ev_lenM (f := dT) (ev_var e)
  dsimp only [List.set]
  refine (q_asg (use__law_word (ea_cons (ev_var rfl) (ea_cons (evlen rfl) (ea_cons (ev_int (K := K) (i := 14)) ea_nil))) (by omega) (j := 0) rfl) (nx_ex (i := 4) rfl fun wd => nx_an (i := 4) rfl fun hwd => ?_))
  obtain ⟨hl, hok⟩ := hwd
  have hok : WordOk ls wd := hok
  have hl : wd.length ≤ 14 := by omega
  dsimp only [List.set]
  refine (q_asg (use_widest (ea_cons (use_Alphabet (ea_cons (ev_var (i := 2) rfl) (ea_cons (ev_newL (evn_cb (ea_cons ((ev_var (i := 3) rfl).weak (le_Lm (f := dT))) ea_nil) rcn_listL)) ea_nil)) A) (ea_cons (ev_var (i := 4) rfl) ea_nil)) ⟨A, hok, by omega⟩) (nx_ex (i := 5) rfl fun x => nx_an (i := 5) rfl fun W => ?_))
  obtain ⟨xi, R⟩ := x
  dsimp only at W ⊢
  obtain ⟨xs, rfl⟩ : ∃ xs : List Nat, xi = nI xs := ⟨xi.map Int.toNat, by
    unfold nI
    rw [List.map_map]
    exact ((List.map_congr_left (g := id) fun e he => Int.toNat_of_nonneg (W.rg e he).1).trans (List.map_id _)).symm⟩
  have xln : xs.length = R.length := by have := W.ln; rwa [nI_len] at this
  have xr : ∀ e ∈ xs, e < wd.length := fun e he => by have := (W.rg (e : Int) (List.mem_map.mpr ⟨e, he, rfl⟩)).2; omega
  have an : ∀ e ∈ xs, ∀ f ∈ xs, ¬ ltw ls wd e f := fun e he f hf => W.an e f (List.mem_map.mpr ⟨e, he, rfl⟩) (List.mem_map.mpr ⟨f, hf, rfl⟩)
  have fl := W.pm.length_eq
  rw [List.length_range] at fl
  have xl : xs.length ≤ 14 := by
    have := nodup_le (W.pw.imp fun q => Int.ne_of_lt q) (m := (List.range wd.length).map fun i : Nat => (i : Int)) fun e he => by
      have := W.rg e he
      exact List.mem_map.mpr ⟨e.toNat, List.mem_range.mpr (by omega), by omega⟩
    rw [List.length_map, List.length_range, nI_len] at this
    omega
  dsimp only [List.set]
  show Nx _ [some S, some (Own d), some (D K (.int n)), some (D K (dLT ls)), some (D K (dT wd)), some (D K (.tuple [dL (nI xs), dRows R])), none, none, none, none, none, none, none, none] [(d, MDr K)] _
  refine (q_if (et_or (a := false) (b := false) ((et_not (et_val (ev_cb (ea_cons (ev_var (i := 5) rfl) (ea_cons ev_pv ea_nil)) (rc_isi (d := .tuple [dL (nI xs), dRows R]) (b := true) (by show kitB "tuple" "tuple" = some true; decide +kernel))))).is (by simp)) fun _ => et_or (a := false) (b := false) ((et_test (ev_op (ev_lenMT (f := fun d : PyData => d) (xs := [dL (nI xs), dRows R]) (ev_var (i := 5) rfl)) (ev_int (K := K) (i := 2)) rv_neI)).is (by simp)) fun _ => et_or (a := false) (b := false)
    ((et_not (et_val (ev_cb (ea_cons (ev_op (ev_var (i := 5) rfl) (ev_int (K := K) (i := 0)) (rv_ixDT (d := dL (nI xs)) (by decide) rfl)) (ea_cons ev_pv ea_nil)) (rc_isi (d := dL (nI xs)) (b := true) (by show kitB "list" "list" = some true; decide +kernel))))).is (by simp)) fun _ => (et_not (et_val (ev_cb (ea_cons (ev_op (ev_var (i := 5) rfl) (ev_int (K := K) (i := 1)) (rv_ixDT (d := dRows R) (by decide) rfl)) (ea_cons ev_pv ea_nil)) (rc_isi (d := dRows R) (b := true) (by show kitB "list" "list" = some true; decide +kernel))))).is (by simp)) (fun hz => absurd hz (by simp)) fun _ => go_next ?_)
  refine (q_unp2 (φ := fun _ : Unit => True) (R1 := fun _ => D K (dL (nI xs))) (R2 := fun _ => D K (dRows R)) ((ev_var (i := 5) rfl).weak (MP.le_trans D_PTu (MP.le_trans (PAn.in trivial) (PEx.in (R := fun _ : Unit => PAn True (PTu K [D K (dL (nI xs)), D K (dRows R)])) ())))) fun _ _ => ?_)
  dsimp only [List.set]
  refine (q_asg (use__law_below (b := true) (ea_cons (ev_var (i := 3) rfl) (ea_cons (ev_var (i := 4) rfl) ea_nil)) ⟨hok, by omega, llen⟩) (nx_ex (i := 8) rfl fun m => nx_an (i := 8) rfl fun hm => ?_))
  obtain ⟨sz, cel⟩ := hm
  dsimp only [List.set]
  refine (q_if (et_or (a := false) (b := false) ((et_test (ev_op (ev_lenM (f := PyData.int) (ev_var (i := 6) rfl)) (ev_lenM (f := fun r => dL (nI r)) (ev_var (i := 7) rfl)) rv_neI)).is (by rw [nI_len, xln]; simp)) fun _ => (et_test (ev_op (ev_var (i := 6) rfl) ((ev_fr (evn_sortedSet (ns := nI xs) (ev_var (i := 6) rfl) dl_ints (by rw [nI_len]; omega))).weak (P' := D K (dL (nI xs))) fun F v h => by
      obtain ⟨ms, h⟩ := fr_X F v h
      obtain ⟨h1, h⟩ := fr_A F v h
      rw [← set_uniq W.pw h1.1 h1.2]
      exact dL_le F v (fr_L F v h)) (rv_neE enc_dL (by decide)))).is (by simp)) (fun hz => absurd hz (by simp)) fun _ => go_next ?_)
  have elw : ∀ {Γ : Gm} {M : Ms}, Γ[4]? = some (some (D K (dT wd))) → Ev (tCB (rLn K) (tCons (tVar 4) tNil)) Γ M (D K (.int (wd.length : Int))) M := fun e => ev_lenMT (f := PyData.int) (ev_var (i := 4) e)
  refine (q_forL (ps := xs.map fun x : Nat => D K (.int (x : Int))) ((ev_var (i := 6) rfl).weak (MP.le_trans le_dL (MP.of_eq (by unfold nI; rw [List.map_map]; rfl)))) (fun _ Γ M => ∃ g9 : Option MP, Γ = [some S, some (Own d), some (D K (.int n)), some (D K (dLT ls)), some (D K (dT wd)), some (D K (.tuple [dL (nI xs), dRows R])), some (D K (dL (nI xs))), some (D K (dRows R)), some (D K (dBB m)), g9, none, none, none, none] ∧ M = [(d, MDr K)]) ⟨none, rfl, rfl⟩ ?_ ?_)
  · rintro E2 hE2 i P hP _ _ ⟨g9, rfl, rfl⟩
    rw [List.getElem?_map] at hP
    obtain ⟨e, he, rfl⟩ := Option.map_eq_some_iff.mp hP
    have em := List.mem_of_getElem? he
    have en := xr e em
    dsimp only [List.set]
    refine (q_if (et_or (a := false) (b := false) ((et_not (et_val (use__law_is_integer (ea_cons (ev_var (i := 9) rfl) ea_nil)))).is (by simp)) fun _ => et_or (a := false) (b := false) ((et_test (ev_op (ev_var (i := 9) rfl) (ev_int (K := K) (i := 0)) (rv_b0 (g := fun i j => decide (i < j))))).is (by simp; try omega)) fun _ => (et_test (ev_op (ev_var (i := 9) rfl) (elw rfl) (rv_b0 (g := fun i j => decide (j ≤ i))))).is (by simp; try omega)) (fun hz => absurd hz (by simp)) fun _ => go_next ?_)
    have lc := evn_lcL (K := K) (xs := xs) (R := fun x : Nat => D K (.int (x : Int))) (G := fun x : Nat => D K (.int (x : Int))) (i := 13) (M := [(d, MDr K)]) (M1 := [(d, MDr K)]) (Γ := [some S, some (Own d), some (D K (.int n)), some (D K (dLT ls)), some (D K (dT wd)), some (D K (.tuple [dL (nI xs), dRows R])), some (D K (dL (nI xs))), some (D K (dRows R)), some (D K (dBB m)), some (D K (.int (e : Int))), none, none, none, none]) (tl := tVar 6) (t := tAnd (tTest (tOp rNe (tVar 13) (tVar 9))) (tB (tOp (rIx K) (tOp (rIx K) (tVar 8) (tVar 9)) (tVar 13)))) (te := tVar 13) (fun f => decide ((f : Int) ≠ (e : Int)) && cell m e f) ((ev_var (i := 6) rfl).weak (MP.le_trans le_dL (MP.of_eq (by unfold nI; rw [List.map_map]; rfl)))) (by omega) (fun f hf => et_and ((et_test (ev_op (ev_var (i := 13) rfl) (ev_var (i := 9) rfl) rv_neI)).is (by simp)) fun _ => et_val (ev_op (ev_op (ev_var (i := 8) rfl) (ev_var (i := 9) rfl) (rv_cell sz en)) (ev_var (i := 13) rfl) (rv_cell2 sz en (xr f hf)))) (fun x hx _ => ev_var (i := 13) rfl)
    have lf : xs.filter (fun f : Nat => decide ((f : Int) ≠ (e : Int)) && cell m e f) = [] := List.filter_eq_nil_iff.mpr fun f hf => by
      rw [cel e f en (xr f hf)]
      intro c
      rw [Bool.and_eq_true, decide_eq_true_iff, bel_iff] at c
      have := c.2.le
      exact an e em f hf ⟨by have := c.1; omega, c.2⟩
    rw [lf] at lc
    refine (go_if (et_test (ev_op (ev_lenM (f := PyData.int) (xs := ([] : List Int)) ((ev_newL (K := K) lc).weak (dL_le (K := K) (l := [])))) (ev_int (K := K) (i := 0)) (rv_b0 (g := fun i j => decide (j < i))))) (fun hz => absurd hz (by simp)) fun _ => go_next (JA.of ⟨_, rfl, rfl⟩))
  rintro _ _ ⟨g9, rfl, rfl⟩
  refine (q_asg ((ev_newL (K := K) (evn_lst (ps := []) ea_nil (by simp))).weak (dL_le (K := K) (l := []))) ?_)
  dsimp only [List.set]
  refine (q_forL ((ev_var (i := 7) rfl).weak (le_Lm (f := fun r => dL (nI r)))) (fun i Γ M => ∃ g11 g12 : Option MP, Γ = [some S, some (Own d), some (D K (.int n)), some (D K (dLT ls)), some (D K (dT wd)), some (D K (.tuple [dL (nI xs), dRows R])), some (D K (dL (nI xs))), some (D K (dRows R)), some (D K (dBB m)), g9, some (D K (dL (nI (R.take i).flatten))), g11, g12, none] ∧ M = [(d, MDr K)]) ⟨none, none, rfl, rfl⟩ ?_ ?_)
  · rintro E2 hE2 i P hP _ _ ⟨g11, g12, rfl, rfl⟩
    rw [List.getElem?_map] at hP
    obtain ⟨r, hr, rfl⟩ := Option.map_eq_some_iff.mp hP
    obtain ⟨r1, r2, r3⟩ := W.rk r (List.mem_of_getElem? hr)
    have rl := List.length_pos_iff.mpr r1
    have tl : (R.take (i + 1)).flatten.length ≤ 14 := by
      have := congrArg (fun l : List (List Nat) => l.flatten.length) (List.take_append_drop (i + 1) R)
      simp only [List.flatten_append, List.length_append] at this
      omega
    have tk : (R.take (i + 1)).flatten = (R.take i).flatten ++ r := by rw [List.take_add_one, hr, Option.toList_some, List.flatten_append]; simp
    rw [tk, List.length_append] at tl
    dsimp only [List.set]
    refine (q_if (et_or (a := false) (b := false) ((et_not (et_val (ev_cb (ea_cons (ev_var (i := 11) rfl) (ea_cons ev_pv ea_nil)) (rc_isi (d := dL (nI r)) (b := true) (by show kitB "list" "list" = some true; decide +kernel))))).is (by simp)) fun _ => (et_test (ev_op (ev_lenM (f := PyData.int) (ev_var (i := 11) rfl)) (ev_int (K := K) (i := 0)) rv_eqI)).is (by rw [nI_len]; simp; omega)) (fun hz => absurd hz (by simp)) fun _ => go_next ?_)
    refine (q_forR (ea_cons (ev_lenM (f := PyData.int) (ev_var (i := 11) rfl)) ea_nil) (by rw [nI_len]; omega) (by omega) (fun _ Γ M => ∃ g12 : Option MP, Γ = [some S, some (Own d), some (D K (.int n)), some (D K (dLT ls)), some (D K (dT wd)), some (D K (.tuple [dL (nI xs), dRows R])), some (D K (dL (nI xs))), some (D K (dRows R)), some (D K (dBB m)), g9, some (D K (dL (nI (R.take i).flatten))), some (D K (dL (nI r))), g12, none] ∧ M = [(d, MDr K)]) ⟨g12, rfl, rfl⟩ ?_ ?_)
    · rintro t ht _ _ ⟨g12, rfl, rfl⟩
      rw [nI_len] at ht
      have ht : t < r.length := by omega
      dsimp only [List.set]
      obtain ⟨y, hy⟩ : ∃ y, r[t]? = some y := ⟨_, List.getElem?_eq_getElem ht⟩
      have yn := r2 y (List.mem_of_getElem? hy)
      have at_ : ∀ {te : TE} {t2 x : Nat}, r[t2]? = some x → Ev te [some S, some (Own d), some (D K (.int n)), some (D K (dLT ls)), some (D K (dT wd)), some (D K (.tuple [dL (nI xs), dRows R])), some (D K (dL (nI xs))), some (D K (dRows R)), some (D K (dBB m)), g9, some (D K (dL (nI (R.take i).flatten))), some (D K (dL (nI r))), some (D K (.int (t : Int))), none] [(d, MDr K)] (D K (.int (t2 : Int))) [(d, MDr K)] → Ev (tOp (rIx K) (tVar 11) te) [some S, some (Own d), some (D K (.int n)), some (D K (dLT ls)), some (D K (dT wd)), some (D K (.tuple [dL (nI xs), dRows R])), some (D K (dL (nI xs))), some (D K (dRows R)), some (D K (dBB m)), g9, some (D K (dL (nI (R.take i).flatten))), some (D K (dL (nI r))), some (D K (.int (t : Int))), none] [(d, MDr K)] (D K (.int (x : Int))) [(d, MDr K)] := fun {te t2 x} h e => ev_op (ev_var (i := 11) rfl) e (rv_ixDL (d := .int (x : Int)) (by omega) (by
        unfold nI
        rw [Int.toNat_natCast, List.map_map, List.getElem?_map, h]; rfl))
      have ey := at_ hy (ev_var (i := 12) rfl)
      refine (q_if (et_or (a := false) (b := false) ((et_not (et_val (use__law_is_integer (ea_cons ey ea_nil)))).is (by simp)) fun _ => et_or (a := false) (b := false) ((et_test (ev_op ey (ev_int (K := K) (i := 0)) (rv_b0 (g := fun i j => decide (i < j))))).is (by simp; try omega)) fun _ => (et_test (ev_op ey (elw rfl) (rv_b0 (g := fun i j => decide (j ≤ i))))).is (by simp; try omega)) (fun hz => absurd hz (by simp)) fun _ => go_next ?_)
      refine go_if (et_and (a := decide (0 < (t : Int))) (b := false) (et_test (ev_op (ev_var (i := 12) rfl) (ev_int (K := K) (i := 0)) (rv_b0 (g := fun i j => decide (j < i))))) fun h0 => ?_) (fun hz => absurd hz (by simp)) fun _ => go_next (JA.of ⟨_, rfl, rfl⟩)
      have h0 : 0 < t := by simpa using h0
      obtain ⟨t', rfl⟩ : ∃ t', t = t' + 1 := ⟨t - 1, by omega⟩
      obtain ⟨x, hx⟩ : ∃ x, r[t']? = some x := ⟨_, List.getElem?_eq_getElem (by omega)⟩
      have xn := r2 x (List.mem_of_getElem? hx)
      have xy := r3 t' x y hx hy
      have ex := at_ hx ((ev_op (ev_var (i := 12) rfl) (ev_int (K := K) (i := 1)) (rv_i0 (g := fun i j => i - j))).is (P' := D K (.int (t' : Int))) (by congr 2; omega))
      refine et_or (a := false) (b := false) ((et_test (ev_op ey ex rv_eqI)).is (by have := xy.1; simp; omega)) fun _ => (et_not (et_val (ev_op (ev_op (ev_var (i := 8) rfl) ex (rv_cell sz xn)) ey (rv_cell2 sz xn yn)))).is (by rw [cel x y xn yn, bel_iff.mpr xy.2]; simp)
    · rintro _ _ ⟨g12, rfl, rfl⟩
      refine go_asg ((ev_newL (K := K) (evn_catL (ps := (nI (R.take i).flatten).map fun n => D K (.int n)) (qs := (nI r).map fun n => D K (.int n)) ((ev_var (i := 10) rfl).weak le_dL) ((ev_var (i := 11) rfl).weak le_dL) (by rw [List.length_map, List.length_map, nI_len, nI_len]; omega))).weak (P' := D K (dL (nI (R.take (i + 1)).flatten))) ?_) (JA.of ⟨_, _, rfl, rfl⟩)
      rw [← List.map_append]
      have e : nI (R.take i).flatten ++ nI r = nI (R.take (i + 1)).flatten := by rw [tk]; unfold nI; rw [List.map_append]
      rw [e]
      exact dL_le
  · rintro _ _ ⟨g11, g12, rfl, rfl⟩
    rw [List.length_map, List.take_length]
    refine go_ret Le.refl ((ev_op (((ev_fr (evn_cb (ea_cons ((ev_var (i := 10) rfl).weak le_dL) ea_nil) (rcn_sortedI (K := K) (ns := nI R.flatten)))).weak (P' := D K (dL (nI (List.range wd.length)))) fun F v h => by
      obtain ⟨ms, h⟩ := fr_X F v h
      obtain ⟨h1, h⟩ := fr_A F v h
      have e : ms = nI (List.range wd.length) := by
        refine sorted_unique (h1.1.trans (W.pm.map _)) h1.2 ?_
        unfold nI
        rw [List.pairwise_map]
        exact List.pairwise_lt_range.imp fun h => by omega
      rw [← e]
      exact dL_le F v (fr_L F v h))) ((ev_newL (K := K) (evn_listRg (elw rfl) (by omega))).weak (dL_le (l := nI (List.range wd.length)))) (rv_eqE enc_dL (by decide))).is ?_) (k _)
    rw [decide_eq_true rfl]
end
end My
namespace My
open PySem L2 Hq
theorem all_mk {l : PySem.W.OpenLaw} {wo : World} {K : PySem.W.Frag} {h : Heap} {mg : Str → Option Value} {fa c_Alphabet f__law_take f__law_draws f__check_letter f_Alphabet_init f__law_free f__law_alphabet f__law_word f__law_is_integer f_mask_of f_place_masks f__law_below f_bits_of f__masks_above f__first_rows f__searched f__take_steps f__row f_widest f_law : Addr} (X : K.In h) (G : h.Ns mainGlobals mg) (hfa : mg "law" = some (.ref fa))
    {od0 od1 od2 od3 od4 od5 od6 od7 od8 od9 od10 od11 od12 od13 od14 od15 od16 od17 od18 an0 an1 an2 an3 an4 an5 an6 an7 an8 an9 an10 an11 an12 an13 an14 an15 an16 an17 an18 : Option Addr} {sl0 sl1 sl2 sl3 sl4 sl5 sl6 sl7 sl8 sl9 sl10 sl11 sl12 sl13 sl14 sl15 sl16 sl17 sl18 : Array (Option Value)} {oc0 oc1 oc2 oc3 oc4 oc5 oc6 oc7 oc8 oc9 oc10 oc11 oc12 oc13 oc14 oc15 oc16 oc17 oc18 kV0 kV1 kV2 kV3 kV4 kV5 kV6 kV7 kV8 kV9 kV10 kV11 kV12 kV13 kV14 kV15 kV16 kV17 kV18 dc0 dc1 dc2 dc3 dc4 dc5 dc6 dc7 dc8 dc9 dc10 dc11 dc12 dc13 dc14 dc15 dc16 dc17 dc18 pm0 pm1 pm2 pm3 pm4 pm5 pm6 pm7 pm8 pm9 pm10 pm11 pm12 pm13 pm14 pm15 pm16 pm17 pm18 cd0 cd1 cd2 cd3 cd4 cd5 cd6 cd7 cd8 cd9 cd10 cd11 cd12 cd13 cd14 cd15 cd16 cd17 cd18 ct0 ct1 ct2 ct3 ct4 ct5 ct6 ct7 ct8 ct9 ct10 ct11 ct12 ct13 ct14 ct15 ct16 ct17 ct18 : Value}
    {t_MOST_LETTERS : Tok}
    {t_MOST_PLACES : Tok}
    (aC_Alphabet : PySem.W.nsIn K mainGlobals "Alphabet" = some (some (.ref c_Alphabet)))
    (a0 : PySem.W.nsIn K mainGlobals "_law_take" = some (some (.ref f__law_take)))
    (l0 : K.lookup f__law_take = some ⟨oc0, od0, .func (PySem.W.fnOf "_law_take" "_law_take" (defArgs s__law_take) (defBody s__law_take) (defScope s__law_take) .none kV0 dc0 pm0 an0 cd0 ct0), sl0⟩)
    (c0 : PySem.W.codeIn K cd0 "_law_take" = true)
    (k0 : PySem.W.keepIn K (.ref f__law_take) = true)
    (a1 : PySem.W.nsIn K mainGlobals "_law_draws" = some (some (.ref f__law_draws)))
    (l1 : K.lookup f__law_draws = some ⟨oc1, od1, .func (PySem.W.fnOf "_law_draws" "_law_draws" (defArgs s__law_draws) (defBody s__law_draws) (defScope s__law_draws) .none kV1 dc1 pm1 an1 cd1 ct1), sl1⟩)
    (c1 : PySem.W.codeIn K cd1 "_law_draws" = true)
    (k1 : PySem.W.keepIn K (.ref f__law_draws) = true)
    (a2 : PySem.W.nsIn K mainGlobals "_check_letter" = some (some (.ref f__check_letter)))
    (l2 : K.lookup f__check_letter = some ⟨oc2, od2, .func (PySem.W.fnOf "_check_letter" "_check_letter" (defArgs s__check_letter) (defBody s__check_letter) (defScope s__check_letter) .none kV2 dc2 pm2 an2 cd2 ct2), sl2⟩)
    (c2 : PySem.W.codeIn K cd2 "_check_letter" = true)
    (k2 : PySem.W.keepIn K (.ref f__check_letter) = true)
    (a3 : PySem.W.findIn K (.ref c_Alphabet) "__init__" = some (some (.ref f_Alphabet_init)))
    (i3 : PySem.W.isFn K (.ref f_Alphabet_init) = true)
    (l3 : K.lookup f_Alphabet_init = some ⟨oc3, od3, .func (PySem.W.fnOf "__init__" "Alphabet.__init__" (defArgs s_Alphabet_init) (defBody s_Alphabet_init) (defScope s_Alphabet_init) .none kV3 dc3 pm3 an3 cd3 ct3), sl3⟩)
    (c3 : PySem.W.codeIn K cd3 "Alphabet.__init__" = true)
    (k3 : PySem.W.keepIn K (.ref f_Alphabet_init) = true)
    (a4 : PySem.W.nsIn K mainGlobals "_law_free" = some (some (.ref f__law_free)))
    (l4 : K.lookup f__law_free = some ⟨oc4, od4, .func (PySem.W.fnOf "_law_free" "_law_free" (defArgs s__law_free) (defBody s__law_free) (defScope s__law_free) .none kV4 dc4 pm4 an4 cd4 ct4), sl4⟩)
    (c4 : PySem.W.codeIn K cd4 "_law_free" = true)
    (k4 : PySem.W.keepIn K (.ref f__law_free) = true)
    (a5 : PySem.W.nsIn K mainGlobals "_law_alphabet" = some (some (.ref f__law_alphabet)))
    (l5 : K.lookup f__law_alphabet = some ⟨oc5, od5, .func (PySem.W.fnOf "_law_alphabet" "_law_alphabet" (defArgs s__law_alphabet) (defBody s__law_alphabet) (defScope s__law_alphabet) .none kV5 dc5 pm5 an5 cd5 ct5), sl5⟩)
    (c5 : PySem.W.codeIn K cd5 "_law_alphabet" = true)
    (k5 : PySem.W.keepIn K (.ref f__law_alphabet) = true)
    (a6 : PySem.W.nsIn K mainGlobals "_law_word" = some (some (.ref f__law_word)))
    (l6 : K.lookup f__law_word = some ⟨oc6, od6, .func (PySem.W.fnOf "_law_word" "_law_word" (defArgs s__law_word) (defBody s__law_word) (defScope s__law_word) .none kV6 dc6 pm6 an6 cd6 ct6), sl6⟩)
    (c6 : PySem.W.codeIn K cd6 "_law_word" = true)
    (k6 : PySem.W.keepIn K (.ref f__law_word) = true)
    (a7 : PySem.W.nsIn K mainGlobals "_law_is_integer" = some (some (.ref f__law_is_integer)))
    (l7 : K.lookup f__law_is_integer = some ⟨oc7, od7, .func (PySem.W.fnOf "_law_is_integer" "_law_is_integer" (defArgs s__law_is_integer) (defBody s__law_is_integer) (defScope s__law_is_integer) .none kV7 dc7 pm7 an7 cd7 ct7), sl7⟩)
    (c7 : PySem.W.codeIn K cd7 "_law_is_integer" = true)
    (k7 : PySem.W.keepIn K (.ref f__law_is_integer) = true)
    (a8 : PySem.W.nsIn K mainGlobals "mask_of" = some (some (.ref f_mask_of)))
    (l8 : K.lookup f_mask_of = some ⟨oc8, od8, .func (PySem.W.fnOf "mask_of" "mask_of" (defArgs s_mask_of) (defBody s_mask_of) (defScope s_mask_of) .none kV8 dc8 pm8 an8 cd8 ct8), sl8⟩)
    (c8 : PySem.W.codeIn K cd8 "mask_of" = true)
    (k8 : PySem.W.keepIn K (.ref f_mask_of) = true)
    (a9 : PySem.W.nsIn K mainGlobals "place_masks" = some (some (.ref f_place_masks)))
    (l9 : K.lookup f_place_masks = some ⟨oc9, od9, .func (PySem.W.fnOf "place_masks" "place_masks" (defArgs s_place_masks) (defBody s_place_masks) (defScope s_place_masks) .none kV9 dc9 pm9 an9 cd9 ct9), sl9⟩)
    (c9 : PySem.W.codeIn K cd9 "place_masks" = true)
    (k9 : PySem.W.keepIn K (.ref f_place_masks) = true)
    (a10 : PySem.W.nsIn K mainGlobals "_law_below" = some (some (.ref f__law_below)))
    (l10 : K.lookup f__law_below = some ⟨oc10, od10, .func (PySem.W.fnOf "_law_below" "_law_below" (defArgs s__law_below) (defBody s__law_below) (defScope s__law_below) .none kV10 dc10 pm10 an10 cd10 ct10), sl10⟩)
    (c10 : PySem.W.codeIn K cd10 "_law_below" = true)
    (k10 : PySem.W.keepIn K (.ref f__law_below) = true)
    (a11 : PySem.W.nsIn K mainGlobals "bits_of" = some (some (.ref f_bits_of)))
    (l11 : K.lookup f_bits_of = some ⟨oc11, od11, .func (PySem.W.fnOf "bits_of" "bits_of" (defArgs s_bits_of) (defBody s_bits_of) (defScope s_bits_of) .none kV11 dc11 pm11 an11 cd11 ct11), sl11⟩)
    (c11 : PySem.W.codeIn K cd11 "bits_of" = true)
    (k11 : PySem.W.keepIn K (.ref f_bits_of) = true)
    (a12 : PySem.W.nsIn K mainGlobals "_masks_above" = some (some (.ref f__masks_above)))
    (l12 : K.lookup f__masks_above = some ⟨oc12, od12, .func (PySem.W.fnOf "_masks_above" "_masks_above" (defArgs s__masks_above) (defBody s__masks_above) (defScope s__masks_above) .none kV12 dc12 pm12 an12 cd12 ct12), sl12⟩)
    (c12 : PySem.W.codeIn K cd12 "_masks_above" = true)
    (k12 : PySem.W.keepIn K (.ref f__masks_above) = true)
    (a13 : PySem.W.nsIn K mainGlobals "_first_rows" = some (some (.ref f__first_rows)))
    (l13 : K.lookup f__first_rows = some ⟨oc13, od13, .func (PySem.W.fnOf "_first_rows" "_first_rows" (defArgs s__first_rows) (defBody s__first_rows) (defScope s__first_rows) .none kV13 dc13 pm13 an13 cd13 ct13), sl13⟩)
    (c13 : PySem.W.codeIn K cd13 "_first_rows" = true)
    (k13 : PySem.W.keepIn K (.ref f__first_rows) = true)
    (a14 : PySem.W.nsIn K mainGlobals "_searched" = some (some (.ref f__searched)))
    (l14 : K.lookup f__searched = some ⟨oc14, od14, .func (PySem.W.fnOf "_searched" "_searched" (defArgs s__searched) (defBody s__searched) (defScope s__searched) .none kV14 dc14 pm14 an14 cd14 ct14), sl14⟩)
    (c14 : PySem.W.codeIn K cd14 "_searched" = true)
    (k14 : PySem.W.keepIn K (.ref f__searched) = true)
    (a15 : PySem.W.nsIn K mainGlobals "_take_steps" = some (some (.ref f__take_steps)))
    (l15 : K.lookup f__take_steps = some ⟨oc15, od15, .func (PySem.W.fnOf "_take_steps" "_take_steps" (defArgs s__take_steps) (defBody s__take_steps) (defScope s__take_steps) .none kV15 dc15 pm15 an15 cd15 ct15), sl15⟩)
    (c15 : PySem.W.codeIn K cd15 "_take_steps" = true)
    (k15 : PySem.W.keepIn K (.ref f__take_steps) = true)
    (a16 : PySem.W.nsIn K mainGlobals "_row" = some (some (.ref f__row)))
    (l16 : K.lookup f__row = some ⟨oc16, od16, .func (PySem.W.fnOf "_row" "_row" (defArgs s__row) (defBody s__row) (defScope s__row) .none kV16 dc16 pm16 an16 cd16 ct16), sl16⟩)
    (c16 : PySem.W.codeIn K cd16 "_row" = true)
    (k16 : PySem.W.keepIn K (.ref f__row) = true)
    (a17 : PySem.W.nsIn K mainGlobals "widest" = some (some (.ref f_widest)))
    (l17 : K.lookup f_widest = some ⟨oc17, od17, .func (PySem.W.fnOf "widest" "widest" (defArgs s_widest) (defBody s_widest) (defScope s_widest) .none kV17 dc17 pm17 an17 cd17 ct17), sl17⟩)
    (c17 : PySem.W.codeIn K cd17 "widest" = true)
    (k17 : PySem.W.keepIn K (.ref f_widest) = true)
    (a18 : PySem.W.nsIn K mainGlobals "law" = some (some (.ref f_law)))
    (l18 : K.lookup f_law = some ⟨oc18, od18, .func (PySem.W.fnOf "law" "law" (defArgs s_law) (defBody s_law) (defScope s_law) .none kV18 dc18 pm18 an18 cd18 ct18), sl18⟩)
    (c18 : PySem.W.codeIn K cd18 "law" = true)
    (k18 : PySem.W.keepIn K (.ref f_law) = true)
    (pg_Alphabet : PySem.W.plainGet K c_Alphabet Str.empty = true)
    (hd_Alphabet : PySem.W.hasDictIn K c_Alphabet = true)
    (po_Alphabet : PySem.W.plainOver K c_Alphabet = true)
    (sa_Alphabet : PySem.W.findIn K (.ref c_Alphabet) "__setattr__" = some (some (.builtin "object.__setattr__")))
    (mk_Alphabet : PySem.W.makesIn K c_Alphabet = true)
    (kc_Alphabet : PySem.W.keepIn K (.ref c_Alphabet) = true)
    (na_Alphabet_places : PySem.W.findIn K (.ref c_Alphabet) "places" = some none)
    (na_Alphabet_letters : PySem.W.findIn K (.ref c_Alphabet) "letters" = some none)
    (z_bool : PySem.W.nsIn K mainGlobals "bool" = some none)
    (z_enumerate : PySem.W.nsIn K mainGlobals "enumerate" = some none)
    (z_int : PySem.W.nsIn K mainGlobals "int" = some none)
    (z_isinstance : PySem.W.nsIn K mainGlobals "isinstance" = some none)
    (z_len : PySem.W.nsIn K mainGlobals "len" = some none)
    (z_list : PySem.W.nsIn K mainGlobals "list" = some none)
    (z_range : PySem.W.nsIn K mainGlobals "range" = some none)
    (z_reversed : PySem.W.nsIn K mainGlobals "reversed" = some none)
    (z_set : PySem.W.nsIn K mainGlobals "set" = some none)
    (z_sorted : PySem.W.nsIn K mainGlobals "sorted" = some none)
    (z_tuple : PySem.W.nsIn K mainGlobals "tuple" = some none)
    (v_MOST_LETTERS : PySem.W.nsIn K mainGlobals "MOST_LETTERS" = some (some (.int 6 t_MOST_LETTERS)))
    (v_MOST_PLACES : PySem.W.nsIn K mainGlobals "MOST_PLACES" = some (some (.int 4 t_MOST_PLACES)))
    : ∃ fd : FuncData, (∀ (s : Shared) (v : Value), BindsTo s fd ⟨[v], []⟩ [("script", v)]) ∧ ∀ base : Heap, K.In base → base.Ns mainGlobals mg → FnOk l.prog wo K mg base CX0 5 fa fd ["script"] (spLaw K) := by
  have e := hfa.symm.trans (PySem.W.mg_of X G a18)
  cases e
  let T : Txt K mg := {
    f__law_take := f__law_take, d__law_take := PySem.W.fnOf "_law_take" "_law_take" (defArgs s__law_take) (defBody s__law_take) (defScope s__law_take) .none kV0 dc0 pm0 an0 cd0 ct0,
    F__law_take := fun_mk l0 c0 k0,
    m__law_take := PySem.W.mg_of X G a0,
    b__law_take := (fun_mk (st := s__law_take) l0 c0 k0).binds (ps := ["draws", "limit"]) fun _ _ _ _ _ _ us hl => match us, hl with | [_, _], _ => rfl,
    f__law_draws := f__law_draws, d__law_draws := PySem.W.fnOf "_law_draws" "_law_draws" (defArgs s__law_draws) (defBody s__law_draws) (defScope s__law_draws) .none kV1 dc1 pm1 an1 cd1 ct1,
    F__law_draws := fun_mk l1 c1 k1,
    m__law_draws := PySem.W.mg_of X G a1,
    b__law_draws := (fun_mk (st := s__law_draws) l1 c1 k1).binds (ps := ["script", "count"]) fun _ _ _ _ _ _ us hl => match us, hl with | [_, _], _ => rfl,
    f__check_letter := f__check_letter, d__check_letter := PySem.W.fnOf "_check_letter" "_check_letter" (defArgs s__check_letter) (defBody s__check_letter) (defScope s__check_letter) .none kV2 dc2 pm2 an2 cd2 ct2,
    F__check_letter := fun_mk l2 c2 k2,
    m__check_letter := PySem.W.mg_of X G a2,
    b__check_letter := (fun_mk (st := s__check_letter) l2 c2 k2).binds (ps := ["places", "row"]) fun _ _ _ _ _ _ us hl => match us, hl with | [_, _], _ => rfl,
    f_Alphabet_init := f_Alphabet_init, d_Alphabet_init := PySem.W.fnOf "__init__" "Alphabet.__init__" (defArgs s_Alphabet_init) (defBody s_Alphabet_init) (defScope s_Alphabet_init) .none kV3 dc3 pm3 an3 cd3 ct3,
    F_Alphabet_init := fun_mk l3 c3 k3,
    b_Alphabet_init := (fun_mk (st := s_Alphabet_init) l3 c3 k3).binds (ps := ["self", "places", "letters"]) fun _ _ _ _ _ _ us hl => match us, hl with | [_, _, _], _ => rfl,
    f__law_free := f__law_free, d__law_free := PySem.W.fnOf "_law_free" "_law_free" (defArgs s__law_free) (defBody s__law_free) (defScope s__law_free) .none kV4 dc4 pm4 an4 cd4 ct4,
    F__law_free := fun_mk l4 c4 k4,
    m__law_free := PySem.W.mg_of X G a4,
    b__law_free := (fun_mk (st := s__law_free) l4 c4 k4).binds (ps := ["letters", "first", "second"]) fun _ _ _ _ _ _ us hl => match us, hl with | [_, _, _], _ => rfl,
    f__law_alphabet := f__law_alphabet, d__law_alphabet := PySem.W.fnOf "_law_alphabet" "_law_alphabet" (defArgs s__law_alphabet) (defBody s__law_alphabet) (defScope s__law_alphabet) .none kV5 dc5 pm5 an5 cd5 ct5,
    F__law_alphabet := fun_mk l5 c5 k5,
    m__law_alphabet := PySem.W.mg_of X G a5,
    b__law_alphabet := (fun_mk (st := s__law_alphabet) l5 c5 k5).binds (ps := ["draws", "places", "most"]) fun _ _ _ _ _ _ us hl => match us, hl with | [_, _, _], _ => rfl,
    f__law_word := f__law_word, d__law_word := PySem.W.fnOf "_law_word" "_law_word" (defArgs s__law_word) (defBody s__law_word) (defScope s__law_word) .none kV6 dc6 pm6 an6 cd6 ct6,
    F__law_word := fun_mk l6 c6 k6,
    m__law_word := PySem.W.mg_of X G a6,
    b__law_word := (fun_mk (st := s__law_word) l6 c6 k6).binds (ps := ["draws", "letters", "most"]) fun _ _ _ _ _ _ us hl => match us, hl with | [_, _, _], _ => rfl,
    f__law_is_integer := f__law_is_integer, d__law_is_integer := PySem.W.fnOf "_law_is_integer" "_law_is_integer" (defArgs s__law_is_integer) (defBody s__law_is_integer) (defScope s__law_is_integer) .none kV7 dc7 pm7 an7 cd7 ct7,
    F__law_is_integer := fun_mk l7 c7 k7,
    m__law_is_integer := PySem.W.mg_of X G a7,
    b__law_is_integer := (fun_mk (st := s__law_is_integer) l7 c7 k7).binds (ps := ["actual"]) fun _ _ _ _ _ _ us hl => match us, hl with | [_], _ => rfl,
    f_mask_of := f_mask_of, d_mask_of := PySem.W.fnOf "mask_of" "mask_of" (defArgs s_mask_of) (defBody s_mask_of) (defScope s_mask_of) .none kV8 dc8 pm8 an8 cd8 ct8,
    F_mask_of := fun_mk l8 c8 k8,
    m_mask_of := PySem.W.mg_of X G a8,
    b_mask_of := (fun_mk (st := s_mask_of) l8 c8 k8).binds (ps := ["bits"]) fun _ _ _ _ _ _ us hl => match us, hl with | [_], _ => rfl,
    f_place_masks := f_place_masks, d_place_masks := PySem.W.fnOf "place_masks" "place_masks" (defArgs s_place_masks) (defBody s_place_masks) (defScope s_place_masks) .none kV9 dc9 pm9 an9 cd9 ct9,
    F_place_masks := fun_mk l9 c9 k9,
    m_place_masks := PySem.W.mg_of X G a9,
    b_place_masks := (fun_mk (st := s_place_masks) l9 c9 k9).binds (ps := ["alphabet"]) fun _ _ _ _ _ _ us hl => match us, hl with | [_], _ => rfl,
    f__law_below := f__law_below, d__law_below := PySem.W.fnOf "_law_below" "_law_below" (defArgs s__law_below) (defBody s__law_below) (defScope s__law_below) .none kV10 dc10 pm10 an10 cd10 ct10,
    F__law_below := fun_mk l10 c10 k10,
    m__law_below := PySem.W.mg_of X G a10,
    b__law_below := (fun_mk (st := s__law_below) l10 c10 k10).binds (ps := ["letters", "word"]) fun _ _ _ _ _ _ us hl => match us, hl with | [_, _], _ => rfl,
    f_bits_of := f_bits_of, d_bits_of := PySem.W.fnOf "bits_of" "bits_of" (defArgs s_bits_of) (defBody s_bits_of) (defScope s_bits_of) .none kV11 dc11 pm11 an11 cd11 ct11,
    F_bits_of := fun_mk l11 c11 k11,
    m_bits_of := PySem.W.mg_of X G a11,
    b_bits_of := (fun_mk (st := s_bits_of) l11 c11 k11).binds (ps := ["number"]) fun _ _ _ _ _ _ us hl => match us, hl with | [_], _ => rfl,
    f__masks_above := f__masks_above, d__masks_above := PySem.W.fnOf "_masks_above" "_masks_above" (defArgs s__masks_above) (defBody s__masks_above) (defScope s__masks_above) .none kV12 dc12 pm12 an12 cd12 ct12,
    F__masks_above := fun_mk l12 c12 k12,
    m__masks_above := PySem.W.mg_of X G a12,
    b__masks_above := (fun_mk (st := s__masks_above) l12 c12 k12).binds (ps := ["alphabet", "word"]) fun _ _ _ _ _ _ us hl => match us, hl with | [_, _], _ => rfl,
    f__first_rows := f__first_rows, d__first_rows := PySem.W.fnOf "_first_rows" "_first_rows" (defArgs s__first_rows) (defBody s__first_rows) (defScope s__first_rows) .none kV13 dc13 pm13 an13 cd13 ct13,
    F__first_rows := fun_mk l13 c13 k13,
    m__first_rows := PySem.W.mg_of X G a13,
    b__first_rows := (fun_mk (st := s__first_rows) l13 c13 k13).binds (ps := ["alphabet", "word"]) fun _ _ _ _ _ _ us hl => match us, hl with | [_, _], _ => rfl,
    f__searched := f__searched, d__searched := PySem.W.fnOf "_searched" "_searched" (defArgs s__searched) (defBody s__searched) (defScope s__searched) .none kV14 dc14 pm14 an14 cd14 ct14,
    F__searched := fun_mk l14 c14 k14,
    m__searched := PySem.W.mg_of X G a14,
    b__searched := (fun_mk (st := s__searched) l14 c14 k14).binds (ps := ["above", "behind", "ahead"]) fun _ _ _ _ _ _ us hl => match us, hl with | [_, _, _], _ => rfl,
    f__take_steps := f__take_steps, d__take_steps := PySem.W.fnOf "_take_steps" "_take_steps" (defArgs s__take_steps) (defBody s__take_steps) (defScope s__take_steps) .none kV15 dc15 pm15 an15 cd15 ct15,
    F__take_steps := fun_mk l15 c15 k15,
    m__take_steps := PySem.W.mg_of X G a15,
    b__take_steps := (fun_mk (st := s__take_steps) l15 c15 k15).binds (ps := ["behind", "ahead", "came_from", "end"]) fun _ _ _ _ _ _ us hl => match us, hl with | [_, _, _, _], _ => rfl,
    f__row := f__row, d__row := PySem.W.fnOf "_row" "_row" (defArgs s__row) (defBody s__row) (defScope s__row) .none kV16 dc16 pm16 an16 cd16 ct16,
    F__row := fun_mk l16 c16 k16,
    m__row := PySem.W.mg_of X G a16,
    b__row := (fun_mk (st := s__row) l16 c16 k16).binds (ps := ["behind", "first"]) fun _ _ _ _ _ _ us hl => match us, hl with | [_, _], _ => rfl,
    f_widest := f_widest, d_widest := PySem.W.fnOf "widest" "widest" (defArgs s_widest) (defBody s_widest) (defScope s_widest) .none kV17 dc17 pm17 an17 cd17 ct17,
    F_widest := fun_mk l17 c17 k17,
    m_widest := PySem.W.mg_of X G a17,
    b_widest := (fun_mk (st := s_widest) l17 c17 k17).binds (ps := ["alphabet", "word"]) fun _ _ _ _ _ _ us hl => match us, hl with | [_, _], _ => rfl,
    f_law := fa, d_law := PySem.W.fnOf "law" "law" (defArgs s_law) (defBody s_law) (defScope s_law) .none kV18 dc18 pm18 an18 cd18 ct18,
    F_law := fun_mk l18 c18 k18,
    m_law := PySem.W.mg_of X G a18,
    b_law := (fun_mk (st := s_law) l18 c18 k18).binds (ps := ["script"]) fun _ _ _ _ _ _ us hl => match us, hl with | [_], _ => rfl,
    c_Alphabet := c_Alphabet, mc_Alphabet := PySem.W.mg_of X G aC_Alphabet, mk_Alphabet := mk_Alphabet, in_Alphabet := a3, if_Alphabet := i3, kc_Alphabet := kc_Alphabet, cl_Alphabet := ⟨pg_Alphabet, hd_Alphabet, po_Alphabet, sa_Alphabet⟩,
    na_Alphabet_places := na_Alphabet_places,
    na_Alphabet_letters := na_Alphabet_letters,
    z_bool := PySem.W.mg_none_of X G z_bool,
    z_enumerate := PySem.W.mg_none_of X G z_enumerate,
    z_int := PySem.W.mg_none_of X G z_int,
    z_isinstance := PySem.W.mg_none_of X G z_isinstance,
    z_len := PySem.W.mg_none_of X G z_len,
    z_list := PySem.W.mg_none_of X G z_list,
    z_range := PySem.W.mg_none_of X G z_range,
    z_reversed := PySem.W.mg_none_of X G z_reversed,
    z_set := PySem.W.mg_none_of X G z_set,
    z_sorted := PySem.W.mg_none_of X G z_sorted,
    z_tuple := PySem.W.mg_none_of X G z_tuple,
    t_MOST_LETTERS := t_MOST_LETTERS, v_MOST_LETTERS := PySem.W.mg_of X G v_MOST_LETTERS,
    t_MOST_PLACES := t_MOST_PLACES, v_MOST_PLACES := PySem.W.mg_of X G v_MOST_PLACES }
  exact ⟨_, fun s v => .of_eq rfl, fun base _ _ => ok_law T⟩
theorem walk {l : PySem.W.OpenLaw} {q : Program} {loose : List Str} {XP : (Str → Option Value) → Heap → Prop} {YP : World → Heap → Prop} {d : DefRec} {K : Params → PySem.W.Frag} (hn : l.most = some 63) (hdf : d.params.defaults = [])
    (hY : ∀ (w : World) (h : Heap), YP w h → (K w.params).In h)
    (F : ∀ (w : World) (mg : Str → Option Value) (fa : Addr) (h : Heap), (K w.params).In h → h.Ns mainGlobals mg → mg d.name = some (.ref fa) →
      ∃ fd : FuncData, (∀ (s : Shared) (u : Value), BindsTo s fd ⟨[u], []⟩ [("script", u)]) ∧ ∀ base : Heap, (K w.params).In base → base.Ns mainGlobals mg → FnOk l.prog w (K w.params) mg base CX0 5 fa fd ["script"] (spLaw (K w.params))) :
    PySem.W.WalkO q loose XP YP l.row.toRowW d [] (fun f vs => PySem.call f vs) :=
  L2.walk_of (n := 63) (k := 5) (x := "script") (CX := fun _ => CX0) (sp := fun w => spLaw (K w.params)) hn (by decide) hdf ⟨rfl, by decide, by decide⟩ hY F (fun _ _ a ns hl _ hS => ⟨a, ns, rfl, hS, hl, fun _ => rfl⟩) fun _ _ _ _ _ z => z
end My
open PySem PySem.W PyProof.Rows in
set_option maxRecDepth 100000 in
set_option maxHeartbeats 0 in
theorem PySem.Challenge.cw_placewords_k56_whole_widths_holds : PySem.Challenge.rw_placewords_k56_whole_widths.Holds := by
  w_on; o_law; k_head; (case hw => w_witness2)
  k_fill
  refine My.walk (l := PySem.Challenge.rw_placewords_k56_whole_widths) rfl rfl (fun w h Y => PySem.W.kIn_of Y) ?F
  case F =>
    intro w mg fa h KX G hmg
    refine' My.all_mk KX G hmg ?aC_Alphabet ?a0 ?l0 ?c0 ?k0 ?a1 ?l1 ?c1 ?k1 ?a2 ?l2 ?c2 ?k2 ?a3 ?i3 ?l3 ?c3 ?k3 ?a4 ?l4 ?c4 ?k4 ?a5 ?l5 ?c5 ?k5 ?a6 ?l6 ?c6 ?k6 ?a7 ?l7 ?c7 ?k7 ?a8 ?l8 ?c8 ?k8 ?a9 ?l9 ?c9 ?k9 ?a10 ?l10 ?c10 ?k10 ?a11 ?l11 ?c11 ?k11 ?a12 ?l12 ?c12 ?k12 ?a13 ?l13 ?c13 ?k13 ?a14 ?l14 ?c14 ?k14 ?a15 ?l15 ?c15 ?k15 ?a16 ?l16 ?c16 ?k16 ?a17 ?l17 ?c17 ?k17 ?a18 ?l18 ?c18 ?k18 ?pg_Alphabet ?hd_Alphabet ?po_Alphabet ?sa_Alphabet ?mk_Alphabet ?kc_Alphabet ?na_Alphabet_places ?na_Alphabet_letters ?z_bool ?z_enumerate ?z_int ?z_isinstance ?z_len ?z_list ?z_range ?z_reversed ?z_set ?z_sorted ?z_tuple ?v_MOST_LETTERS ?v_MOST_PLACES
    (case aC_Alphabet => k_is)
    (case a0 => k_is)
    (case l0 => k_is)
    (case c0 => k_is)
    (case k0 => k_is)
    (case a1 => k_is)
    (case l1 => k_is)
    (case c1 => k_is)
    (case k1 => k_is)
    (case a2 => k_is)
    (case l2 => k_is)
    (case c2 => k_is)
    (case k2 => k_is)
    (case a3 => k_is)
    (case i3 => k_is)
    (case l3 => k_is)
    (case c3 => k_is)
    (case k3 => k_is)
    (case a4 => k_is)
    (case l4 => k_is)
    (case c4 => k_is)
    (case k4 => k_is)
    (case a5 => k_is)
    (case l5 => k_is)
    (case c5 => k_is)
    (case k5 => k_is)
    (case a6 => k_is)
    (case l6 => k_is)
    (case c6 => k_is)
    (case k6 => k_is)
    (case a7 => k_is)
    (case l7 => k_is)
    (case c7 => k_is)
    (case k7 => k_is)
    (case a8 => k_is)
    (case l8 => k_is)
    (case c8 => k_is)
    (case k8 => k_is)
    (case a9 => k_is)
    (case l9 => k_is)
    (case c9 => k_is)
    (case k9 => k_is)
    (case a10 => k_is)
    (case l10 => k_is)
    (case c10 => k_is)
    (case k10 => k_is)
    (case a11 => k_is)
    (case l11 => k_is)
    (case c11 => k_is)
    (case k11 => k_is)
    (case a12 => k_is)
    (case l12 => k_is)
    (case c12 => k_is)
    (case k12 => k_is)
    (case a13 => k_is)
    (case l13 => k_is)
    (case c13 => k_is)
    (case k13 => k_is)
    (case a14 => k_is)
    (case l14 => k_is)
    (case c14 => k_is)
    (case k14 => k_is)
    (case a15 => k_is)
    (case l15 => k_is)
    (case c15 => k_is)
    (case k15 => k_is)
    (case a16 => k_is)
    (case l16 => k_is)
    (case c16 => k_is)
    (case k16 => k_is)
    (case a17 => k_is)
    (case l17 => k_is)
    (case c17 => k_is)
    (case k17 => k_is)
    (case a18 => k_is)
    (case l18 => k_is)
    (case c18 => k_is)
    (case k18 => k_is)
    (case pg_Alphabet => k_is)
    (case hd_Alphabet => k_is)
    (case po_Alphabet => k_is)
    (case sa_Alphabet => k_is)
    (case mk_Alphabet => k_is)
    (case kc_Alphabet => k_is)
    (case na_Alphabet_places => k_is)
    (case na_Alphabet_letters => k_is)
    (case z_bool => k_is)
    (case z_enumerate => k_is)
    (case z_int => k_is)
    (case z_isinstance => k_is)
    (case z_len => k_is)
    (case z_list => k_is)
    (case z_range => k_is)
    (case z_reversed => k_is)
    (case z_set => k_is)
    (case z_sorted => k_is)
    (case z_tuple => k_is)
    (case v_MOST_LETTERS => k_is)
    (case v_MOST_PLACES => k_is)
